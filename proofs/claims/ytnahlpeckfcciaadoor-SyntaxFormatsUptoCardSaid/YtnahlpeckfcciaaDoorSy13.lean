/- Proved: plain facts on descriptions that were formatted: which statements are found in them. Conditions: as each theorem states. Nothing of the program is used. -/
import Derived.Test.YtnahlpeckfcciaaDoorSy6
import Derived.Test.YtnahlpeckfcciaaDoorSy7
namespace Go.Proofs.YtnahlpeckfcciaaDoor
open Go.RowKit

def flT (cur : Option (List Nat)) (line : Nat) (out : List (List Nat × Nat)) : List (List Nat × Nat) :=
  match cur with
  | none => out
  | some t => out ++ [(t, line)]
/-- What chapter 6 finds, by texts and lines alone. -/
def rT : List Nat → Nat → Bool → Option (List Nat) → List (List Nat × Nat) → Option (List (List Nat × Nat))
  | [], line, _, cur, out => some (flT cur line out)
  | c :: l, line, com, cur, out =>
    if com = false ∧ wb c = true then rT l line false (some (cur.getD [] ++ [c])) out
    else if c = 10 then rT l (line + 1) false none (flT cur line out)
    else if com = true then rT l line true none (flT cur line out)
    else if c = 35 then rT l line true none (flT cur line out)
    else if c = 32 ∨ c = 9 then rT l line false none (flT cur line out)
    else none
def txtW (L : List Nat) (x : Wd) : List Nat × Nat := ((L.drop x.a).take (x.b - x.a), x.line)
def curOf (L : List Nat) (i : Nat) (st : Option Nat) : Option (List Nat) := st.map fun a => (L.drop a).take (i - a)
theorem flush_txt (L : List Nat) (st : Option Nat) (i line bg : Nat) (out : List Wd) : (flush st i line bg out).map (txtW L) = flT (curOf L i st) line (out.map (txtW L)) := by
  cases st with
  | none => rfl
  | some a => simp [flush, flT, curOf, txtW]
theorem run_txt (L : List Nat) (l : List Nat) : ∀ (i line bg : Nat) (com : Bool) (st : Option Nat) (out W : List Wd), l = L.drop i → i ≤ L.length → (∀ a, st = some a → a ≤ i) → run l i line bg com st out = .ok W → rT l line com (curOf L i st) (out.map (txtW L)) = some (W.map (txtW L)) := by
  induction l with
  | nil =>
    intro i line bg com st out W _ _ _ h
    simp only [run] at h
    injection h with h
    rw [← h, flush_txt]
    rfl
  | cons c l ih =>
    intro i line bg com st out W hl hi hst h
    have hlt : i < L.length := by
      rcases Nat.lt_or_ge i L.length with h1 | h1
      · exact h1
      · rw [List.drop_eq_nil_of_le h1] at hl; cases hl
    have hd := List.drop_eq_getElem_cons hlt
    rw [← hl] at hd
    injection hd with hc hl'
    rw [run] at h
    rw [rT]
    by_cases h1 : com = false ∧ wb c = true
    · rw [if_pos h1] at h ⊢
      have := ih _ _ _ _ _ _ _ hl' (by omega) (fun a ha => by
        cases st with
        | none => simp at ha; omega
        | some b => simp at ha; have := hst b rfl; omega) h
      rw [← this]
      congr 1
      cases st with
      | none =>
        simp only [curOf, Option.map_none, Option.getD_none, Option.map_some, List.nil_append]
        rw [show i + 1 - i = 1 by omega, List.drop_eq_getElem_cons hlt, List.take_succ_cons, List.take_zero, hc]
      | some a =>
        have ha := hst a rfl
        simp only [curOf, Option.map_some, Option.getD_some]
        congr 1
        have e : i + 1 - a = (i - a) + 1 := by omega
        have hlen : i - a < (L.drop a).length := by rw [List.length_drop]; omega
        rw [e, List.take_succ_eq_append_getElem hlen, List.getElem_drop, hc]
        congr 2
        congr 1
        omega
    · rw [if_neg h1] at h ⊢
      by_cases h2 : c = 10
      · rw [if_pos h2] at h ⊢
        have := ih _ _ _ _ _ _ _ hl' (by omega) (fun a ha => by cases ha) h
        rw [flush_txt] at this
        exact this
      · rw [if_neg h2] at h ⊢
        by_cases h3 : com = true
        · rw [if_pos h3] at h ⊢
          have := ih _ _ _ _ _ _ _ hl' (by omega) (fun a ha => by cases ha) h
          rw [flush_txt] at this
          exact this
        · rw [if_neg h3] at h ⊢
          by_cases h4 : c = 35
          · rw [if_pos h4] at h ⊢
            have := ih _ _ _ _ _ _ _ hl' (by omega) (fun a ha => by cases ha) h
            rw [flush_txt] at this
            exact this
          · rw [if_neg h4] at h ⊢
            by_cases h5 : c = 32 ∨ c = 9
            · rw [if_pos h5] at h ⊢
              have := ih _ _ _ _ _ _ _ hl' (by omega) (fun a ha => by cases ha) h
              rw [flush_txt] at this
              exact this
            · rw [if_neg h5] at h; cases h
/-- Where the words can be read, Split finds some. -/
theorem rT_run (l : List Nat) : ∀ (i line bg : Nat) (com : Bool) (st : Option Nat) (cur : Option (List Nat)) (out : List Wd) (o2 W : List (List Nat × Nat)), rT l line com cur o2 = some W → ∃ W', run l i line bg com st out = .ok W' := by
  induction l with
  | nil => intro i line bg com st cur out o2 W _; exact ⟨_, rfl⟩
  | cons c l ih =>
    intro i line bg com st cur out o2 W h
    rw [rT] at h
    rw [run]
    by_cases h1 : com = false ∧ wb c = true
    · rw [if_pos h1] at h ⊢; exact ih _ _ _ _ _ _ _ _ _ h
    · rw [if_neg h1] at h ⊢
      by_cases h2 : c = 10
      · rw [if_pos h2] at h ⊢; exact ih _ _ _ _ _ _ _ _ _ h
      · rw [if_neg h2] at h ⊢
        by_cases h3 : com = true
        · rw [if_pos h3] at h ⊢; exact ih _ _ _ _ _ _ _ _ _ h
        · rw [if_neg h3] at h ⊢
          by_cases h4 : c = 35
          · rw [if_pos h4] at h ⊢; exact ih _ _ _ _ _ _ _ _ _ h
          · rw [if_neg h4] at h ⊢
            by_cases h5 : c = 32 ∨ c = 9
            · rw [if_pos h5] at h ⊢; exact ih _ _ _ _ _ _ _ _ _ h
            · rw [if_neg h5] at h; cases h
theorem grp_congr : ∀ {u v : List Tw}, u.map (fun w => (w.t, w.l)) = v.map (fun w => (w.t, w.l)) → grp u = grp v := by
  intro u
  induction u with
  | nil => intro v h; cases v with
    | nil => rfl
    | cons y v => cases h
  | cons x u ih =>
    intro v h
    cases v with
    | nil => cases h
    | cons y v =>
      simp only [List.map_cons, List.cons.injEq, Prod.mk.injEq] at h
      rw [grp, grp, ih h.2, h.1.1, h.1.2]
/-- The words of statements, with their lines. -/
def flatS (l : List St) : List Tw := l.flatMap fun g => (g.word :: g.args).map fun t => ⟨t, g.line, 0⟩
theorem grp_flat : ∀ {l : List St}, l.Pairwise (fun a b => a.line < b.line) → grp (flatS l) = l := by
  intro l
  induction l with
  | nil => intro _; rfl
  | cons g l ih =>
    intro h
    rw [List.pairwise_cons] at h
    have e : flatS (g :: l) = (⟨g.word, g.line, 0⟩ : Tw) :: (g.args.map (fun t => (⟨t, g.line, 0⟩ : Tw)) ++ flatS l) := by simp [flatS]
    rw [e, grp_line _ _ _ (fun y hy => by obtain ⟨t, _, rfl⟩ := List.mem_map.1 hy; rfl) ?_, ih h.2]
    · simp [Function.comp_def]
    · intro z u hz
      have hzm : z ∈ flatS l := by rw [hz]; simp
      unfold flatS at hzm
      rw [List.mem_flatMap] at hzm
      obtain ⟨g', hg', hz'⟩ := hzm
      obtain ⟨t, _, rfl⟩ := List.mem_map.1 hz'
      have := h.1 g' hg'
      simp only
      omega
/-- The statements that are found where these words are found. -/
theorem parse_found {s : ByteArray} {l : List St} (h16 : s.size ≤ 16384) (hr : rT (bts s) 1 false none [] = some ((flatS l).map fun w => (bts w.t, w.l.toNat))) (hl : ∀ g ∈ l, 0 ≤ g.line) (hp : l.Pairwise (fun a b => a.line < b.line)) (hn : l.length ≤ 256) (hg : ∀ g ∈ l, GoodSt g) : parseS s = ⟨l, 0, 0⟩ := by
  obtain ⟨W, hW⟩ := rT_run (bts s) 0 1 0 false none none [] [] _ hr
  have hs : splitS s = .ok W := by unfold splitS; rw [if_neg (by omega)]; exact hW
  have ht := run_txt (bts s) (bts s) 0 1 0 false none [] W (by simp) (Nat.zero_le _) (fun a ha => by cases ha) hW
  simp only [curOf, Option.map_none, List.map_nil] at ht
  rw [hr] at ht
  injection ht with ht
  have hm : (W.map (wdT s)).map (fun w => (w.t, w.l)) = (flatS l).map (fun w => (w.t, w.l)) := by
    have hlen := congrArg List.length ht
    simp only [List.length_map] at hlen
    apply List.ext_getElem
    · simp only [List.length_map]; exact hlen.symm
    · intro k h1 h2
      simp only [List.length_map] at h1 h2
      have e := congrArg (fun L => L[k]?) ht
      simp only [List.getElem?_map, List.getElem?_eq_getElem h1, List.getElem?_eq_getElem h2, Option.map_some, Option.some.injEq, txtW, Prod.mk.injEq] at e
      simp only [List.getElem_map, wdT, Prod.mk.injEq]
      refine ⟨bts_inj (by rw [bts_extract]; exact e.1.symm), ?_⟩
      have h3 : (flatS l)[k] ∈ flatS l := List.getElem_mem _
      unfold flatS at h3
      rw [List.mem_flatMap] at h3
      obtain ⟨g', hg', hz'⟩ := h3
      obtain ⟨t, _, hz2⟩ := List.mem_map.1 hz'
      have h4 := hl g' hg'
      have h5 : 0 ≤ ((flatS l)[k]).l := by unfold flatS; rw [← hz2]; exact h4
      have := e.2
      omega
  have hgr : grp (W.map (wdT s)) = l := by rw [grp_congr hm, grp_flat hp]
  rw [parse_ok hs (by rw [hgr]; exact chk_none.2 ⟨.inl (by omega), hg⟩), hgr]
end Go.Proofs.YtnahlpeckfcciaaDoor
