/- Proved: plain facts on descriptions: the statements of a text that begins with whole lines. Conditions: as each theorem states. · Proved: plain facts on descriptions that were formatted: which statements are found in them. Conditions: as each theorem states. Nothing of the program is used. · Proved: plain facts on descriptions that were formatted: parsing them gives the statements again. Conditions: as each theorem states. -/
import Derived.Test.YtpaiapcnoifpmaaDoorTkR
import Derived.Test.YtpaiapcnoifpmaaDoorSy4
import Derived.Test.YtpaiapcnoifpmaaDoorSy8
namespace Go.Proofs.YtpaiapcnoifpmaaDoor
open Go.RowKit

theorem flush_more (st : Option Nat) (i line bg : Nat) (out : List Wd) : ∃ e, flush st i line bg out = out ++ e ∧ ∀ w ∈ e, w.line = line ∧ w.b = i := by
  cases st with
  | none => exact ⟨[], by simp [flush], by simp⟩
  | some a => exact ⟨[⟨a, i, line, (a : Int) - bg + 1⟩], rfl, by simp⟩
/-- One byte. -/
theorem run_step (c i line bg : Nat) (com : Bool) (st : Option Nat) (out : List Wd) : (¬ (9 ≤ c ∧ c ≤ 10 ∨ 32 ≤ c ∧ c ≤ 126) ∧ ∀ l, run (c :: l) i line bg com st out = .bad line) ∨
    ∃ line2 bg2 com2 st2 e, line ≤ line2 ∧ (∀ w ∈ e, w.line = line ∧ w.b = i) ∧ (c = 10 → line2 = line + 1 ∧ bg2 = i + 1 ∧ com2 = false ∧ st2 = none) ∧ ∀ l, run (c :: l) i line bg com st out = run l (i + 1) line2 bg2 com2 st2 (out ++ e) := by
  obtain ⟨e, he, hm⟩ := flush_more st i line bg out
  by_cases h10 : c = 10
  · exact .inr ⟨line + 1, i + 1, false, none, e, by omega, hm, fun _ => ⟨rfl, rfl, rfl, rfl⟩, fun l => by rw [run_line h10, he]⟩
  · cases com with
    | true => exact .inr ⟨line, bg, true, none, e, Nat.le_refl _, hm, fun h => absurd h h10, fun l => by rw [run_com h10, he]⟩
    | false =>
      cases hw : wb c with
      | true => exact .inr ⟨line, bg, false, some (st.getD i), [], Nat.le_refl _, by simp, fun h => absurd h h10, fun l => by rw [run_word hw, List.append_nil]⟩
      | false =>
        by_cases h35 : c = 35
        · exact .inr ⟨line, bg, true, none, e, Nat.le_refl _, hm, fun h => absurd h h10, fun l => by rw [run_hash h35, he]⟩
        · by_cases hg : c = 32 ∨ c = 9
          · exact .inr ⟨line, bg, false, none, e, Nat.le_refl _, hm, fun h => absurd h h10, fun l => by rw [run_gap hg, he]⟩
          · have := wb_not.1 hw
            exact .inl ⟨by omega, fun l => run_bad hw h10 h35 (by omega) (by omega)⟩
/-- Whole lines, and what is behind them. -/
theorem run_cat (x : List Nat) : ∀ (i line bg : Nat) (com : Bool) (st : Option Nat) (out : List Wd), (∃ k, ∀ y, run (x ++ 10 :: y) i line bg com st out = .bad k) ∨
    ∃ line' e, line < line' ∧ (∀ w ∈ e, w.line < line' ∧ w.b ≤ i + x.length) ∧ ∀ y, run (x ++ 10 :: y) i line bg com st out = run y (i + x.length + 1) line' (i + x.length + 1) false none (out ++ e) := by
  induction x with
  | nil =>
    intro i line bg com st out
    obtain ⟨e, he, hm⟩ := flush_more st i line bg out
    exact .inr ⟨line + 1, e, by omega, fun w hw => by have := hm w hw; simp; omega, fun y => by rw [List.nil_append, run_line rfl, he]; rfl⟩
  | cons c x ih =>
    intro i line bg com st out
    rcases run_step c i line bg com st out with ⟨_, h⟩ | ⟨line2, bg2, com2, st2, e, hl, hm, _, h⟩
    · exact .inl ⟨line, fun y => h _⟩
    · rcases ih (i + 1) line2 bg2 com2 st2 (out ++ e) with ⟨k, h2⟩ | ⟨line', e', hl', hm', h2⟩
      · exact .inl ⟨k, fun y => (h _).trans (h2 y)⟩
      · refine .inr ⟨line', e ++ e', by omega, fun w hw => ?_, fun y => ?_⟩
        · rcases List.mem_append.1 hw with hw | hw
          · have := hm w hw; simp; omega
          · have := hm' w hw; simp; omega
        · rw [List.cons_append, h, h2, List.append_assoc, List.length_cons]
          congr 1 <;> omega
/-- The words that are found later. -/
theorem run_more {l : List Nat} : ∀ {i line bg : Nat} {com : Bool} {st : Option Nat} {out W : List Wd}, run l i line bg com st out = .ok W → ∃ more, W = out ++ more ∧ ∀ w ∈ more, line ≤ w.line := by
  induction l with
  | nil =>
    intro i line bg com st out W h
    obtain ⟨e, he, hm⟩ := flush_more st i line bg out
    simp only [run] at h
    injection h with h
    exact ⟨e, by rw [← h, he], fun w hw => by have := hm w hw; omega⟩
  | cons c l ih =>
    intro i line bg com st out W h
    rcases run_step c i line bg com st out with ⟨_, h1⟩ | ⟨line2, bg2, com2, st2, e, hl, hm, _, h1⟩
    · rw [h1] at h; cases h
    · rw [h1] at h
      obtain ⟨more, hW, h2⟩ := ih h
      refine ⟨e ++ more, by rw [hW, List.append_assoc], fun w hw => ?_⟩
      rcases List.mem_append.1 hw with hw | hw
      · have := hm w hw; omega
      · have := h2 w hw; omega
/-- A text without other bytes has words. -/
theorem run_clean {l : List Nat} : ∀ {i line bg : Nat} {com : Bool} {st : Option Nat} {out : List Wd}, (∀ c ∈ l, 9 ≤ c ∧ c ≤ 10 ∨ 32 ≤ c ∧ c ≤ 126) → ∃ W, run l i line bg com st out = .ok W := by
  induction l with
  | nil => intro i line bg com st out _; exact ⟨_, rfl⟩
  | cons c l ih =>
    intro i line bg com st out hc
    rcases run_step c i line bg com st out with ⟨h0, _⟩ | ⟨line2, bg2, com2, st2, e, _, _, _, h1⟩
    · exact absurd (hc c (by simp)) h0
    · rw [h1]
      exact ih (fun x hx => hc x (by simp [hx]))
theorem grp_append {u v : List Tw} (h : ∀ a ∈ u, ∀ b ∈ v, a.l ≠ b.l) : grp (u ++ v) = grp u ++ grp v := by
  induction u with
  | nil => rfl
  | cons x u ih =>
    have ih' := ih (fun a ha b hb => h a (by simp [ha]) b hb)
    rw [List.cons_append, grp, ih']
    cases u with
    | nil =>
      cases v with
      | nil => rfl
      | cons y v =>
        obtain ⟨g, gs, h1, h2⟩ := grp_head y v
        rw [show grp ([] : List Tw) = [] from rfl, List.nil_append, h1]
        simp only
        rw [if_neg (by rw [h2]; exact (h x (by simp) y (by simp)).symm)]
        rfl
    | cons y u =>
      obtain ⟨g, gs, h1, h2⟩ := grp_head y u
      rw [show grp (x :: y :: u) = (match grp (y :: u) with
        | [] => [⟨x.l, x.t, []⟩]
        | g :: gs => if g.line = x.l then ⟨x.l, x.t, g.word :: g.args⟩ :: gs else ⟨x.l, x.t, []⟩ :: g :: gs) from rfl, h1, List.cons_append]
      simp only
      split <;> rfl
theorem chk_append_err {u v : List St} {e k : Int} : ∀ {n : Nat}, chk n u = some (e, k) → chk n (u ++ v) = some (e, k) := by
  induction u with
  | nil => intro n h; cases h
  | cons g u ih =>
    intro n h
    rw [chk] at h
    rw [List.cons_append, chk]
    split at h
    · rw [if_pos (by assumption)]; exact h
    · rw [if_neg (by assumption)]
      split at h
      · rw [if_pos (by assumption)]; exact h
      · rw [if_neg (by assumption)]
        split at h
        · rw [if_pos (by assumption)]; exact h
        · rw [if_neg (by assumption)]; exact ih h
theorem chk_codes {l : List St} {e k : Int} : ∀ {n : Nat}, chk n l = some (e, k) → e = 701 ∨ e = 702 ∨ e = 703 := by
  induction l with
  | nil => intro n h; cases h
  | cons g l ih =>
    intro n h
    rw [chk] at h
    split at h
    · injection h with h; injection h with h _; omega
    · split at h
      · injection h with h; injection h with h _; omega
      · split at h
        · injection h with h; injection h with h _; omega
        · exact ih h
theorem parse_code (s : ByteArray) : (parseS s).err = 0 ∨ (parseS s).err = 601 ∧ (parseS s).sts = [] ∨ (701 ≤ (parseS s).err ∧ (parseS s).err ≤ 703) ∧ (parseS s).sts = [] := by
  cases hs : splitS s with
  | bad k => rw [parse_bad hs]; exact .inr (.inl ⟨rfl, rfl⟩)
  | ok l =>
    cases hc : chk 0 (grp (l.map (wdT s))) with
    | none => rw [parse_ok hs hc]; exact .inl rfl
    | some p =>
      obtain ⟨e, k⟩ := p
      rw [parse_err hs hc]
      have := chk_codes hc
      exact .inr (.inr ⟨by dsimp only; omega, rfl⟩)
theorem word_front {a b : ByteArray} {x : Wd} (h : x.b ≤ a.size) : wdT (a ++ b) x = wdT a x := by
  unfold wdT
  congr 1
  apply bts_inj
  rw [bts_extract, bts_extract, bts_append]
  rcases Nat.lt_or_ge a.size x.a with hlt | hge
  · rw [show x.b - x.a = 0 by omega, List.take_zero, List.take_zero]
  · rw [List.drop_append_of_le_length (by rw [bts_len]; exact hge), List.take_append_of_le_length (by rw [List.length_drop, bts_len]; omega)]
/-- The first lines of a description have the first statements. -/
theorem parse_prefix {a b : ByteArray} (ha : bts a = [] ∨ ∃ x, bts a = x ++ [10]) (hb : ∀ c ∈ bts b, 9 ≤ c ∧ c ≤ 10 ∨ 32 ≤ c ∧ c ≤ 126) (hs : a.size + b.size ≤ 16384) :
    ((parseS a).err ≠ 0 → (parseS (a ++ b)).err = (parseS a).err ∧ (parseS (a ++ b)).ln = (parseS a).ln) ∧ ((parseS a).err = 0 → (parseS (a ++ b)).err = 0 → ∃ more, (parseS (a ++ b)).sts = (parseS a).sts ++ more) := by
  rcases ha with ha | ⟨x, hx⟩
  · have h0 : splitS a = .ok [] := by
      unfold splitS
      rw [if_neg (by omega), ha]
      rfl
    rw [parse_ok h0 (by rfl)]
    exact ⟨fun h => absurd rfl h, fun _ _ => ⟨_, rfl⟩⟩
  · have hsz : (a ++ b).size ≤ 16384 := by rw [ByteArray.size_append]; exact hs
    have hxl : x.length + 1 = a.size := by rw [← bts_len, hx]; simp
    have sa : splitS a = run (x ++ 10 :: []) 0 1 0 false none [] := by unfold splitS; rw [if_neg (by omega), hx]
    have sab : splitS (a ++ b) = run (x ++ 10 :: bts b) 0 1 0 false none [] := by unfold splitS; rw [if_neg (by omega), bts_append, hx, List.append_assoc]; rfl
    rcases run_cat x 0 1 0 false none [] with ⟨k, h⟩ | ⟨line', e, hl, hm, h⟩
    · rw [h] at sa sab
      rw [parse_bad sa, parse_bad sab]
      exact ⟨fun _ => ⟨rfl, rfl⟩, fun h => absurd h (by simp)⟩
    · rw [h] at sa sab
      rw [List.nil_append] at sa sab
      have sa2 : splitS a = .ok e := by rw [sa]; rfl
      obtain ⟨W, hW⟩ := run_clean (l := bts b) (i := 0 + x.length + 1) (line := line') (bg := 0 + x.length + 1) (com := false) (st := none) (out := e) hb
      obtain ⟨more, rfl, hmo⟩ := run_more hW
      have sab2 : splitS (a ++ b) = .ok (e ++ more) := by rw [sab, hW]
      have hmap : (e ++ more).map (wdT (a ++ b)) = e.map (wdT a) ++ more.map (wdT (a ++ b)) := by
        rw [List.map_append]
        congr 1
        exact List.map_congr_left fun w hw => word_front (by have := hm w hw; omega)
      have hg : grp ((e ++ more).map (wdT (a ++ b))) = grp (e.map (wdT a)) ++ grp (more.map (wdT (a ++ b))) := by
        rw [hmap]
        apply grp_append
        intro p hp q hq
        obtain ⟨w, hw, rfl⟩ := List.mem_map.1 hp
        obtain ⟨w', hw', rfl⟩ := List.mem_map.1 hq
        have h1 := hm w hw
        have h2 := hmo w' hw'
        simp only [wdT]
        omega
      cases hc : chk 0 (grp (e.map (wdT a))) with
      | some p =>
        obtain ⟨er, k⟩ := p
        rw [parse_err sa2 hc, parse_err sab2 (by rw [hg]; exact chk_append_err hc)]
        exact ⟨fun _ => ⟨rfl, rfl⟩, fun h => absurd h (by have := chk_codes hc; dsimp only; omega)⟩
      | none =>
        rw [parse_ok sa2 hc]
        refine ⟨fun h => absurd rfl h, fun _ h0 => ?_⟩
        cases hc2 : chk 0 (grp ((e ++ more).map (wdT (a ++ b)))) with
        | some p =>
          obtain ⟨er, k⟩ := p
          rw [parse_err sab2 hc2] at h0
          exact absurd h0 (by have := chk_codes hc2; dsimp only; omega)
        | none =>
          rw [parse_ok sab2 hc2]
          exact ⟨_, hg⟩
end Go.Proofs.YtpaiapcnoifpmaaDoor
namespace Go.Proofs.YtpaiapcnoifpmaaDoor
open Go.RowKit

def flT (cur : Option (List Nat)) (line : Nat) (out : List (List Nat × Nat)) : List (List Nat × Nat) :=
  match cur with
  | none => out
  | some t => out ++ [(t, line)]
/-- What chapter 6 finds, by texts and lines alone. -/
def rT : List Nat → Nat → Bool → Option (List Nat) → List (List Nat × Nat) → Option (List (List Nat × Nat))
  | [], line, _, cur, out => some (flT cur line out)
  | c :: l, line, com, cur, out =>
    if com = false ∧ wb c = true then rT l line false (some (cur.getD [] ++ [c])) out
    else if c = 10 then rT l (line + 1) false none (flT cur line out)
    else if com = true then rT l line true none (flT cur line out)
    else if c = 35 then rT l line true none (flT cur line out)
    else if c = 32 ∨ c = 9 then rT l line false none (flT cur line out)
    else none
def txtW (L : List Nat) (x : Wd) : List Nat × Nat := ((L.drop x.a).take (x.b - x.a), x.line)
def curOf (L : List Nat) (i : Nat) (st : Option Nat) : Option (List Nat) := st.map fun a => (L.drop a).take (i - a)
theorem flush_txt (L : List Nat) (st : Option Nat) (i line bg : Nat) (out : List Wd) : (flush st i line bg out).map (txtW L) = flT (curOf L i st) line (out.map (txtW L)) := by
  cases st with
  | none => rfl
  | some a => simp [flush, flT, curOf, txtW]
theorem run_txt (L : List Nat) (l : List Nat) : ∀ (i line bg : Nat) (com : Bool) (st : Option Nat) (out W : List Wd), l = L.drop i → i ≤ L.length → (∀ a, st = some a → a ≤ i) → run l i line bg com st out = .ok W → rT l line com (curOf L i st) (out.map (txtW L)) = some (W.map (txtW L)) := by
  induction l with
  | nil =>
    intro i line bg com st out W _ _ _ h
    simp only [run] at h
    injection h with h
    rw [← h, flush_txt]
    rfl
  | cons c l ih =>
    intro i line bg com st out W hl hi hst h
    have hlt : i < L.length := by
      rcases Nat.lt_or_ge i L.length with h1 | h1
      · exact h1
      · rw [List.drop_eq_nil_of_le h1] at hl; cases hl
    have hd := List.drop_eq_getElem_cons hlt
    rw [← hl] at hd
    injection hd with hc hl'
    rw [run] at h
    rw [rT]
    by_cases h1 : com = false ∧ wb c = true
    · rw [if_pos h1] at h ⊢
      have := ih _ _ _ _ _ _ _ hl' (by omega) (fun a ha => by
        cases st with
        | none => simp at ha; omega
        | some b => simp at ha; have := hst b rfl; omega) h
      rw [← this]
      congr 1
      cases st with
      | none =>
        simp only [curOf, Option.map_none, Option.getD_none, Option.map_some, List.nil_append]
        rw [show i + 1 - i = 1 by omega, List.drop_eq_getElem_cons hlt, List.take_succ_cons, List.take_zero, hc]
      | some a =>
        have ha := hst a rfl
        simp only [curOf, Option.map_some, Option.getD_some]
        congr 1
        have e : i + 1 - a = (i - a) + 1 := by omega
        have hlen : i - a < (L.drop a).length := by rw [List.length_drop]; omega
        rw [e, List.take_succ_eq_append_getElem hlen, List.getElem_drop, hc]
        congr 2
        congr 1
        omega
    · rw [if_neg h1] at h ⊢
      by_cases h2 : c = 10
      · rw [if_pos h2] at h ⊢
        have := ih _ _ _ _ _ _ _ hl' (by omega) (fun a ha => by cases ha) h
        rw [flush_txt] at this
        exact this
      · rw [if_neg h2] at h ⊢
        by_cases h3 : com = true
        · rw [if_pos h3] at h ⊢
          have := ih _ _ _ _ _ _ _ hl' (by omega) (fun a ha => by cases ha) h
          rw [flush_txt] at this
          exact this
        · rw [if_neg h3] at h ⊢
          by_cases h4 : c = 35
          · rw [if_pos h4] at h ⊢
            have := ih _ _ _ _ _ _ _ hl' (by omega) (fun a ha => by cases ha) h
            rw [flush_txt] at this
            exact this
          · rw [if_neg h4] at h ⊢
            by_cases h5 : c = 32 ∨ c = 9
            · rw [if_pos h5] at h ⊢
              have := ih _ _ _ _ _ _ _ hl' (by omega) (fun a ha => by cases ha) h
              rw [flush_txt] at this
              exact this
            · rw [if_neg h5] at h; cases h
/-- Where the words can be read, Split finds some. -/
theorem rT_run (l : List Nat) : ∀ (i line bg : Nat) (com : Bool) (st : Option Nat) (cur : Option (List Nat)) (out : List Wd) (o2 W : List (List Nat × Nat)), rT l line com cur o2 = some W → ∃ W', run l i line bg com st out = .ok W' := by
  induction l with
  | nil => intro i line bg com st cur out o2 W _; exact ⟨_, rfl⟩
  | cons c l ih =>
    intro i line bg com st cur out o2 W h
    rw [rT] at h
    rw [run]
    by_cases h1 : com = false ∧ wb c = true
    · rw [if_pos h1] at h ⊢; exact ih _ _ _ _ _ _ _ _ _ h
    · rw [if_neg h1] at h ⊢
      by_cases h2 : c = 10
      · rw [if_pos h2] at h ⊢; exact ih _ _ _ _ _ _ _ _ _ h
      · rw [if_neg h2] at h ⊢
        by_cases h3 : com = true
        · rw [if_pos h3] at h ⊢; exact ih _ _ _ _ _ _ _ _ _ h
        · rw [if_neg h3] at h ⊢
          by_cases h4 : c = 35
          · rw [if_pos h4] at h ⊢; exact ih _ _ _ _ _ _ _ _ _ h
          · rw [if_neg h4] at h ⊢
            by_cases h5 : c = 32 ∨ c = 9
            · rw [if_pos h5] at h ⊢; exact ih _ _ _ _ _ _ _ _ _ h
            · rw [if_neg h5] at h; cases h
theorem grp_congr : ∀ {u v : List Tw}, u.map (fun w => (w.t, w.l)) = v.map (fun w => (w.t, w.l)) → grp u = grp v := by
  intro u
  induction u with
  | nil => intro v h; cases v with
    | nil => rfl
    | cons y v => cases h
  | cons x u ih =>
    intro v h
    cases v with
    | nil => cases h
    | cons y v =>
      simp only [List.map_cons, List.cons.injEq, Prod.mk.injEq] at h
      rw [grp, grp, ih h.2, h.1.1, h.1.2]
/-- The words of statements, with their lines. -/
def flatS (l : List St) : List Tw := l.flatMap fun g => (g.word :: g.args).map fun t => ⟨t, g.line, 0⟩
theorem grp_flat : ∀ {l : List St}, l.Pairwise (fun a b => a.line < b.line) → grp (flatS l) = l := by
  intro l
  induction l with
  | nil => intro _; rfl
  | cons g l ih =>
    intro h
    rw [List.pairwise_cons] at h
    have e : flatS (g :: l) = (⟨g.word, g.line, 0⟩ : Tw) :: (g.args.map (fun t => (⟨t, g.line, 0⟩ : Tw)) ++ flatS l) := by simp [flatS]
    rw [e, grp_line _ _ _ (fun y hy => by obtain ⟨t, _, rfl⟩ := List.mem_map.1 hy; rfl) ?_, ih h.2]
    · simp [Function.comp_def]
    · intro z u hz
      have hzm : z ∈ flatS l := by rw [hz]; simp
      unfold flatS at hzm
      rw [List.mem_flatMap] at hzm
      obtain ⟨g', hg', hz'⟩ := hzm
      obtain ⟨t, _, rfl⟩ := List.mem_map.1 hz'
      have := h.1 g' hg'
      simp only
      omega
/-- The statements that are found where these words are found. -/
theorem parse_found {s : ByteArray} {l : List St} (h16 : s.size ≤ 16384) (hr : rT (bts s) 1 false none [] = some ((flatS l).map fun w => (bts w.t, w.l.toNat))) (hl : ∀ g ∈ l, 0 ≤ g.line) (hp : l.Pairwise (fun a b => a.line < b.line)) (hn : l.length ≤ 256) (hg : ∀ g ∈ l, GoodSt g) : parseS s = ⟨l, 0, 0⟩ := by
  obtain ⟨W, hW⟩ := rT_run (bts s) 0 1 0 false none none [] [] _ hr
  have hs : splitS s = .ok W := by unfold splitS; rw [if_neg (by omega)]; exact hW
  have ht := run_txt (bts s) (bts s) 0 1 0 false none [] W (by simp) (Nat.zero_le _) (fun a ha => by cases ha) hW
  simp only [curOf, Option.map_none, List.map_nil] at ht
  rw [hr] at ht
  injection ht with ht
  have hm : (W.map (wdT s)).map (fun w => (w.t, w.l)) = (flatS l).map (fun w => (w.t, w.l)) := by
    have hlen := congrArg List.length ht
    simp only [List.length_map] at hlen
    apply List.ext_getElem
    · simp only [List.length_map]; exact hlen.symm
    · intro k h1 h2
      simp only [List.length_map] at h1 h2
      have e := congrArg (fun L => L[k]?) ht
      simp only [List.getElem?_map, List.getElem?_eq_getElem h1, List.getElem?_eq_getElem h2, Option.map_some, Option.some.injEq, txtW, Prod.mk.injEq] at e
      simp only [List.getElem_map, wdT, Prod.mk.injEq]
      refine ⟨bts_inj (by rw [bts_extract]; exact e.1.symm), ?_⟩
      have h3 : (flatS l)[k] ∈ flatS l := List.getElem_mem _
      unfold flatS at h3
      rw [List.mem_flatMap] at h3
      obtain ⟨g', hg', hz'⟩ := h3
      obtain ⟨t, _, hz2⟩ := List.mem_map.1 hz'
      have h4 := hl g' hg'
      have h5 : 0 ≤ ((flatS l)[k]).l := by unfold flatS; rw [← hz2]; exact h4
      have := e.2
      omega
  have hgr : grp (W.map (wdT s)) = l := by rw [grp_congr hm, grp_flat hp]
  rw [parse_ok hs (by rw [hgr]; exact chk_none.2 ⟨.inl (by omega), hg⟩), hgr]
end Go.Proofs.YtpaiapcnoifpmaaDoor
namespace Go.Proofs.YtpaiapcnoifpmaaDoor
open Go.RowKit

/-- A word. -/
def WordT (b : ByteArray) : Prop := 1 ≤ b.size ∧ ∀ c ∈ bts b, wb c = true
theorem ArgT.word {b : ByteArray} (h : ArgT b) : WordT b := ⟨h.1.1, h.2⟩
def prs (l : List Tw) : List (List Nat × Nat) := l.map fun w => (bts w.t, w.l.toNat)
/-- The text x, from its line on, holds these words, and ends a line. -/
def Rds (x : List Nat) (a b : Nat) (ws : List (List Nat × Nat)) : Prop := ∀ (y : List Nat) (out : List (List Nat × Nat)), rT (x ++ y) a false none out = rT y b false none (out ++ ws)
theorem Rds.nil (a : Nat) : Rds [] a a [] := fun y out => by simp
theorem Rds.cat {x y : List Nat} {a b c : Nat} {u v : List (List Nat × Nat)} (h : Rds x a b u) (k : Rds y b c v) : Rds (x ++ y) a c (u ++ v) := fun z out => by rw [List.append_assoc, h, k, List.append_assoc]
theorem rT_word {m : List Nat} (h : ∀ x ∈ m, wb x = true) : ∀ (l : List Nat) (line : Nat) (t : List Nat) (out : List (List Nat × Nat)), rT (m ++ l) line false (some t) out = rT l line false (some (t ++ m)) out := by
  induction m with
  | nil => intro l line t out; simp
  | cons c m ih =>
    intro l line t out
    rw [List.cons_append, rT, if_pos ⟨rfl, h c (by simp)⟩, ih (fun x hx => h x (by simp [hx]))]
    simp
theorem rT_first {m : List Nat} (h : ∀ x ∈ m, wb x = true) (hm : m ≠ []) (l : List Nat) (line : Nat) (out : List (List Nat × Nat)) : rT (m ++ l) line false none out = rT l line false (some m) out := by
  cases m with
  | nil => exact absurd rfl hm
  | cons c m =>
    rw [List.cons_append, rT, if_pos ⟨rfl, h c (by simp)⟩, rT_word (fun x hx => h x (by simp [hx]))]
    rfl
theorem rT_space (l : List Nat) (line : Nat) (t : List Nat) (out : List (List Nat × Nat)) : rT (32 :: l) line false (some t) out = rT l line false none (out ++ [(t, line)]) := by
  rw [rT, if_neg (by simp [wb]), if_neg (by decide), if_neg (by decide), if_neg (by decide), if_pos (.inl rfl)]
  rfl
theorem rT_end (l : List Nat) (line : Nat) (t : List Nat) (out : List (List Nat × Nat)) : rT (10 :: l) line false (some t) out = rT l (line + 1) false none (out ++ [(t, line)]) := by
  rw [rT, if_neg (by simp [wb]), if_pos rfl]
  rfl
/-- The bytes of a line. -/
def argsL (xs : List ByteArray) : List Nat := xs.flatMap fun a => 32 :: bts a
def lineL (g : St) : List Nat := bts g.word ++ (argsL g.args ++ [10])
theorem bts_ne {b : ByteArray} (h : 1 ≤ b.size) : bts b ≠ [] := by
  intro e
  have := bts_len b
  rw [e] at this
  simp at this
  omega
theorem rT_args {xs : List ByteArray} (h : ∀ a ∈ xs, WordT a) : ∀ (y : List Nat) (line : Nat) (t : List Nat) (out : List (List Nat × Nat)), rT (argsL xs ++ 10 :: y) line false (some t) out = rT y (line + 1) false none (out ++ (t, line) :: xs.map fun a => (bts a, line)) := by
  induction xs with
  | nil => intro y line t out; simp only [argsL, List.flatMap_nil, List.nil_append, List.map_nil]; exact rT_end _ _ _ _
  | cons x xs ih =>
    intro y line t out
    have hx := h x (by simp)
    have e : argsL (x :: xs) ++ 10 :: y = 32 :: (bts x ++ (argsL xs ++ 10 :: y)) := by simp [argsL]
    rw [e, rT_space, rT_first hx.2 (bts_ne hx.1), ih (fun a ha => h a (by simp [ha]))]
    simp
def atLine (g : St) (n : Nat) : St := ⟨n, g.word, g.args⟩
theorem rds_line {g : St} (hw : WordT g.word) (ha : ∀ a ∈ g.args, WordT a) (n : Nat) : Rds (lineL g) n (n + 1) (prs (flatS [atLine g n])) := by
  intro y out
  have e : lineL g ++ y = bts g.word ++ (argsL g.args ++ 10 :: y) := by simp [lineL]
  rw [e, rT_first hw.2 (bts_ne hw.1), rT_args ha]
  simp [prs, flatS, atLine, Function.comp_def]
/-- What may stand ahead of a line. -/
def gapL : Nat → List Nat
  | 0 => []
  | 1 => [35, 32, 106, 111, 105, 110, 116, 10]
  | 2 => [10, 10]
  | _ => [9, 32]
def gapN : Nat → Nat
  | 0 => 0
  | 1 => 1
  | 2 => 2
  | _ => 0
theorem rds_gap (c n : Nat) : Rds (gapL c) n (n + gapN c) [] := by
  intro y out
  match c with
  | 0 => simp [gapL, gapN]
  | 1 => simp [gapL, gapN, rT, flT, wb]
  | 2 => simp [gapL, gapN, rT, flT, wb]
  | c + 3 => simp [gapL, gapN, rT, flT, wb]
/-- The statements, with the lines in which they stand behind these gaps. -/
def withGaps : Nat → List St → List Nat → List St
  | _, [], _ => []
  | n, g :: l, cs => atLine g (n + gapN (cs.headD 0)) :: withGaps (n + gapN (cs.headD 0) + 1) l cs.tail
def textGaps : List St → List Nat → List Nat
  | [], _ => []
  | g :: l, cs => gapL (cs.headD 0) ++ lineL g ++ textGaps l cs.tail
theorem rds_gaps {l : List St} (h : ∀ g ∈ l, WordT g.word ∧ ∀ a ∈ g.args, WordT a) : ∀ (n : Nat) (cs : List Nat), ∃ m, Rds (textGaps l cs) n m (prs (flatS (withGaps n l cs))) := by
  induction l with
  | nil => intro n cs; exact ⟨n, Rds.nil n⟩
  | cons g l ih =>
    intro n cs
    obtain ⟨m, hm⟩ := ih (fun x hx => h x (by simp [hx])) (n + gapN (cs.headD 0) + 1) cs.tail
    refine ⟨m, ?_⟩
    have h1 := ((rds_gap (cs.headD 0) n).cat (rds_line (h g (by simp)).1 (h g (by simp)).2 _)).cat hm
    rw [List.nil_append] at h1
    have e : prs (flatS (withGaps n (g :: l) cs)) = prs (flatS [atLine g (n + gapN (cs.headD 0))]) ++ prs (flatS (withGaps (n + gapN (cs.headD 0) + 1) l cs.tail)) := by simp [withGaps, flatS, prs]
    rw [e]
    exact h1
theorem withGaps_line {l : List St} : ∀ (n : Nat) (cs : List Nat), (∀ g ∈ withGaps n l cs, (n : Int) ≤ g.line) ∧ (withGaps n l cs).Pairwise (fun a b => a.line < b.line) := by
  induction l with
  | nil => intro n cs; exact ⟨by simp [withGaps], List.Pairwise.nil⟩
  | cons g l ih =>
    intro n cs
    obtain ⟨h1, h2⟩ := ih (n + gapN (cs.headD 0) + 1) cs.tail
    refine ⟨fun x hx => ?_, ?_⟩
    · rcases List.mem_cons.1 hx with rfl | hx
      · simp only [atLine]; omega
      · have := h1 x hx; omega
    · rw [withGaps, List.pairwise_cons]
      exact ⟨fun x hx => by have := h1 x hx; simp only [atLine]; omega, h2⟩
theorem withGaps_alike {l : List St} : ∀ (n : Nat) (cs : List Nat), (withGaps n l cs).length = l.length ∧ ∀ (k : Nat) (h : k < (withGaps n l cs).length) (h' : k < l.length), (withGaps n l cs)[k].word = l[k].word ∧ (withGaps n l cs)[k].args = l[k].args := by
  induction l with
  | nil => intro n cs; exact ⟨rfl, fun k h => absurd h (by simp [withGaps])⟩
  | cons g l ih =>
    intro n cs
    obtain ⟨h1, h2⟩ := ih (n + gapN (cs.headD 0) + 1) cs.tail
    refine ⟨by rw [withGaps, List.length_cons, h1, List.length_cons], fun k h h' => ?_⟩
    match k with
    | 0 => exact ⟨rfl, rfl⟩
    | k + 1 =>
      have := h2 k (by simpa [withGaps] using h) (by simpa using h')
      simpa [withGaps] using this
theorem withGaps_good {l : List St} (n : Nat) (cs : List Nat) (h : ∀ g ∈ l, GoodSt g) : ∀ g ∈ withGaps n l cs, GoodSt g := by
  intro g hg
  obtain ⟨k, hk, rfl⟩ := List.getElem_of_mem hg
  obtain ⟨h1, h2⟩ := withGaps_alike (l := l) n cs
  have hk' : k < l.length := by rw [← h1]; exact hk
  obtain ⟨h3, h4⟩ := h2 k hk hk'
  have := h l[k] (List.getElem_mem _)
  unfold GoodSt at this ⊢
  rw [h3, h4]
  exact this
/-- Parsing what was formatted, with gaps ahead of its lines and something behind it that holds no word. -/
theorem parse_gaps {s : ByteArray} {l : List St} {cs t : List Nat} (h : ∀ g ∈ l, GoodSt g ∧ WordT g.word ∧ ∀ a ∈ g.args, WordT a) (hs : bts s = textGaps l cs ++ t) (ht : t = [] ∨ t = [35]) (h16 : s.size ≤ 16384) (hn : l.length ≤ 256) : parseS s = ⟨withGaps 1 l cs, 0, 0⟩ := by
  obtain ⟨m, hm⟩ := rds_gaps (fun g hg => (h g hg).2) 1 cs
  obtain ⟨w1, w2⟩ := withGaps_line (l := l) 1 cs
  refine parse_found h16 ?_ (fun g hg => by have := w1 g hg; omega) w2 (by rw [(withGaps_alike (l := l) 1 cs).1]; exact hn) (withGaps_good 1 cs fun g hg => (h g hg).1)
  rw [hs, hm, List.nil_append]
  rcases ht with rfl | rfl
  · rfl
  · rfl
theorem argK_bts (xs : List ByteArray) (b : ByteArray) (j : Nat) : bts (argK xs b j) = bts b ++ argsL (xs.take j) := by
  unfold argK
  generalize xs.take j = l
  induction l generalizing b with
  | nil => simp [argsL]
  | cons a l ih =>
    rw [List.foldl_cons, ih]
    simp [argB, argsL, bts]
theorem lineB_bts (b : ByteArray) (g : St) : bts (lineB b g) = bts b ++ lineL g := by
  unfold lineB lineL
  rw [bts_append, argK_bts, bts_append, List.take_length]
  simp [bts]
theorem fmtS_bts (l : List St) : bts (fmtS l) = textGaps l [] := by
  unfold fmtS fmtK
  rw [List.take_length]
  have key : ∀ (l : List St) (b : ByteArray), bts (l.foldl lineB b) = bts b ++ textGaps l [] := by
    intro l
    induction l with
    | nil => intro b; simp [textGaps]
    | cons g l ih =>
      intro b
      rw [List.foldl_cons, ih, lineB_bts, textGaps]
      simp [gapL]
  rw [key]
  rfl
/-- Parsing what was formatted. -/
theorem parse_fmt {l : List St} (h : ∀ g ∈ l, GoodSt g ∧ WordT g.word ∧ ∀ a ∈ g.args, WordT a) (h16 : fmtLen l ≤ 16384) (hn : l.length ≤ 256) : parseS (fmtS l) = ⟨withGaps 1 l [], 0, 0⟩ := by
  refine parse_gaps (t := []) h (by rw [fmtS_bts, List.append_nil]) (.inl rfl) ?_ hn
  unfold fmtS
  rw [fmtK_size, List.take_length]
  exact h16
/-- One statement in each line. -/
theorem withGaps_lines {l : List St} : ∀ (n k : Nat) (h : k < (withGaps n l []).length), (withGaps n l [])[k].line = ((n + k : Nat) : Int) := by
  induction l with
  | nil => intro n k h; exact absurd h (by simp [withGaps])
  | cons g l ih =>
    intro n k h
    match k with
    | 0 => simp [withGaps, atLine, gapN]
    | k + 1 =>
      have := ih (n + 1) k (by simpa [withGaps, gapN] using h)
      simp only [withGaps, List.headD_nil, gapN, Nat.add_zero, List.tail_nil, List.getElem_cons_succ]
      rw [this]
      omega
end Go.Proofs.YtpaiapcnoifpmaaDoor
