/- Proved: plain facts on descriptions: the statements into which chapter 7 divides the words of a text, and the first of them that is not permitted. Conditions: as each theorem states. Nothing of the program is used but what Tk9 says of words. -/
import Derived.Test.YtnahlpeckfcciaaDoorTk9
import Derived.Test.YtnahlpeckfcciaaDoorSy1
namespace Go.Proofs.YtnahlpeckfcciaaDoor
open Go.RowKit

/-- A statement. -/
structure St where
  line : Int
  word : ByteArray
  args : List ByteArray
/-- The words, line by line. -/
def grp : List Tw → List St
  | [] => []
  | x :: ws => match grp ws with
    | [] => [⟨x.l, x.t, []⟩]
    | g :: gs => if g.line = x.l then ⟨x.l, x.t, g.word :: g.args⟩ :: gs else ⟨x.l, x.t, []⟩ :: g :: gs
theorem grp_head (x : Tw) (ws : List Tw) : ∃ g gs, grp (x :: ws) = g :: gs ∧ g.line = x.l := by
  rw [grp]
  split
  · exact ⟨_, _, rfl, rfl⟩
  · split
    · exact ⟨_, _, rfl, rfl⟩
    · exact ⟨_, _, rfl, rfl⟩
/-- One line, and what is behind it. -/
theorem grp_line (x : Tw) (m r : List Tw) (hm : ∀ y ∈ m, y.l = x.l) (hr : ∀ z u, r = z :: u → z.l ≠ x.l) : grp (x :: (m ++ r)) = ⟨x.l, x.t, m.map (·.t)⟩ :: grp r := by
  induction m generalizing x with
  | nil =>
    rw [List.nil_append, grp]
    cases r with
    | nil => rfl
    | cons z u =>
      obtain ⟨g, gs, h1, h2⟩ := grp_head z u
      rw [h1]
      simp only
      rw [if_neg (by rw [h2]; exact hr z u rfl)]
      rfl
  | cons y m ih =>
    have hy := hm y (by simp)
    have := ih y (fun z hz => by rw [hy]; exact hm z (by simp [hz])) (fun z u h => by rw [hy]; exact hr z u h)
    rw [List.cons_append, grp, this]
    simp only
    rw [if_pos hy]
    rfl
/-- The first statement that is not permitted, n being ahead: its error and its line. -/
def chk : Nat → List St → Option (Int × Int)
  | _, [] => none
  | n, g :: gs => if 256 ≤ n then some (703, g.line) else if knownK (wordK (bts g.word)) = false then some (701, g.line) else if argsK (wordK (bts g.word)) g.args.length = false then some (702, g.line) else chk (n + 1) gs
def GoodSt (g : St) : Prop := knownK (wordK (bts g.word)) = true ∧ argsK (wordK (bts g.word)) g.args.length = true
theorem chk_step {n : Nat} {g : St} {gs : List St} (hn : n < 256) (h : GoodSt g) : chk n (g :: gs) = chk (n + 1) gs := by
  rw [chk, if_neg (by omega), if_neg (by rw [h.1]; decide), if_neg (by rw [h.2]; decide)]
theorem chk_none {n : Nat} {l : List St} : chk n l = none ↔ (n + l.length ≤ 256 ∨ l = []) ∧ ∀ g ∈ l, GoodSt g := by
  induction l generalizing n with
  | nil => simp [chk]
  | cons g gs ih =>
    constructor
    · intro h
      rw [chk] at h
      split at h
      · cases h
      · split at h
        · cases h
        · split at h
          · cases h
          · rename_i h1 h2 h3
            obtain ⟨a1, a2⟩ := ih.1 h
            refine ⟨.inl ?_, fun x hx => ?_⟩
            · rw [List.length_cons]
              rcases a1 with a1 | rfl
              · omega
              · simp; omega
            · rcases List.mem_cons.1 hx with rfl | hx
              · exact ⟨by simpa using h2, by simpa using h3⟩
              · exact a2 x hx
    · rintro ⟨h1, h2⟩
      have hlen : n + (gs.length + 1) ≤ 256 := by
        rcases h1 with h1 | h1
        · rwa [List.length_cons] at h1
        · cases h1
      rw [chk_step (by omega) (h2 g (by simp)), ih]
      exact ⟨.inl (by omega), fun x hx => h2 x (by simp [hx])⟩
/-- What Parse returns: the statements, the error, and its line. -/
structure PRes where
  sts : List St
  err : Int
  ln : Int
def parseW (ws : List Tw) : PRes := match chk 0 (grp ws) with
  | some (e, k) => ⟨[], e, k⟩
  | none => ⟨grp ws, 0, 0⟩
def parseS (s : ByteArray) : PRes := match splitS s with
  | .bad k => ⟨[], 601, k⟩
  | .ok l => parseW (l.map (wdT s))
theorem grp_count (ws : List Tw) : (grp ws).length ≤ ws.length := by
  induction ws with
  | nil => simp [grp]
  | cons x ws ih =>
    rw [grp]
    split
    · simp
    · rename_i g gs h
      rw [h] at ih
      split
      · simp at ih ⊢; omega
      · simp at ih ⊢; omega
theorem grp_args (ws : List Tw) : ∀ g ∈ grp ws, g.args.length ≤ ws.length := by
  induction ws with
  | nil => intro g hg; cases hg
  | cons x ws ih =>
    intro g hg
    rw [grp] at hg
    split at hg
    · simp at hg; subst hg; simp
    · rename_i g0 gs h
      rw [h] at ih
      split at hg
      · rcases List.mem_cons.1 hg with rfl | hg
        · have := ih g0 (by simp); simp; omega
        · have := ih g (by simp [hg]); simp; omega
      · rcases List.mem_cons.1 hg with rfl | hg
        · simp
        · have := ih g (by simpa using hg); simp; omega
theorem parse_bad {s : ByteArray} {k : Nat} (h : splitS s = .bad k) : parseS s = ⟨[], 601, k⟩ := by unfold parseS; rw [h]
theorem parse_err {s : ByteArray} {l : List Wd} {e k : Int} (h : splitS s = .ok l) (hc : chk 0 (grp (l.map (wdT s))) = some (e, k)) : parseS s = ⟨[], e, k⟩ := by unfold parseS; rw [h]; simp only; unfold parseW; rw [hc]
theorem parse_ok {s : ByteArray} {l : List Wd} (h : splitS s = .ok l) (hc : chk 0 (grp (l.map (wdT s))) = none) : parseS s = ⟨grp (l.map (wdT s)), 0, 0⟩ := by unfold parseS; rw [h]; simp only; unfold parseW; rw [hc]
theorem split_while {α : Type} (p : α → Bool) (l : List α) : ∃ m r, l = m ++ r ∧ (∀ y ∈ m, p y = true) ∧ ∀ z u, r = z :: u → p z = false := by
  induction l with
  | nil => exact ⟨[], [], rfl, by simp, fun z u h => by cases h⟩
  | cons x l ih =>
    cases hx : p x with
    | false => exact ⟨[], x :: l, rfl, by simp, fun z u h => by injection h with h _; subst h; exact hx⟩
    | true =>
      obtain ⟨m, r, h1, h2, h3⟩ := ih
      refine ⟨x :: m, r, by rw [h1]; rfl, fun y hy => ?_, h3⟩
      rcases List.mem_cons.1 hy with rfl | hy
      · exact hx
      · exact h2 y hy
/-- The words of one line, and the others. -/
theorem line_cut {ws : List Tw} {i : Nat} (hi : i < ws.length) : ∃ m r : List Tw, ws.drop (i + 1) = m ++ r ∧ (∀ y ∈ m, y.l = ws[i].l) ∧ (∀ z u, r = z :: u → z.l ≠ ws[i].l) ∧ i + 1 + m.length ≤ ws.length ∧ ws.drop (i + 1 + m.length) = r ∧
    (∀ j (h : j < m.length), ∃ h' : i + 1 + j < ws.length, m[j] = ws[i + 1 + j]) ∧ grp (ws.drop i) = ⟨ws[i].l, ws[i].t, m.map (·.t)⟩ :: grp r := by
  obtain ⟨m, r, h1, h2, h3⟩ := split_while (fun y : Tw => decide (y.l = ws[i].l)) (ws.drop (i + 1))
  have hl := congrArg List.length h1
  rw [List.length_drop, List.length_append] at hl
  have hm : ∀ y ∈ m, y.l = ws[i].l := fun y hy => by simpa using h2 y hy
  have hr : ∀ z u, r = z :: u → z.l ≠ ws[i].l := fun z u h => by simpa using h3 z u h
  refine ⟨m, r, h1, hm, hr, by omega, ?_, ?_, ?_⟩
  · rw [← List.drop_drop, h1]; exact List.drop_left' rfl
  · intro j h
    have h' : i + 1 + j < ws.length := by omega
    refine ⟨h', ?_⟩
    have e1 : (ws.drop (i + 1))[j]? = some m[j] := by rw [h1, List.getElem?_append_left h, List.getElem?_eq_getElem h]
    rw [List.getElem?_drop, List.getElem?_eq_getElem h'] at e1
    exact (Option.some.inj e1).symm
  · rw [List.drop_eq_getElem_cons hi, h1]
    exact grp_line _ _ _ hm hr
end Go.Proofs.YtnahlpeckfcciaaDoor
