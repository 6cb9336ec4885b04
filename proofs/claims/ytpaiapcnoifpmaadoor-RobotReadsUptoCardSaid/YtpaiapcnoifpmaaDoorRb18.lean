/- Proved: lists of statements that are copied, and changed at one place: they read as the list so changed. Conditions: as each theorem states. -/
import Derived.Test.YtpaiapcnoifpmaaDoorSy19
namespace Go.Proofs.YtpaiapcnoifpmaaDoor
open Go.RowKit

theorem pick_all {n : Nat} {P : Nat → Value → Prop} (h : ∀ i, i < n → ∃ a, P i a) : ∃ vs : List Value, vs.length = n ∧ ∀ i, i < n → P i (vs.getD i undef) := by
  induction n with
  | zero => exact ⟨[], rfl, fun i hi => by omega⟩
  | succ n ih =>
    obtain ⟨vs, hl, hv⟩ := ih (fun i hi => h i (by omega))
    obtain ⟨a, ha⟩ := h n (by omega)
    refine ⟨vs ++ [a], by simp [hl], fun i hi => ?_⟩
    rcases Nat.lt_or_ge i n with h1 | h1
    · rw [List.getD_eq_getElem?_getD, List.getElem?_append_left (by omega), ← List.getD_eq_getElem?_getD]; exact hv i h1
    · have e : i = n := by omega
      subst e
      rw [List.getD_eq_getElem?_getD, List.getElem?_append_right (by omega), hl, Nat.sub_self]
      exact ha
theorem stcells_len {l : List St} {vs : List Value} (h : vs.length = l.length) : (stcells l vs).length = l.length * 3 := by
  induction l generalizing vs with
  | nil => cases vs <;> simp [stcells] at h ⊢
  | cons y l ih => cases vs with
    | nil => simp at h
    | cons x vs => rw [stcells, List.length_append, ih (by simpa using h)]; simp [stcell]; omega
theorem stcells_ones {l : List St} {vs : List Value} (h : ∀ x ∈ vs, x.oneCell' = true) : ∀ u ∈ stcells l vs, u.oneCell' = true := by
  induction l generalizing vs with
  | nil => intro u hu; cases vs <;> simp [stcells] at hu
  | cons y l ih => cases vs with
    | nil => intro u hu; simp [stcells] at hu
    | cons x vs =>
      intro u hu
      rw [stcells, List.mem_append] at hu
      rcases hu with hu | hu
      · simp [stcell] at hu
        rcases hu with rfl | rfl | rfl
        · rfl
        · rfl
        · exact h _ (by simp)
      · exact ih (fun x hx => h x (by simp [hx])) u hu
theorem stcells_set (l : List St) : ∀ (vs : List Value) (k : Nat) (_ : vs.length = l.length) (hk : k < l.length) (va : Value) (xs : List ByteArray), stcells (l.set k { l[k] with args := xs }) (vs.set k va) = (stcells l vs).set (k * 3 + 2) va := by
  induction l with
  | nil => intro vs k h hk; exact absurd hk (Nat.not_lt_zero _)
  | cons y l ih =>
    intro vs k h hk va xs
    cases vs with
    | nil => simp at h
    | cons x vs =>
      match k, hk with
      | 0, _ => simp [stcells, stcell]
      | k + 1, hk =>
        have e := ih vs k (by simpa using h) (by simpa using hk) va xs
        simp only [List.set_cons_succ, List.getElem_cons_succ, stcells]
        rw [e, List.set_append_right _ _ (by simp [stcell]; omega)]
        rw [show (stcell y x).length = 3 from rfl, show (k + 1) * 3 + 2 - 3 = k * 3 + 2 by omega]
/-- The arguments' values, and the cells, of a list that reads so. -/
theorem RdS.vals {W : World} {v : Value} {l : List St} (h : RdS W v l) : ∃ vs : List Value, vs.length = l.length ∧ (∀ (k : Nat) (hk : k < l.length), RdT W (vs.getD k undef) l[k].args) ∧ (∀ x ∈ vs, x.oneCell' = true) ∧
    (∀ A n c, v = .slice (some A) n c → ∀ j u, (stcells l vs)[j]? = some u → W.cell? (A.add j) = some u) := by
  obtain ⟨A, c, hv, hl, hk⟩ := h
  obtain ⟨vs, hvl, hvs⟩ := pick_all (n := l.length) (P := fun k va => ∃ (h : k < l.length), RdT W va l[k].args ∧ ∃ g o, A = some ⟨g, o, none⟩ ∧ W.cell? ⟨g, o + k * 3, none⟩ = some (.int .i64 l[k].line) ∧ W.cell? ⟨g, o + k * 3 + 1, none⟩ = some (.string l[k].word) ∧ W.cell? ⟨g, o + k * 3 + 2, none⟩ = some va)
    (fun k hkl => by obtain ⟨g, o, va, hA, hg, h0, h1, h2, h3⟩ := hk k hkl; exact ⟨va, hkl, h3, g, o, hA, h0, h1, h2⟩)
  refine ⟨vs, hvl, fun k hkl => (hvs k hkl).2.1, fun x hx => ?_, fun A' n' c' hv' j u hj => ?_⟩
  · obtain ⟨k, hkv, rfl⟩ := List.getElem_of_mem hx
    obtain ⟨_, ⟨B, c2, hb, _, _⟩, _⟩ := hvs k (by omega)
    have e : vs.getD k undef = vs[k] := by rw [List.getD_eq_getElem?_getD, List.getElem?_eq_getElem hkv]; rfl
    rw [← e, hb]
    cases B <;> rfl
  · rw [hv] at hv'
    injection hv' with e1 _ _
    have hj2 : j < l.length * 3 := by
      have := (List.getElem?_eq_some_iff.1 hj).1
      rw [stcells_len hvl] at this
      exact this
    obtain ⟨k, i, hi, hkl, rfl⟩ : ∃ k i, i < 3 ∧ k < l.length ∧ j = k * 3 + i := ⟨j / 3, j % 3, by omega, by omega, by omega⟩
    obtain ⟨_, _, g, o, hA, h0, h1, h2⟩ := hvs k hkl
    rw [hA] at e1
    injection e1 with e1
    obtain ⟨c0, c1, c2⟩ := stcells_at hvl k hkl
    rw [← e1, show (Addr.add ⟨g, o, none⟩ (k * 3 + i)) = ⟨g, o + (k * 3 + i), none⟩ by simp [Addr.add]]
    match i, hi with
    | 0, _ => exact h0.trans (c0.symm.trans hj)
    | 1, _ => exact h1.trans (c1.symm.trans hj)
    | 2, _ => exact h2.trans (c2.symm.trans hj)
theorem rdS_own {W : World} {B : Nat} {v : Value} {l : List St} {vs : List Value} (hvl : vs.length = l.length) (hown : W.ownsRow B 43 3 v l.length (stcells l vs)) (hr : ∀ (k : Nat) (h : k < l.length), RdT W (vs.getD k undef) l[k].args) (hl : l.length ≤ 8796093022208) : RdS W v l := by
  rcases hown.2 with ⟨hv, hn⟩ | ⟨g, cap, cur, hv, hbg, hcur, h1, h2, h3, h4⟩
  · exact ⟨none, 0, by rw [hv, hn], ⟨by omega, hl⟩, fun k hk => by omega⟩
  · refine ⟨some ⟨g, 0, none⟩, cap, hv, ⟨h1, hl⟩, fun k hk => ?_⟩
    subst hv
    obtain ⟨c0, c1, c2⟩ := stcells_at hvl k hk
    refine ⟨g, 0, vs.getD k undef, rfl, lt_of_block hcur, ?_, ?_, ?_, hr k hk⟩
    · rw [Nat.zero_add, hown.cellAt (k * 3) (by omega), c0]
    · rw [Nat.zero_add, hown.cellAt (k * 3 + 1) (by omega), c1]
    · rw [Nat.zero_add, hown.cellAt (k * 3 + 2) (by omega), c2]
end Go.Proofs.YtpaiapcnoifpmaaDoor
