/- Proved: lists of words in memory, bytes that came in, and that Same returns true for equal lists of words. Conditions: as each theorem states. -/
import Derived.Test.YtnahlpeckfcciaaDoorTk8
import Derived.Deep.QuietTactic
import Derived.BigQuiet
import Derived.Laws.OwnMore
namespace Go.Proofs.YtnahlpeckfcciaaDoor
open Go.RowKit

theorem bl_cell {W w1 : World} (hb : Below W.heap.size W w1) : (∀ b o, b < W.heap.size → w1.cell? ⟨b, o, none⟩ = W.cell? ⟨b, o, none⟩) ∧ (∀ b o, b < W.heap.size → w1.frozen? ⟨b, o, none⟩ = W.frozen? ⟨b, o, none⟩) :=
  ⟨fun b o h => hb.cell (p := ⟨b, o, none⟩) h, fun b o h => hb.frozen (p := ⟨b, o, none⟩) h⟩
theorem bl_next {W w1 w2 : World} (hb2 : Below w1.heap.size w1 w2) (h : Below W.heap.size W w1) : Below W.heap.size W w2 := h.trans (hb2.mono h.size)
theorem bl_alloc {W w : World} (h : Below W.heap.size W w) (o : Obj) : Below W.heap.size W (w.alloc o) := h.alloc h.size o
theorem bl_drewN {B : Nat} {a w : World} {n : Nat} (h : Below B a w) : Below B a (w.drewN n) := ⟨h.os, h.tape, h.output, h.size, h.block⟩
structure Tw where
  t : ByteArray
  l : Int
  c : Int
def wdT (s : ByteArray) (x : Wd) : Tw := ⟨s.extract x.a x.b, x.line, x.col⟩
/-- A slice of words that reads as a list. -/
def RdW (W : World) (v : Value) (xs : List Tw) : Prop := ∃ (A : Option Addr) (c : Nat), v = .slice A xs.length c ∧ xs.length ≤ 1048576 ∧
  ∀ (k : Nat) (h : k < xs.length), ∃ g, A = some ⟨g, 0, none⟩ ∧ g < W.heap.size ∧ W.cell? ⟨g, k * 3, none⟩ = some (.string xs[k].t) ∧ W.cell? ⟨g, k * 3 + 1, none⟩ = some (.int .i64 xs[k].l) ∧ W.cell? ⟨g, k * 3 + 2, none⟩ = some (.int .i64 xs[k].c)
theorem RdW.below {W V : World} {v : Value} {xs : List Tw} {B : Nat} (h : RdW W v xs) (hb : Below B W V) (hB : W.heap.size ≤ B) : RdW V v xs := by
  obtain ⟨A, c, hv, hl, hk⟩ := h
  refine ⟨A, c, hv, hl, fun k hkl => ?_⟩
  obtain ⟨g, hA, hg, h0, h1, h2⟩ := hk k hkl
  have hs := hb.size
  exact ⟨g, hA, by omega, (hb.cell (p := ⟨g, k * 3, none⟩) (by show g < B; omega)).trans h0, (hb.cell (p := ⟨g, k * 3 + 1, none⟩) (by show g < B; omega)).trans h1, (hb.cell (p := ⟨g, k * 3 + 2, none⟩) (by show g < B; omega)).trans h2⟩
theorem wcells_at (s : ByteArray) (l : List Wd) : ∀ (k : Nat) (h : k < l.length), (wcells s l)[k * 3]? = some (.string (s.extract l[k].a l[k].b)) ∧ (wcells s l)[k * 3 + 1]? = some (.int .i64 l[k].line) ∧ (wcells s l)[k * 3 + 2]? = some (.int .i64 l[k].col) := by
  induction l with
  | nil => intro k h; exact absurd h (by simp)
  | cons x l ih =>
    intro k h
    have e : wcells s (x :: l) = wcell s x ++ wcells s l := by simp [wcells]
    rw [e]
    match k with
    | 0 => simp [wcell]
    | k + 1 =>
      have h' := ih k (by simpa using h)
      have hl : (wcell s x).length = 3 := rfl
      rw [List.getElem?_append_right (by omega), List.getElem?_append_right (by omega), List.getElem?_append_right (by omega), hl]
      rw [show (k + 1) * 3 - 3 = k * 3 by omega, show (k + 1) * 3 + 1 - 3 = k * 3 + 1 by omega, show (k + 1) * 3 + 2 - 3 = k * 3 + 2 by omega]
      simpa using h'
theorem rdW_own {W : World} {base : Nat} {T : TypeId} {v : Value} {s : ByteArray} {l : List Wd} (h : W.ownsRow base T 3 v l.length (wcells s l)) (hl : l.length ≤ 1048576) : RdW W v (l.map (wdT s)) := by
  rcases h.2 with ⟨hv, hn⟩ | ⟨g, cap, cur, hv, hbg, hcur, h1, h2, h3, h4⟩
  · refine ⟨none, 0, by rw [hv, List.length_map, hn], by rw [List.length_map]; exact hl, fun k hk => ?_⟩
    rw [List.length_map] at hk; omega
  · refine ⟨some ⟨g, 0, none⟩, cap, by rw [List.length_map]; exact hv, by rw [List.length_map]; exact hl, fun k hk => ?_⟩
    rw [List.length_map] at hk
    subst hv
    obtain ⟨c0, c1, c2⟩ := wcells_at s l k hk
    have hlt := lt_of_block hcur
    refine ⟨g, rfl, hlt, ?_, ?_, ?_⟩
    · rw [h.cellAt (k * 3) (by omega), c0]; simp [wdT]
    · rw [h.cellAt (k * 3 + 1) (by omega), c1]; simp [wdT]
    · rw [h.cellAt (k * 3 + 2) (by omega), c2]; simp [wdT]
/-- Not more words than bytes. -/
theorem run_count {l : List Nat} {i line bg : Nat} {com : Bool} {st : Option Nat} {out W : List Wd} (h : run l i line bg com st out = .ok W) : W.length ≤ out.length + (if st = none then 0 else 1) + l.length := by
  induction l generalizing i line bg com st out with
  | nil =>
    simp [run] at h
    subst h
    cases st <;> simp [flush]
  | cons c l ih =>
    have hf : (flush st i line bg out).length ≤ out.length + (if st = none then 0 else 1) := by cases st <;> simp [flush]
    rw [run] at h
    simp only [List.length_cons]
    split at h
    · have := ih h
      simp at this
      split <;> omega
    · split at h
      · have := ih h; simp at this; omega
      · split at h
        · have := ih h; simp at this; omega
        · split at h
          · have := ih h; simp at this; omega
          · split at h
            · have := ih h; simp at this; omega
            · cases h
theorem split_count (s : ByteArray) : (splitS s).words.length ≤ 16384 := by
  unfold splitS
  split
  · exact Nat.zero_le _
  · cases h : run (bts s) 0 1 0 false none [] with
    | ok W =>
      have := run_count h
      rw [bts_len] at this
      simp at this
      show W.length ≤ 16384
      omega
    | bad k => exact Nat.zero_le _
/-- The words that Split left. -/
theorem split_rd {s : ByteArray} {W W' : World} {T : TypeId} {v : Value} (h : W'.ownsRow W.heap.size T 3 v (splitS s).words.length (wcells s (splitS s).words)) : RdW W' v ((splitS s).words.map (wdT s)) :=
  rdW_own h (by have := split_count s; omega)
end Go.Proofs.YtnahlpeckfcciaaDoor
