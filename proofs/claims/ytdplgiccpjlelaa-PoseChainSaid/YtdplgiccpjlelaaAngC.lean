/- Proved: small facts on blocks of eleven numbers. Conditions: as each theorem states. -/
import Derived.Test.YtdplgiccpjlelaaAngS
namespace Go.Proofs.Ytdplgiccpjlelaa
open Go.RowKit

theorem heap_drw (V : World) (b : Nat) : V.drew.heap[b]? = V.heap[b]? := rfl
theorem heap_drw2 (V : World) (b : Nat) : V.drew.drew.heap[b]? = V.heap[b]? := rfl
theorem cell_same {w1 V : World} {b i : Nat} {T : TypeId} {f : Nat → Int} {v : Int} (hA : V.heap[b]? = some (.cells (arrC f) T (0, 0))) (h : w1.heap[b]? = V.heap[b]?) (hi : i < 11) (hv : f i = v) : w1.cell? ⟨b, i, none⟩ = some (.int .i64 v) := by
  subst hv
  rw [cell_of_row w1 b i _ _ _ (h.trans hA)]
  match i, hi with
  | 0, _ | 1, _ | 2, _ | 3, _ | 4, _ | 5, _ | 6, _ | 7, _ | 8, _ | 9, _ | 10, _ => rfl
theorem ce_bd {p q : Int} (h0 : 0 ≤ p) (h1 : p ≤ 1073741824) (hq : 0 < q) : 0 ≤ ce p q ∧ ce p q ≤ 1073741824 := by
  obtain ⟨h3, h4⟩ := fl_bd (p := -p) (q := q) (B := 1073741824) (by omega) (by omega) (by omega)
  have h5 : -p / q ≤ 0 := Int.ediv_nonpos_of_nonpos_of_neg (by omega) hq
  rw [fl_pos hq] at h3 h4
  unfold ce
  omega
end Go.Proofs.Ytdplgiccpjlelaa
