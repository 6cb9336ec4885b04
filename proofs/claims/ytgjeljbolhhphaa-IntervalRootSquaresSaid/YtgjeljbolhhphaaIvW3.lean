/- Proved: statements of layer 2 return true. Conditions: the arguments are of their types. -/
import Derived.Test.YtgjeljbolhhphaaIvW1
import Derived.Deep.DeepCutAuto
namespace Go.Proofs.Ytgjeljbolhhphaa
open Go.RowKit
set_option linter.unusedVariables false in
set_option maxRecDepth 100000 in
set_option maxHeartbeats 12800000 in
theorem IntervalRootSquares_any (k l : Int) (w : World) (k1 : -9223372036854775808 ≤ k) (k2 : k ≤ 9223372036854775807) (l1 : -9223372036854775808 ≤ l) (l2 : l ≤ 9223372036854775807) :
    Calls Try.prog 10 #[ .int .i64 k, .int .i64 l ] w fun e w' => e = .returned (.bool true) ∧ Below w.heap.size w w' := by
  go_enter Try.func10, Try.ntmps10
  go_wp2_with fail
  go_at_call 11
  refine (Interval_any k l _ k1 k2 l1 l2).mono ?_
  rintro e w1 ⟨⟨x, y⟩, ha, rfl, hb⟩
  have HB := Lib.hid hb
  clear hb
  simp only
  by_cases s : x < 0
  · have hv : Valid ⟨0, max 0 y⟩ := by unfold Valid at *; simp only at *; omega
    have e1 := withinB_true (sqt_sqr (a := ⟨0, max 0 y⟩) hv (by first | exact Int.le_refl 0 | assumption))
    clear ha hv
    go_wp2_with fail
    obtain ⟨W, hW⟩ : ∃ W : World, W = w1.alloc (.cells #[.int .i64 (0), .int .i64 (max 0 y)] 23) := ⟨_, rfl⟩
    have q1 : W.cell? ⟨w1.heap.size, 0, none⟩ = some (.int .i64 (0)) := by rw [hW]; go_simp
    have q2 : W.cell? ⟨w1.heap.size, 1, none⟩ = some (.int .i64 (max 0 y)) := by rw [hW]; go_simp
    have g1 : ∀ w', Below W.heap.size W w' → w'.cell? ⟨w1.heap.size, 0, none⟩ = some (.int .i64 (0)) := fun w' h => cell_keep h q1
    have g2 : ∀ w', Below W.heap.size W w' → w'.cell? ⟨w1.heap.size, 1, none⟩ = some (.int .i64 (max 0 y)) := fun w' h => cell_keep h q2
    have HW : Below w.heap.size w W := by rw [hW]; exact HB.out.alloc HB.out.size _
    have HH := Lib.hid HW
    rw [← hW]
    clear q1 q2 HW hW
    go_region_held3 (fun w' => Below W.heap.size W w') (first | exact below_next hb2 (by assumption) | assumption | exact (Below.refl _ _).drew | exact Below.drew (by assumption) | exact Hid.out (by assumption)) (first | (go_at_call 12; refine (ivAwake_any _).mono ?_; rintro e w' ⟨rfl, hb2⟩) | (go_at_call 31; refine (Sqrt_any ⟨_, _⟩ _).mono ?_; rintro e w' ⟨rfl, hb2⟩) | (go_at_call 27; refine (Square_any _ _).mono ?_; rintro e w' ⟨rfl, hb2⟩) | (go_at_call 29; refine (Within_any ⟨_, _⟩ _ _).mono ?_; rintro e w' ⟨rfl, hb2⟩))
    go_wp2
    go_ret
    exact ⟨rfl, below_up HH.out (by assumption)⟩
  · have hv := ha
    have s0 : 0 ≤ x := Int.not_lt.1 s
    have e1 := withinB_true (sqt_sqr (a := ⟨x, y⟩) hv (by first | exact Int.le_refl 0 | assumption))
    clear ha hv
    go_wp2_with fail
    obtain ⟨W, hW⟩ : ∃ W : World, W = w1.alloc (.cells #[.int .i64 (x), .int .i64 (y)] 23) := ⟨_, rfl⟩
    have q1 : W.cell? ⟨w1.heap.size, 0, none⟩ = some (.int .i64 (x)) := by rw [hW]; go_simp
    have q2 : W.cell? ⟨w1.heap.size, 1, none⟩ = some (.int .i64 (y)) := by rw [hW]; go_simp
    have g1 : ∀ w', Below W.heap.size W w' → w'.cell? ⟨w1.heap.size, 0, none⟩ = some (.int .i64 (x)) := fun w' h => cell_keep h q1
    have g2 : ∀ w', Below W.heap.size W w' → w'.cell? ⟨w1.heap.size, 1, none⟩ = some (.int .i64 (y)) := fun w' h => cell_keep h q2
    have HW : Below w.heap.size w W := by rw [hW]; exact HB.out.alloc HB.out.size _
    have HH := Lib.hid HW
    rw [← hW]
    clear q1 q2 HW hW
    go_region_held3 (fun w' => Below W.heap.size W w') (first | exact below_next hb2 (by assumption) | assumption | exact (Below.refl _ _).drew | exact Below.drew (by assumption) | exact Hid.out (by assumption)) (first | (go_at_call 12; refine (ivAwake_any _).mono ?_; rintro e w' ⟨rfl, hb2⟩) | (go_at_call 31; refine (Sqrt_any ⟨_, _⟩ _).mono ?_; rintro e w' ⟨rfl, hb2⟩) | (go_at_call 27; refine (Square_any _ _).mono ?_; rintro e w' ⟨rfl, hb2⟩) | (go_at_call 29; refine (Within_any ⟨_, _⟩ _ _).mono ?_; rintro e w' ⟨rfl, hb2⟩))
    go_wp2
    go_ret
    exact ⟨rfl, below_up HH.out (by assumption)⟩
end Go.Proofs.Ytgjeljbolhhphaa
