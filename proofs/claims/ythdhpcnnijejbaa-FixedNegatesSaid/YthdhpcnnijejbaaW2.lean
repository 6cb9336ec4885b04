/- Proved: two statements of layer 1 return true. Conditions: the arguments are of their types. -/
import Derived.Test.YthdhpcnnijejbaaW1
namespace Go.Proofs.Ythdhpcnnijejbaa
open Go.RowKit
set_option linter.unusedVariables false in
theorem FixedMonotone_any (a b c s : Int) (w : World) (a1 : -9223372036854775808 ≤ a) (a2 : a ≤ 9223372036854775807) (b1 : -9223372036854775808 ≤ b) (b2 : b ≤ 9223372036854775807) (c1 : -9223372036854775808 ≤ c) (c2 : c ≤ 9223372036854775807) (s1 : 0 ≤ s) (s2 : s ≤ 255) :
    Calls Try.prog 8 #[.int .i64 a, .int .i64 b, .int .i64 c, .int .u8 s] w fun e w' => e = .returned (.bool true) ∧ ∃ k, w' = w.drewN k := by
  by_cases hb : b / 2 ^ (s / 4 % 64).toNat < 0
  · go_enter Try.func8, Try.ntmps8
    go_wp2_with (first | (go_at_call 12; refine (awake_any _).mono ?_; rintro e w' ⟨rfl, k, rfl⟩))
    go_ret
    exact ⟨rfl, _, rfl⟩
  · by_cases hc : a / 2 ^ (s % 64).toNat > c / 2 ^ (s % 64).toNat
    · go_enter Try.func8, Try.ntmps8
      go_wp2_with (first | (go_at_call 12; refine (awake_any _).mono ?_; rintro e w' ⟨rfl, k, rfl⟩))
      go_ret
      exact ⟨rfl, _, rfl⟩
    · have h1 := mulD_mono (Int.not_lt.1 hc) (Int.not_lt.1 hb)
      have h2 := mulU_mono (Int.not_lt.1 hc) (Int.not_lt.1 hb)
      go_enter Try.func8, Try.ntmps8
      go_wp2_with (first | (go_at_call 12; refine (awake_any _).mono ?_; rintro e w' ⟨rfl, k, rfl⟩) | (go_at_call 17; refine (MulUp_any _ _ _).mono ?_; rintro e w' ⟨rfl, rfl⟩) | (go_at_call 15; refine (MulDown_any _ _ _).mono ?_; rintro e w' ⟨rfl, rfl⟩))
      go_ret
      exact ⟨rfl, _, rfl⟩
theorem mul_negates (x y : Int) : mulD (-x) y = -mulU x y := by unfold mulU mulD; rw [pr_neg]; omega
theorem quo_negates (x y : Int) : quoD (-x) y = -quoU x y := by unfold quoU quoD; rw [clamp_neg]; omega
theorem quoD_bd (x : Int) {y : Int} (hy : ¬ y = 0) : -140737488355328 ≤ quoD x y ∧ quoD x y ≤ 140737488355328 := by
  have h1 := clamp_lo x
  have h2 := clamp_hi x
  exact fl_bd (B := 140737488355328) (clamp_ne hy) (by omega) (by omega)
theorem quoU_bd (x : Int) {y : Int} (hy : ¬ y = 0) : -140737488355328 ≤ quoU x y ∧ quoU x y ≤ 140737488355328 := by
  have := quoD_bd (-x) hy
  rw [quo_negates] at this
  omega
set_option linter.unusedVariables false in
theorem FixedNegates_any (a b s : Int) (w : World) (a1 : -9223372036854775808 ≤ a) (a2 : a ≤ 9223372036854775807) (b1 : -9223372036854775808 ≤ b) (b2 : b ≤ 9223372036854775807) (s1 : 0 ≤ s) (s2 : s ≤ 255) :
    Calls Try.prog 9 #[.int .i64 a, .int .i64 b, .int .u8 s] w fun e w' => e = .returned (.bool true) ∧ ∃ k, w' = w.drewN k := by
  have hx := dv_in (s % 64).toNat a1 a2
  by_cases h0 : a / 2 ^ (s % 64).toNat = -9223372036854775808
  · go_enter Try.func9, Try.ntmps9
    go_wp2_with (first | (go_at_call 12; refine (awake_any _).mono ?_; rintro e w' ⟨rfl, k, rfl⟩))
    go_ret
    exact ⟨rfl, _, rfl⟩
  · have h1 := mul_negates (a / 2 ^ (s % 64).toNat) (b / 2 ^ (s / 4 % 64).toNat)
    have h2 := quo_negates (a / 2 ^ (s % 64).toNat) (b / 2 ^ (s / 4 % 64).toNat)
    have h3 := mulU_lo (a / 2 ^ (s % 64).toNat) (b / 2 ^ (s / 4 % 64).toNat)
    have h4 := mulU_hi (a / 2 ^ (s % 64).toNat) (b / 2 ^ (s / 4 % 64).toNat)
    by_cases hb : b / 2 ^ (s / 4 % 64).toNat = 0
    · rw [hb] at h1 h2 h3 h4
      go_enter Try.func9, Try.ntmps9
      go_wp2_with (first | (go_at_call 29; refine (DivDown_zero _ _).mono ?_; rintro e w' ⟨rfl, rfl⟩) | (go_at_call 28; refine (DivUp_zero _ _).mono ?_; rintro e w' ⟨rfl, rfl⟩) | (go_at_call 12; refine (awake_any _).mono ?_; rintro e w' ⟨rfl, k, rfl⟩) | (go_at_call 17; refine (MulUp_any _ _ _).mono ?_; rintro e w' ⟨rfl, rfl⟩) | (go_at_call 15; refine (MulDown_any _ _ _).mono ?_; rintro e w' ⟨rfl, rfl⟩))
      go_ret
      exact ⟨rfl, _, rfl⟩
    · obtain ⟨h5, h6⟩ := quoU_bd (a / 2 ^ (s % 64).toNat) hb
      have hn : (b / 2 ^ (s / 4 % 64).toNat != 0) = true := by simpa using hb
      go_enter Try.func9, Try.ntmps9
      go_wp2_with (first | (go_at_call 29; refine (DivDown_any _ _ _ hb).mono ?_; rintro e w' ⟨rfl, rfl⟩) | (go_at_call 28; refine (DivUp_any _ _ _ hb).mono ?_; rintro e w' ⟨rfl, rfl⟩) | (go_at_call 12; refine (awake_any _).mono ?_; rintro e w' ⟨rfl, k, rfl⟩) | (go_at_call 17; refine (MulUp_any _ _ _).mono ?_; rintro e w' ⟨rfl, rfl⟩) | (go_at_call 15; refine (MulDown_any _ _ _).mono ?_; rintro e w' ⟨rfl, rfl⟩))
      go_ret
      exact ⟨rfl, _, rfl⟩
end Go.Proofs.Ythdhpcnnijejbaa
