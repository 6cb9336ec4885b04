/- Proved: awake, quotients and four statements of layer 1 return true. Conditions: the arguments are of their types. -/
import Derived.Test.YthdhpcnnijejbaaRef
import Derived.Test.YthdhpcnnijejbaaRoo
namespace Go.Proofs.Ythdhpcnnijejbaa
open Go.RowKit
theorem mulD_awake : mulD 98304 32768 = 49152 := by decide
theorem root_awake : rootI 15 = 3 := root_eq (by decide) (by decide) (by decide)
theorem awake_any (w : World) :
    Calls Try.prog 12 #[] w fun e w' => e = .returned (.bool true) ∧ ∃ k, w' = w.drewN k := by
  have h1 := mulD_awake
  have h2 := root_awake
  go_enter Try.func12, Try.ntmps12
  go_wp2_with (first | (go_at_call 15; refine (MulDown_any _ _ _).mono ?_; rintro e w' ⟨rfl, rfl⟩) | (go_at_call 20; refine (Root_any _ _ (by decide)).mono ?_; rintro e w' ⟨rfl, k, rfl⟩))
  go_ret
  exact ⟨rfl, _, rfl⟩
theorem mul_exact {x y : Int} (h : (clampI x * clampI y).tmod 65536 = 0) : mulU x y = mulD x y := by
  have h1 := tdiv_exact (a := pr x y) (b := 65536) (by decide) (by unfold pr; omega)
  have h2 := tdiv_ceil_exact (a := pr x y) (b := 65536) (by decide) (by unfold pr; omega)
  unfold ce at h2
  unfold mulU mulD
  omega
theorem mul_more {x y : Int} (h : ¬(clampI x * clampI y).tmod 65536 = 0) : mulU x y = mulD x y + 1 := by
  unfold mulU mulD
  by_cases h0 : (pr x y).tmod 65536 < 0
  · have h1 := tdiv_floor (a := pr x y) (b := 65536) (by decide) h0
    have h2 := tdiv_ceil_exact (a := pr x y) (b := 65536) (by decide) (by omega)
    unfold ce at h2
    omega
  · have h1 := tdiv_exact (a := pr x y) (b := 65536) (by decide) h0
    have h2 := tdiv_ceil (a := pr x y) (b := 65536) (by decide) (by unfold pr at h0 ⊢; omega)
    unfold ce at h2
    omega
set_option linter.unusedVariables false in
theorem FixedRoundings_any (a b s : Int) (w : World) (a1 : -9223372036854775808 ≤ a) (a2 : a ≤ 9223372036854775807) (b1 : -9223372036854775808 ≤ b) (b2 : b ≤ 9223372036854775807) (s1 : 0 ≤ s) (s2 : s ≤ 255) :
    Calls Try.prog 7 #[.int .i64 a, .int .i64 b, .int .u8 s] w fun e w' => e = .returned (.bool true) ∧ ∃ k, w' = w.drewN k := by
  go_enter Try.func7, Try.ntmps7
  go_wp2_with fail
  generalize a / 2 ^ (s % 64).toNat = x
  generalize b / 2 ^ (s / 4 % 64).toNat = y
  have l1 := mulD_lo x y
  have l2 := mulD_hi x y
  have l3 := pr_lo x y
  have l4 := pr_hi x y
  unfold pr at l3 l4
  by_cases ht : (clampI x * clampI y).tmod 65536 = 0
  · have e := mul_exact ht
    go_wp2_with (first | (go_at_call 15; refine (MulDown_any _ _ _).mono ?_; rintro e w' ⟨rfl, rfl⟩) | (go_at_call 17; refine (MulUp_any _ _ _).mono ?_; rintro e w' ⟨rfl, rfl⟩) | (go_at_call 14; refine (refClamp_any _ _).mono ?_; rintro e w' ⟨rfl, rfl⟩) | (go_at_call 12; refine (awake_any _).mono ?_; rintro e w' ⟨rfl, k, rfl⟩))
    go_ret
    exact ⟨rfl, _, rfl⟩
  · have e : mulU x y - mulD x y = 1 := by have := mul_more ht; omega
    have l5 := mulU_lo x y
    have l6 := mulU_hi x y
    have hf : ((clampI x * clampI y).tmod 65536 == 0) = false := by simpa using ht
    go_wp2_with (first | (go_at_call 15; refine (MulDown_any _ _ _).mono ?_; rintro e w' ⟨rfl, rfl⟩) | (go_at_call 17; refine (MulUp_any _ _ _).mono ?_; rintro e w' ⟨rfl, rfl⟩) | (go_at_call 14; refine (refClamp_any _ _).mono ?_; rintro e w' ⟨rfl, rfl⟩) | (go_at_call 12; refine (awake_any _).mono ?_; rintro e w' ⟨rfl, k, rfl⟩))
    go_ret
    exact ⟨rfl, _, rfl⟩
set_option linter.unusedVariables false in
theorem FixedProducts_any (a b s : Int) (w : World) (a1 : -9223372036854775808 ≤ a) (a2 : a ≤ 9223372036854775807) (b1 : -9223372036854775808 ≤ b) (b2 : b ≤ 9223372036854775807) (s1 : 0 ≤ s) (s2 : s ≤ 255) :
    Calls Try.prog 3 #[.int .i64 a, .int .i64 b, .int .u8 s] w fun e w' => e = .returned (.bool true) ∧ ∃ k, w' = w.drewN k := by
  go_enter Try.func3, Try.ntmps3
  go_wp2_with (first | (go_at_call 13; refine (clamp_any _ _).mono ?_; rintro e w' ⟨rfl, rfl⟩) | (go_at_call 14; refine (refClamp_any _ _).mono ?_; rintro e w' ⟨rfl, rfl⟩) | (go_at_call 15; refine (MulDown_any _ _ _).mono ?_; rintro e w' ⟨rfl, rfl⟩) | (go_at_call 16; refine (refMulDown_any _ _ _).mono ?_; rintro e w' ⟨rfl, rfl⟩) | (go_at_call 17; refine (MulUp_any _ _ _).mono ?_; rintro e w' ⟨rfl, rfl⟩) | (go_at_call 18; refine (refMulUp_any _ _ _).mono ?_; rintro e w' ⟨rfl, rfl⟩) | (go_at_call 12; refine (awake_any _).mono ?_; rintro e w' ⟨rfl, k, rfl⟩))
  go_ret
  exact ⟨rfl, _, rfl⟩
theorem mulD_mono {a c b : Int} (h : a ≤ c) (hb : 0 ≤ b) : mulD a b ≤ mulD c b := Int.ediv_le_ediv (by decide) (pr_mono h hb)
theorem mulU_mono {a c b : Int} (h : a ≤ c) (hb : 0 ≤ b) : mulU b a ≤ mulU b c := by
  have := pr_mono h hb
  have := Int.ediv_le_ediv (a := -pr c b) (b := -pr a b) (c := 65536) (by decide) (by omega)
  unfold mulU
  rw [pr_comm b a, pr_comm b c]
  omega
set_option linter.unusedVariables false in
theorem quotients_any (a b : Int) (w : World) :
    Calls Try.prog 19 #[.int .i64 a, .int .i64 b] w fun e w' => e = .returned (.bool true) ∧ w = w' := by
  by_cases hb : b = 0
  · subst hb
    go_enter Try.func19, Try.ntmps19
    go_wp2_with (first | (go_at_call 29; refine (DivDown_zero _ _).mono ?_; rintro e w' ⟨rfl, rfl⟩) | (go_at_call 28; refine (DivUp_zero _ _).mono ?_; rintro e w' ⟨rfl, rfl⟩) | (go_at_call 36; refine (refDivDown_zero _ _).mono ?_; rintro e w' ⟨rfl, rfl⟩) | (go_at_call 37; refine (refDivUp_zero _ _).mono ?_; rintro e w' ⟨rfl, rfl⟩))
    go_ret
    exact ⟨rfl, rfl⟩
  · go_enter Try.func19, Try.ntmps19
    go_wp2_with (first | (go_at_call 29; refine (DivDown_any _ _ _ hb).mono ?_; rintro e w' ⟨rfl, rfl⟩) | (go_at_call 28; refine (DivUp_any _ _ _ hb).mono ?_; rintro e w' ⟨rfl, rfl⟩) | (go_at_call 36; refine (refDivDown_any _ _ _ hb).mono ?_; rintro e w' ⟨rfl, rfl⟩) | (go_at_call 37; refine (refDivUp_any _ _ _ hb).mono ?_; rintro e w' ⟨rfl, rfl⟩))
    go_ret
    exact ⟨rfl, rfl⟩
set_option linter.unusedVariables false in
theorem FixedQuotients_any (a b s : Int) (w : World) (a1 : -9223372036854775808 ≤ a) (a2 : a ≤ 9223372036854775807) (b1 : -9223372036854775808 ≤ b) (b2 : b ≤ 9223372036854775807) (s1 : 0 ≤ s) (s2 : s ≤ 255) :
    Calls Try.prog 4 #[.int .i64 a, .int .i64 b, .int .u8 s] w fun e w' => e = .returned (.bool true) ∧ ∃ k, w' = w.drewN k := by
  go_enter Try.func4, Try.ntmps4
  go_wp2_with (first | (go_at_call 19; refine (quotients_any _ _ _).mono ?_; rintro e w' ⟨rfl, rfl⟩) | (go_at_call 12; refine (awake_any _).mono ?_; rintro e w' ⟨rfl, k, rfl⟩))
  go_ret
  exact ⟨rfl, _, rfl⟩
set_option linter.unusedVariables false in
theorem FixedRoots_any (a s : Int) (w : World) (a1 : -9223372036854775808 ≤ a) (a2 : a ≤ 9223372036854775807) (s1 : 0 ≤ s) (s2 : s ≤ 255) :
    Calls Try.prog 5 #[.int .i64 a, .int .u8 s] w fun e w' => e = .returned (.bool true) ∧ ∃ k, w' = w.drewN k := by
  have hx := dv_in (s % 64).toNat a1 a2
  go_enter Try.func5, Try.ntmps5
  go_wp2_with fail
  generalize a / 2 ^ (s % 64).toNat = x at *
  go_wp2_with (first | (go_at_call 20; refine (Root_any _ _ (by omega)).mono ?_; rintro e w' ⟨rfl, k, rfl⟩) | (go_at_call 21; refine (refRoot_any _ _ (by omega)).mono ?_; rintro e w' ⟨rfl, rfl⟩) | (go_at_call 22; refine (RootUp_any _ _ (by omega)).mono ?_; rintro e w' ⟨rfl, k, rfl⟩) | (go_at_call 23; refine (refRootUp_any _ _ (by omega)).mono ?_; rintro e w' ⟨rfl, rfl⟩) | (go_at_call 24; refine (SqrtDown_any _ _).mono ?_; rintro e w' ⟨rfl, k, rfl⟩) | (go_at_call 25; refine (refSqrtDown_any _ _).mono ?_; rintro e w' ⟨rfl, rfl⟩) | (go_at_call 26; refine (SqrtUp_any _ _).mono ?_; rintro e w' ⟨rfl, k, rfl⟩) | (go_at_call 27; refine (refSqrtUp_any _ _).mono ?_; rintro e w' ⟨rfl, rfl⟩) | (go_at_call 12; refine (awake_any _).mono ?_; rintro e w' ⟨rfl, k, rfl⟩))
  go_ret
  exact ⟨rfl, _, rfl⟩
end Go.Proofs.Ythdhpcnnijejbaa
