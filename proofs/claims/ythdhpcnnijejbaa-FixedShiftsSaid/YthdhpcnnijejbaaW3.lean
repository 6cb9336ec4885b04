/- Proved: three statements of layer 1 return true. Conditions: the arguments are of their types. -/
import Derived.Test.YthdhpcnnijejbaaW1
namespace Go.Proofs.Ythdhpcnnijejbaa
open Go.RowKit
theorem root_ge_one {n : Int} (h : 1 ≤ n) : 1 ≤ rootI n := by
  refine Int.not_lt.1 fun hc => ?_
  have h1 := root_lt (n := n) (by omega)
  have h2 := root_nonneg n
  rw [show rootI n = 0 by omega] at h1
  omega
theorem root_div {n : Int} (h : 1 ≤ n) : rootI n ≤ n / rootI n := by
  have := root_ge_one h
  rw [Int.le_ediv_iff_mul_le (by omega)]
  exact root_sq (by omega)
theorem root_div_next {n : Int} (h : 1 ≤ n) : n / (rootI n + 1) < rootI n + 1 := by
  have := root_ge_one h
  rw [Int.ediv_lt_iff_lt_mul (by omega)]
  exact root_lt (by omega)
theorem rootU_low {n : Int} (h : n < 1) : rootU n = 0 := by
  unfold rootU
  rw [root_neg (by omega), if_neg (by omega)]
theorem rootU_sq {n : Int} (h : rootI n * rootI n = n) : rootU n = rootI n := by unfold rootU; rw [if_neg (by omega)]
theorem rootU_more {n : Int} (h0 : 0 ≤ n) (h : ¬rootI n * rootI n = n) : rootU n = rootI n + 1 := by
  unfold rootU
  have := root_sq h0
  rw [if_pos (by omega)]
set_option linter.unusedVariables false in
theorem FixedSquares_any (a s : Int) (w : World) (a1 : -9223372036854775808 ≤ a) (a2 : a ≤ 9223372036854775807) (s1 : 0 ≤ s) (s2 : s ≤ 255) :
    Calls Try.prog 6 #[.int .i64 a, .int .u8 s] w fun e w' => e = .returned (.bool true) ∧ ∃ k, w' = w.drewN k := by
  have hx := dv_in (s % 64).toNat a1 a2
  by_cases h0 : a / 2 ^ (s % 64).toNat < 1
  · have h1 := root_neg (n := a / 2 ^ (s % 64).toNat) (by omega)
    have h2 := rootU_low h0
    go_enter Try.func6, Try.ntmps6
    go_wp2_with (first | (go_at_call 20; refine (Root_any _ _ (by omega)).mono ?_; rintro e w' ⟨rfl, k, rfl⟩) | (go_at_call 22; refine (RootUp_any _ _ (by omega)).mono ?_; rintro e w' ⟨rfl, k, rfl⟩) | (go_at_call 12; refine (awake_any _).mono ?_; rintro e w' ⟨rfl, k, rfl⟩))
    go_ret
    exact ⟨rfl, _, rfl⟩
  · have h1 := root_ge_one (n := a / 2 ^ (s % 64).toNat) (by omega)
    have h2 := root_div (n := a / 2 ^ (s % 64).toNat) (by omega)
    have h3 := root_div_next (n := a / 2 ^ (s % 64).toNat) (by omega)
    have h4 := root_top hx.2
    have h5 : rootI (a / 2 ^ (s % 64).toNat) * rootI (a / 2 ^ (s % 64).toNat) ≤ 9223372036854775807 := Int.le_trans (root_sq (by omega)) hx.2
    have h6 : 0 ≤ rootI (a / 2 ^ (s % 64).toNat) * rootI (a / 2 ^ (s % 64).toNat) := Int.mul_nonneg (by omega) (by omega)
    have h7 : 0 ≤ (a / 2 ^ (s % 64).toNat) / rootI (a / 2 ^ (s % 64).toNat) := Int.ediv_nonneg (by omega) (by omega)
    have h8 : (a / 2 ^ (s % 64).toNat) / rootI (a / 2 ^ (s % 64).toNat) ≤ 9223372036854775807 := Int.le_trans (Int.ediv_le_self _ (by omega)) hx.2
    have h9 : 0 ≤ (a / 2 ^ (s % 64).toNat) / (rootI (a / 2 ^ (s % 64).toNat) + 1) := Int.ediv_nonneg (by omega) (by omega)
    have h10 : (a / 2 ^ (s % 64).toNat) / (rootI (a / 2 ^ (s % 64).toNat) + 1) ≤ 9223372036854775807 := Int.le_trans (Int.ediv_le_self _ (by omega)) hx.2
    by_cases ht : rootI (a / 2 ^ (s % 64).toNat) * rootI (a / 2 ^ (s % 64).toNat) = a / 2 ^ (s % 64).toNat
    · have e := rootU_sq ht
      have hf : (rootI (a / 2 ^ (s % 64).toNat) * rootI (a / 2 ^ (s % 64).toNat) == a / 2 ^ (s % 64).toNat) = true := by simpa using ht
      clear ht
      go_enter Try.func6, Try.ntmps6
      go_wp2_with (first | (go_at_call 20; refine (Root_any _ _ (by omega)).mono ?_; rintro e w' ⟨rfl, k, rfl⟩) | (go_at_call 22; refine (RootUp_any _ _ (by omega)).mono ?_; rintro e w' ⟨rfl, k, rfl⟩) | (go_at_call 12; refine (awake_any _).mono ?_; rintro e w' ⟨rfl, k, rfl⟩))
      go_ret
      exact ⟨rfl, _, rfl⟩
    · have e := rootU_more (by omega) ht
      have hf : (rootI (a / 2 ^ (s % 64).toNat) * rootI (a / 2 ^ (s % 64).toNat) == a / 2 ^ (s % 64).toNat) = false := by simpa using ht
      clear ht
      go_enter Try.func6, Try.ntmps6
      go_wp2_with (first | (go_at_call 20; refine (Root_any _ _ (by omega)).mono ?_; rintro e w' ⟨rfl, k, rfl⟩) | (go_at_call 22; refine (RootUp_any _ _ (by omega)).mono ?_; rintro e w' ⟨rfl, k, rfl⟩) | (go_at_call 12; refine (awake_any _).mono ?_; rintro e w' ⟨rfl, k, rfl⟩))
      go_ret
      exact ⟨rfl, _, rfl⟩
set_option linter.unusedVariables false in
theorem ShiftDown_all (a k : Int) (w : World) (h1 : -9223372036854775808 ≤ a) (h2 : a ≤ 9223372036854775807) :
    Calls Try.prog 30 #[.int .i64 a, .int .i64 k] w fun e w' => e = .returned (.int .i64 (shDI a k)) ∧ w = w' := by
  by_cases h : k < 0
  · have e : shDI a k = a := if_pos h
    rw [e]
    exact ShiftDown_neg a k w h
  · obtain ⟨m, rfl⟩ := Int.eq_ofNat_of_zero_le (show 0 ≤ k by omega)
    rw [shDI_nat]
    exact ShiftDown_any a m w
set_option linter.unusedVariables false in
theorem ShiftUp_all (a k : Int) (w : World) (h1 : -9223372036854775808 ≤ a) (h2 : a ≤ 9223372036854775807) :
    Calls Try.prog 32 #[.int .i64 a, .int .i64 k] w fun e w' => e = .returned (.int .i64 (shUI a k)) ∧ w = w' := by
  by_cases h : k < 0
  · have e : shUI a k = a := if_pos h
    rw [e]
    exact ShiftUp_neg a k w h
  · obtain ⟨m, rfl⟩ := Int.eq_ofNat_of_zero_le (show 0 ≤ k by omega)
    rw [shUI_nat]
    exact ShiftUp_any a m w h1 h2
set_option linter.unusedVariables false in
theorem refShiftDown_all (a k : Int) (w : World) (h1 : -9223372036854775808 ≤ a) (h2 : a ≤ 9223372036854775807) :
    Calls Try.prog 31 #[.int .i64 a, .int .i64 k] w fun e w' => e = .returned (.int .i64 (shDI a k)) ∧ w = w' := by
  by_cases h : k < 0
  · have e : shDI a k = a := if_pos h
    rw [e]
    exact refShiftDown_neg a k w h
  · obtain ⟨m, rfl⟩ := Int.eq_ofNat_of_zero_le (show 0 ≤ k by omega)
    rw [shDI_nat]
    exact refShiftDown_any a m w h1 h2
set_option linter.unusedVariables false in
theorem refShiftUp_all (a k : Int) (w : World) (h1 : -9223372036854775808 ≤ a) (h2 : a ≤ 9223372036854775807) :
    Calls Try.prog 33 #[.int .i64 a, .int .i64 k] w fun e w' => e = .returned (.int .i64 (shUI a k)) ∧ w = w' := by
  by_cases h : k < 0
  · have e : shUI a k = a := if_pos h
    rw [e]
    exact refShiftUp_neg a k w h
  · obtain ⟨m, rfl⟩ := Int.eq_ofNat_of_zero_le (show 0 ≤ k by omega)
    rw [shUI_nat]
    exact refShiftUp_any a m w h1 h2
set_option linter.unusedVariables false in
theorem FixedShifts_any (a k i j : Int) (w : World) (a1 : -9223372036854775808 ≤ a) (a2 : a ≤ 9223372036854775807) (k1 : -9223372036854775808 ≤ k) (k2 : k ≤ 9223372036854775807) (i1 : 0 ≤ i) (i2 : i ≤ 255) (j1 : 0 ≤ j) (j2 : j ≤ 255) :
    Calls Try.prog 10 #[.int .i64 a, .int .i64 k, .int .u8 i, .int .u8 j] w fun e w' => e = .returned (.bool true) ∧ ∃ k, w' = w.drewN k := by
  obtain ⟨x, hx⟩ : ∃ x : Nat, i % 64 = x := ⟨(i % 64).toNat, by omega⟩
  obtain ⟨y, hy⟩ : ∃ y : Nat, j % 64 = y := ⟨(j % 64).toNat, by omega⟩
  have hx2 : x ≤ 63 := by omega
  have hy2 : y ≤ 63 := by omega
  have hd := shD_in (k := x) a1 a2
  have hu := shU_in (k := x) a1 a2
  rw [← shDI_nat] at hd
  rw [← shUI_nat] at hu
  have e1 : shDI (shDI a x) y = shDI a (x + y) := by
    have := shD_add hx2 hy2 a1 (show a ≤ 9223372036854775808 by omega)
    rw [← shDI_nat, ← shDI_nat, ← shDI_nat] at this
    exact this
  have e2 : shUI (shUI a x) y = shUI a (x + y) := by
    have := shU_add hx2 hy2 a1 a2
    rw [← shUI_nat, ← shUI_nat, ← shUI_nat] at this
    exact this
  go_enter Try.func10, Try.ntmps10
  go_wp2_with (first | (go_at_call 30; refine (ShiftDown_all _ _ _ (by omega) (by omega)).mono ?_; rintro e w' ⟨rfl, rfl⟩) | (go_at_call 31; refine (refShiftDown_all _ _ _ (by omega) (by omega)).mono ?_; rintro e w' ⟨rfl, rfl⟩) | (go_at_call 32; refine (ShiftUp_all _ _ _ (by omega) (by omega)).mono ?_; rintro e w' ⟨rfl, rfl⟩) | (go_at_call 33; refine (refShiftUp_all _ _ _ (by omega) (by omega)).mono ?_; rintro e w' ⟨rfl, rfl⟩) | (go_at_call 12; refine (awake_any _).mono ?_; rintro e w' ⟨rfl, k, rfl⟩))
  go_ret
  exact ⟨rfl, _, rfl⟩
theorem inv_core {x y q : Int} (hx1 : -2147483648 ≤ x) (hx2 : x ≤ 2147483648) (hy1 : 1 ≤ y) (hy2 : y ≤ 2147483648) (hq : q = quoD x y) (hq1 : -2147483648 ≤ q) (hq2 : q ≤ 2147483648) :
    mulD q y ≤ x ∧ x - mulD q y ≤ y / 65536 + 1 := by
  unfold quoD at hq
  rw [clamp_id hx1 hx2, clamp_id (by omega) hy2, fl_pos (by omega)] at hq
  have e := Int.mul_ediv_add_emod (x * 65536) y
  have h1 := Int.emod_nonneg (x * 65536) (show y ≠ 0 by omega)
  have h2 := Int.emod_lt_of_pos (x * 65536) (show 0 < y by omega)
  rw [← hq, Int.mul_comm] at e
  unfold mulD pr
  rw [clamp_id hq1 hq2, clamp_id (by omega) hy2]
  omega
set_option linter.unusedVariables false in
theorem FixedInverse_any (a b s : Int) (w : World) (a1 : -9223372036854775808 ≤ a) (a2 : a ≤ 9223372036854775807) (b1 : -9223372036854775808 ≤ b) (b2 : b ≤ 9223372036854775807) (s1 : 0 ≤ s) (s2 : s ≤ 255) :
    Calls Try.prog 11 #[.int .i64 a, .int .i64 b, .int .u8 s] w fun e w' => e = .returned (.bool true) ∧ ∃ k, w' = w.drewN k := by
  have x1 := clamp_lo (a / 2 ^ (s % 64).toNat)
  have x2 := clamp_hi (a / 2 ^ (s % 64).toNat)
  have y1 := clamp_lo (b / 2 ^ (s / 4 % 64).toNat)
  have y2 := clamp_hi (b / 2 ^ (s / 4 % 64).toNat)
  go_enter Try.func11, Try.ntmps11
  go_wp2_with (go_at_call 14; refine (refClamp_any _ _).mono ?_; rintro e w' ⟨rfl, rfl⟩)
  generalize clampI (a / 2 ^ (s % 64).toNat) = x at *
  generalize clampI (b / 2 ^ (s / 4 % 64).toNat) = y at *
  by_cases hb : y = 0
  · subst hb
    go_wp2_with (first | (go_at_call 29; refine (DivDown_zero _ _).mono ?_; rintro e w' ⟨rfl, rfl⟩) | (go_at_call 12; refine (awake_any _).mono ?_; rintro e w' ⟨rfl, k, rfl⟩))
    go_ret
    exact ⟨rfl, _, rfl⟩
  · by_cases h1 : y < 1
    · go_wp2_with (first | (go_at_call 29; refine (DivDown_any _ _ _ hb).mono ?_; rintro e w' ⟨rfl, rfl⟩) | (go_at_call 12; refine (awake_any _).mono ?_; rintro e w' ⟨rfl, k, rfl⟩))
      go_ret
      exact ⟨rfl, _, rfl⟩
    · have hc := fun h3 h4 => inv_core (q := quoD x y) x1 x2 (by omega) y2 rfl h3 h4
      by_cases h3 : quoD x y < -2147483648
      · clear hc
        go_wp2_with (first | (go_at_call 29; refine (DivDown_any _ _ _ hb).mono ?_; rintro e w' ⟨rfl, rfl⟩) | (go_at_call 12; refine (awake_any _).mono ?_; rintro e w' ⟨rfl, k, rfl⟩))
        go_ret
        exact ⟨rfl, _, rfl⟩
      · by_cases h4 : 2147483648 < quoD x y
        · clear hc
          go_wp2_with (first | (go_at_call 29; refine (DivDown_any _ _ _ hb).mono ?_; rintro e w' ⟨rfl, rfl⟩) | (go_at_call 12; refine (awake_any _).mono ?_; rintro e w' ⟨rfl, k, rfl⟩))
          go_ret
          exact ⟨rfl, _, rfl⟩
        · obtain ⟨h5, h6⟩ := hc (by omega) (by omega)
          have h7 := mulD_lo (quoD x y) y
          clear hc
          go_wp2_with (first | (go_at_call 29; refine (DivDown_any _ _ _ hb).mono ?_; rintro e w' ⟨rfl, rfl⟩) | (go_at_call 15; refine (MulDown_any _ _ _).mono ?_; rintro e w' ⟨rfl, rfl⟩) | (go_at_call 12; refine (awake_any _).mono ?_; rintro e w' ⟨rfl, k, rfl⟩))
          go_ret
          exact ⟨rfl, _, rfl⟩
end Go.Proofs.Ythdhpcnnijejbaa
