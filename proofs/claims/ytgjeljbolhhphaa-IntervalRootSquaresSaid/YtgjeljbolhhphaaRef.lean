/- Proved: the numbers of the reference return what their namesakes of package fixed return, and leave the world as it was. Conditions: as each theorem states. -/
import Derived.Test.YtgjeljbolhhphaaFix
import Derived.LoopTactic
import Derived.Deep.Draws
namespace Go.Proofs.Ytgjeljbolhhphaa
open Go.RowKit

theorem refClamp_any (a : Int) (w : World) :
    Calls Try.prog 35 #[.int .i64 a] w fun e w' => e = .returned (.int .i64 (clampI a)) ∧ w = w' := by
  by_cases h1 : a < -2147483648
  · go_enter Try.func35, Try.ntmps35
    go_wp2
    go_ret
    exact ⟨ret_int (by unfold clampI; rw [if_pos h1]), rfl⟩
  · by_cases h2 : 2147483648 < a
    · go_enter Try.func35, Try.ntmps35
      go_wp2
      go_ret
      exact ⟨ret_int (by unfold clampI; rw [if_neg (by omega), if_pos h2]), rfl⟩
    · go_enter Try.func35, Try.ntmps35
      go_wp2
      all_goals (go_ret; exact ⟨ret_int (by unfold clampI; rw [if_neg (by omega), if_neg (by omega)] <;> omega), rfl⟩)

theorem Floor_any (a b : Int) (w : World) (hb : 0 < b) (h1 : -9223372036854775808 ≤ a) (h2 : a ≤ 9223372036854775807) :
    Calls Try.prog 55 #[.int .i64 a, .int .i64 b] w fun e w' => e = .returned (.int .i64 (a / b)) ∧ w = w' := by
  obtain ⟨h3, h4⟩ := fl_bd (p := a) (q := b) (B := 9223372036854775808) (by omega) h1 (by omega)
  rw [fl_pos hb] at h3 h4
  have hp := Int.ediv_le_self (a := a) b
  by_cases h0 : 0 ≤ a
  · have h5 := hp h0
    have h6 := Int.emod_nonneg a (show b ≠ 0 by omega)
    clear hp
    go_enter Try.func55, Try.ntmps55
    go_wp2
    go_ret
    exact ⟨rfl, rfl⟩
  · have h7 : a / b < 0 := by rw [Int.ediv_lt_iff_lt_mul hb]; omega
    clear hp
    by_cases ht : a.tmod b < 0
    · have E := Lib.hid (tdiv_floor hb ht)
      have h5 : -9223372036854775808 ≤ a.tdiv b - 1 := by rw [E.out]; exact h3
      have h6 : a.tdiv b - 1 ≤ -1 := by rw [E.out]; omega
      go_enter Try.func55, Try.ntmps55
      go_wp2
      go_ret
      exact ⟨ret_int E.out, rfl⟩
    · have E := Lib.hid (tdiv_exact hb ht)
      have h5 : -9223372036854775808 ≤ a.tdiv b := by rw [E.out]; exact h3
      have h6 : a.tdiv b ≤ -1 := by rw [E.out]; omega
      go_enter Try.func55, Try.ntmps55
      go_wp2
      go_ret
      exact ⟨ret_int E.out, rfl⟩

theorem Ceil_any (a b : Int) (w : World) (hb : 0 < b) (h1 : -9223372036854775808 ≤ a) (h2 : a ≤ 9223372036854775807) :
    Calls Try.prog 56 #[.int .i64 a, .int .i64 b] w fun e w' => e = .returned (.int .i64 (ce a b)) ∧ w = w' := by
  have hc : -9223372036854775808 ≤ ce a b ∧ ce a b ≤ 9223372036854775807 := by
    unfold ce
    by_cases h0 : 0 ≤ a
    · obtain ⟨h3, h4⟩ := fl_bd (p := -a) (q := b) (B := 9223372036854775807) (by omega) (by omega) (by omega)
      rw [fl_pos hb] at h3 h4
      omega
    · have h3 := Int.ediv_le_self (a := -a) b (by omega)
      have h4 : 0 ≤ -a / b := Int.ediv_nonneg (by omega) (by omega)
      omega
  obtain ⟨h3, h4⟩ := hc
  by_cases h0 : 0 ≤ a
  · by_cases ht : 0 < a.tmod b
    · have E := Lib.hid (tdiv_ceil hb ht)
      rw [Int.tmod_eq_emod_of_nonneg h0] at ht
      have e := Int.tdiv_eq_ediv_of_nonneg (b := b) h0
      have h5 : a / b + 1 ≤ 9223372036854775807 := by rw [← e, E.out]; exact h4
      have h6 := Int.ediv_nonneg h0 (show 0 ≤ b by omega)
      have E2 := Lib.hid e
      clear e
      go_enter Try.func56, Try.ntmps56
      go_wp2
      go_ret
      exact ⟨ret_int (by rw [← E.out, E2.out]), rfl⟩
    · have E := Lib.hid (tdiv_ceil_exact hb ht)
      rw [Int.tmod_eq_emod_of_nonneg h0] at ht
      have e := Int.tdiv_eq_ediv_of_nonneg (b := b) h0
      have h5 : a / b ≤ 9223372036854775807 := by rw [← e, E.out]; exact h4
      have h6 := Int.ediv_nonneg h0 (show 0 ≤ b by omega)
      have E2 := Lib.hid e
      clear e
      go_enter Try.func56, Try.ntmps56
      go_wp2
      go_ret
      exact ⟨ret_int (by rw [← E.out, E2.out]), rfl⟩
  · by_cases ht : 0 < a.tmod b
    · exfalso
      have := Int.tmod_nonneg (a := -a) b (by omega)
      rw [Int.neg_tmod] at this
      omega
    · have E := Lib.hid (tdiv_ceil_exact hb ht)
      have h5 : -9223372036854775808 ≤ a.tdiv b := by rw [E.out]; exact h3
      have h6 : a.tdiv b ≤ 9223372036854775807 := by rw [E.out]; exact h4
      go_enter Try.func56, Try.ntmps56
      go_wp2
      go_ret
      exact ⟨ret_int E.out, rfl⟩

theorem refMulDown_any (a b : Int) (w : World) :
    Calls Try.prog 25 #[.int .i64 a, .int .i64 b] w fun e w' => e = .returned (.int .i64 (mulD a b)) ∧ w = w' := by
  have h1 := pr_lo a b
  have h2 := pr_hi a b
  unfold pr at h1 h2
  go_enter Try.func25, Try.ntmps25
  go_wp2_with (first | (go_at_call 35; refine (refClamp_any _ _).mono ?_; rintro e w' ⟨rfl, rfl⟩) | (go_at_call 55; refine (Floor_any _ _ _ (by decide) (by omega) (by omega)).mono ?_; rintro e w' ⟨rfl, rfl⟩))
  go_ret
  exact ⟨rfl, rfl⟩
theorem refMulUp_any (a b : Int) (w : World) :
    Calls Try.prog 26 #[.int .i64 a, .int .i64 b] w fun e w' => e = .returned (.int .i64 (mulU a b)) ∧ w = w' := by
  have h1 := pr_lo a b
  have h2 := pr_hi a b
  unfold pr at h1 h2
  go_enter Try.func26, Try.ntmps26
  go_wp2_with (first | (go_at_call 35; refine (refClamp_any _ _).mono ?_; rintro e w' ⟨rfl, rfl⟩) | (go_at_call 56; refine (Ceil_any _ _ _ (by decide) (by omega) (by omega)).mono ?_; rintro e w' ⟨rfl, rfl⟩))
  go_ret
  exact ⟨rfl, rfl⟩

/-! The reference's root: a search by halving. -/
def BisRel (n : Int) (l h : Value) : Prop :=
  ∃ a b : Int, l = .int .i64 a ∧ h = .int .i64 b ∧ 1 ≤ a ∧ a < b ∧ b ≤ 4294967296 ∧ a * a ≤ n ∧ n < b * b
set_option maxHeartbeats 400000 in
theorem refRoot_any (n : Int) (w : World) (h : n ≤ 9223372036854775807) :
    Calls Try.prog 67 #[.int .i64 n] w fun e w' => e = .returned (.int .i64 (rootI n)) ∧ w = w' := by
  by_cases h0 : n < 1
  · have E := Lib.hid (root_neg (n := n) (by omega))
    go_enter Try.func67, Try.ntmps67
    go_wp2
    go_ret
    exact ⟨ret_int E.out.symm, rfl⟩
  · go_enter Try.func67, Try.ntmps67
    go_wp2
    go_loop [3, 4] (BisRel n) (fun l h => (intOf h - intOf l).toNat)
    case atStart => exact ⟨1, 4294967296, rfl, rfl, by omega, by omega, by omega, by omega, by omega⟩
    case round =>
      obtain ⟨a, b, rfl, rfl, ha, hab, hb, h1, h2⟩ := hrel
      by_cases ht : b - a > 1
      · have hm1 : a < a + (b - a) / 2 := by omega
        have hm2 : a + (b - a) / 2 < b := by omega
        have hq := Int.le_ediv_iff_mul_le (a := a + (b - a) / 2) (b := n) (c := a + (b - a) / 2) (by omega)
        have hq0 : 0 ≤ n / (a + (b - a) / 2) := Int.ediv_nonneg (by omega) (by omega)
        have hq1 : n / (a + (b - a) / 2) ≤ n := Int.ediv_le_self _ (by omega)
        by_cases hs : a + (b - a) / 2 ≤ n / (a + (b - a) / 2)
        · have hs' := Lib.hid (hq.1 hs)
          clear hq
          go_wp2
          go_round
          case rel => exact ⟨a + (b - a) / 2, b, rfl, rfl, by omega, by omega, hb, hs'.out, h2⟩
          case measure => simp [intOf]; omega
        · have hs' := Lib.hid (show n < (a + (b - a) / 2) * (a + (b - a) / 2) from Int.not_le.1 fun hc => hs (hq.2 hc))
          clear hq
          go_wp2
          go_round
          case rel => exact ⟨a, a + (b - a) / 2, rfl, rfl, by omega, by omega, by omega, h1, hs'.out⟩
          case measure => simp [intOf]; omega
      · have hb1 : b = a + 1 := by omega
        subst hb1
        have E := Lib.hid (root_eq (by omega) h1 h2)
        clear h1 h2
        go_wp2
        go_ret
        exact ⟨ret_int E.out.symm, rfl⟩
theorem refRootUp_any (n : Int) (w : World) (h : n ≤ 9223372036854775807) :
    Calls Try.prog 68 #[.int .i64 n] w fun e w' => e = .returned (.int .i64 (rootU n)) ∧ w = w' := by
  have h1 : rootI n ≤ 3037000499 := root_le (by omega) (by omega)
  have h2 := root_nonneg n
  have h3 : 0 ≤ rootI n * rootI n := Int.mul_nonneg h2 h2
  have h4 : rootI n * rootI n ≤ 9223372036854775807 := by
    have := sq_le h2 h1
    omega
  by_cases ht : rootI n * rootI n < n
  · have E := Lib.hid (show rootI n + 1 = rootU n by unfold rootU; rw [if_pos ht])
    have h5 : 0 < n := by omega
    go_enter Try.func68, Try.ntmps68
    go_wp2_with (go_at_call 67; refine (refRoot_any _ _ h).mono ?_; rintro e w' ⟨rfl, rfl⟩)
    go_ret
    exact ⟨ret_int E.out, rfl⟩
  · have E := Lib.hid (show rootI n = rootU n by unfold rootU; rw [if_neg ht])
    by_cases h5 : 0 < n
    all_goals
      go_enter Try.func68, Try.ntmps68
      go_wp2_with (go_at_call 67; refine (refRoot_any _ _ h).mono ?_; rintro e w' ⟨rfl, rfl⟩)
      go_ret
      exact ⟨ret_int E.out, rfl⟩
theorem refSqrtDown_any (a : Int) (w : World) :
    Calls Try.prog 61 #[.int .i64 a] w fun e w' => e = .returned (.int .i64 (sqD a)) ∧ w = w' := by
  have h1 := clamp_lo a
  have h2 := clamp_hi a
  go_enter Try.func61, Try.ntmps61
  go_wp2_with (first | (go_at_call 35; refine (refClamp_any _ _).mono ?_; rintro e w' ⟨rfl, rfl⟩) | (go_at_call 67; refine (refRoot_any _ _ (by omega)).mono ?_; rintro e w' ⟨rfl, rfl⟩))
  all_goals (go_ret; exact ⟨ret_int (by unfold sqD; first | rfl | rw [Int.max_eq_left (by omega)] | (rw [Int.max_eq_right (by omega)]; rfl)), rfl⟩)
theorem refSqrtUp_any (a : Int) (w : World) :
    Calls Try.prog 62 #[.int .i64 a] w fun e w' => e = .returned (.int .i64 (sqU a)) ∧ w = w' := by
  have h1 := clamp_lo a
  have h2 := clamp_hi a
  go_enter Try.func62, Try.ntmps62
  go_wp2_with (first | (go_at_call 35; refine (refClamp_any _ _).mono ?_; rintro e w' ⟨rfl, rfl⟩) | (go_at_call 68; refine (refRootUp_any _ _ (by omega)).mono ?_; rintro e w' ⟨rfl, rfl⟩))
  all_goals (go_ret; exact ⟨ret_int (by unfold sqU; first | rfl | rw [Int.max_eq_left (by omega)] | (rw [Int.max_eq_right (by omega)]; rfl)), rfl⟩)

end Go.Proofs.Ytgjeljbolhhphaa
