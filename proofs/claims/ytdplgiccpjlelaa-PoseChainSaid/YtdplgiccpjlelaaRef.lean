/- Proved: the numbers of the reference return what their namesakes of package fixed return, and leave the world as it was. Conditions: as each theorem states. -/
import Derived.Test.YtdplgiccpjlelaaFix
import Derived.LoopTactic
import Derived.Deep.Draws
namespace Go.Proofs.Ytdplgiccpjlelaa
open Go.RowKit

theorem refClamp_any (a : Int) (w : World) :
    Calls Try.prog 53 #[.int .i64 a] w fun e w' => e = .returned (.int .i64 (clampI a)) ∧ w = w' := by
  by_cases h1 : a < -2147483648
  · go_enter Try.func53, Try.ntmps53
    go_wp2
    go_ret
    exact ⟨ret_int (by unfold clampI; rw [if_pos h1]), rfl⟩
  · by_cases h2 : 2147483648 < a
    · go_enter Try.func53, Try.ntmps53
      go_wp2
      go_ret
      exact ⟨ret_int (by unfold clampI; rw [if_neg (by omega), if_pos h2]), rfl⟩
    · go_enter Try.func53, Try.ntmps53
      go_wp2
      all_goals (go_ret; exact ⟨ret_int (by unfold clampI; rw [if_neg (by omega), if_neg (by omega)] <;> omega), rfl⟩)

theorem Floor_any (a b : Int) (w : World) (hb : 0 < b) (h1 : -9223372036854775808 ≤ a) (h2 : a ≤ 9223372036854775807) :
    Calls Try.prog 79 #[.int .i64 a, .int .i64 b] w fun e w' => e = .returned (.int .i64 (a / b)) ∧ w = w' := by
  obtain ⟨h3, h4⟩ := fl_bd (p := a) (q := b) (B := 9223372036854775808) (by omega) h1 (by omega)
  rw [fl_pos hb] at h3 h4
  have hp := Int.ediv_le_self (a := a) b
  by_cases h0 : 0 ≤ a
  · have h5 := hp h0
    have h6 := Int.emod_nonneg a (show b ≠ 0 by omega)
    clear hp
    go_enter Try.func79, Try.ntmps79
    go_wp2
    go_ret
    exact ⟨rfl, rfl⟩
  · have h7 : a / b < 0 := by rw [Int.ediv_lt_iff_lt_mul hb]; omega
    clear hp
    by_cases ht : a.tmod b < 0
    · have E := Lib.hid (tdiv_floor hb ht)
      have h5 : -9223372036854775808 ≤ a.tdiv b - 1 := by rw [E.out]; exact h3
      have h6 : a.tdiv b - 1 ≤ -1 := by rw [E.out]; omega
      go_enter Try.func79, Try.ntmps79
      go_wp2
      go_ret
      exact ⟨ret_int E.out, rfl⟩
    · have E := Lib.hid (tdiv_exact hb ht)
      have h5 : -9223372036854775808 ≤ a.tdiv b := by rw [E.out]; exact h3
      have h6 : a.tdiv b ≤ -1 := by rw [E.out]; omega
      go_enter Try.func79, Try.ntmps79
      go_wp2
      go_ret
      exact ⟨ret_int E.out, rfl⟩

theorem Ceil_any (a b : Int) (w : World) (hb : 0 < b) (h1 : -9223372036854775808 ≤ a) (h2 : a ≤ 9223372036854775807) :
    Calls Try.prog 80 #[.int .i64 a, .int .i64 b] w fun e w' => e = .returned (.int .i64 (ce a b)) ∧ w = w' := by
  have hc : -9223372036854775808 ≤ ce a b ∧ ce a b ≤ 9223372036854775807 := by
    unfold ce
    by_cases h0 : 0 ≤ a
    · obtain ⟨h3, h4⟩ := fl_bd (p := -a) (q := b) (B := 9223372036854775807) (by omega) (by omega) (by omega)
      rw [fl_pos hb] at h3 h4
      omega
    · have h3 := Int.ediv_le_self (a := -a) b (by omega)
      have h4 : 0 ≤ -a / b := Int.ediv_nonneg (by omega) (by omega)
      omega
  obtain ⟨h3, h4⟩ := hc
  by_cases h0 : 0 ≤ a
  · by_cases ht : 0 < a.tmod b
    · have E := Lib.hid (tdiv_ceil hb ht)
      rw [Int.tmod_eq_emod_of_nonneg h0] at ht
      have e := Int.tdiv_eq_ediv_of_nonneg (b := b) h0
      have h5 : a / b + 1 ≤ 9223372036854775807 := by rw [← e, E.out]; exact h4
      have h6 := Int.ediv_nonneg h0 (show 0 ≤ b by omega)
      have E2 := Lib.hid e
      clear e
      go_enter Try.func80, Try.ntmps80
      go_wp2
      go_ret
      exact ⟨ret_int (by rw [← E.out, E2.out]), rfl⟩
    · have E := Lib.hid (tdiv_ceil_exact hb ht)
      rw [Int.tmod_eq_emod_of_nonneg h0] at ht
      have e := Int.tdiv_eq_ediv_of_nonneg (b := b) h0
      have h5 : a / b ≤ 9223372036854775807 := by rw [← e, E.out]; exact h4
      have h6 := Int.ediv_nonneg h0 (show 0 ≤ b by omega)
      have E2 := Lib.hid e
      clear e
      go_enter Try.func80, Try.ntmps80
      go_wp2
      go_ret
      exact ⟨ret_int (by rw [← E.out, E2.out]), rfl⟩
  · by_cases ht : 0 < a.tmod b
    · exfalso
      have := Int.tmod_nonneg (a := -a) b (by omega)
      rw [Int.neg_tmod] at this
      omega
    · have E := Lib.hid (tdiv_ceil_exact hb ht)
      have h5 : -9223372036854775808 ≤ a.tdiv b := by rw [E.out]; exact h3
      have h6 : a.tdiv b ≤ 9223372036854775807 := by rw [E.out]; exact h4
      go_enter Try.func80, Try.ntmps80
      go_wp2
      go_ret
      exact ⟨ret_int E.out, rfl⟩

/-! The reference's root: a search by halving. -/
def BisRel (n : Int) (l h : Value) : Prop :=
  ∃ a b : Int, l = .int .i64 a ∧ h = .int .i64 b ∧ 1 ≤ a ∧ a < b ∧ b ≤ 4294967296 ∧ a * a ≤ n ∧ n < b * b
end Go.Proofs.Ytdplgiccpjlelaa
