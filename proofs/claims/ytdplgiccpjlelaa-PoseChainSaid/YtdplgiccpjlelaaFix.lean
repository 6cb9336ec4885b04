/- Proved: the functions of package fixed that round, divide and shift return the numbers that their namesakes in Num compute, and leave the world as it was. Conditions: as each theorem states. -/
import Derived.Test.YtdplgiccpjlelaaChecked
import Derived.Test.YtdplgiccpjlelaaNum
import Derived.WalkKit
import Derived.WalkLawsBesides
import Derived.Lib.Hide
namespace Go.Proofs.Ytdplgiccpjlelaa
open Go.RowKit

theorem ret_int {k : IntKind} {a b : Int} (h : a = b) : Ending.returned (.int k a) = .returned (.int k b) := by rw [h]
theorem ret_int2 {k : IntKind} {a b : Int} {c : Bool} (h : a = b) : Ending.returned (.tuple #[.int k a, .bool c]) = .returned (.tuple #[.int k b, .bool c]) := by rw [h]

theorem clamp_any (a : Int) (w : World) :
    Calls Try.prog 83 #[.int .i64 a] w fun e w' => e = .returned (.int .i64 (clampI a)) ∧ w = w' := by
  by_cases h1 : a < -2147483648
  · go_enter Try.func83, Try.ntmps83
    go_wp2
    go_ret
    exact ⟨ret_int (by unfold clampI; rw [if_pos h1]), rfl⟩
  · by_cases h2 : 2147483648 < a
    · go_enter Try.func83, Try.ntmps83
      go_wp2
      go_ret
      exact ⟨ret_int (by unfold clampI; rw [if_neg (by omega), if_pos h2]), rfl⟩
    · go_enter Try.func83, Try.ntmps83
      go_wp2
      go_ret
      exact ⟨ret_int (by unfold clampI; rw [if_neg (by omega), if_neg (by omega)]), rfl⟩

theorem clamp_ne {b : Int} (h : ¬ b = 0) : clampI b ≠ 0 := fun e => h (clamp_zero.1 e)
theorem ShiftDown_neg (a k : Int) (w : World) (h : k < 0) :
    Calls Try.prog 99 #[.int .i64 a, .int .i64 k] w fun e w' => e = .returned (.int .i64 a) ∧ w = w' := by
  go_enter Try.func99, Try.ntmps99
  go_wp2
  go_ret
  exact ⟨rfl, rfl⟩
theorem ShiftDown_any (a : Int) (k : Nat) (w : World) :
    Calls Try.prog 99 #[.int .i64 a, .int .i64 k] w fun e w' => e = .returned (.int .i64 (shD a k)) ∧ w = w' := by
  go_enter Try.func99, Try.ntmps99
  go_wp2
  go_ret
  exact ⟨rfl, rfl⟩
theorem ShiftUp_neg (a k : Int) (w : World) (h : k < 0) :
    Calls Try.prog 100 #[.int .i64 a, .int .i64 k] w fun e w' => e = .returned (.int .i64 a) ∧ w = w' := by
  go_enter Try.func100, Try.ntmps100
  go_wp2_with (go_at_call 99; refine (ShiftDown_neg _ _ _ h).mono ?_; rintro e w' ⟨rfl, rfl⟩)
  go_ret
  exact ⟨rfl, rfl⟩
theorem ShiftUp_any (a : Int) (k : Nat) (w : World) (h2 : -9223372036854775808 ≤ a) (h3 : a ≤ 9223372036854775807) :
    Calls Try.prog 100 #[.int .i64 a, .int .i64 k] w fun e w' => e = .returned (.int .i64 (shU a k)) ∧ w = w' := by
  by_cases h0 : k = 0
  · subst h0
    go_enter Try.func100, Try.ntmps100
    go_wp2_with (go_at_call 99; refine (ShiftDown_any _ 0 _).mono ?_; rintro e w' ⟨rfl, rfl⟩)
    go_ret
    exact ⟨ret_int (by simp [shD, shU]), rfl⟩
  · have hk : 0 < k := by omega
    have hb := shU_bd (k := k) (B := 9223372036854775808) h2 (by omega)
    by_cases h : wrap64 (shD a k * 2 ^ min k 64) = a
    · have E := Lib.hid (shU_eq h2 h3 h)
      have t : (wrap64 (shD a k * 2 ^ min k 64) != a) = false := by rw [h]; simp
      clear h hb h0
      go_enter Try.func100, Try.ntmps100
      go_wp2_with (go_at_call 99; refine (ShiftDown_any _ _ _).mono ?_; rintro e w' ⟨rfl, rfl⟩)
      go_ret
      exact ⟨ret_int E.out, rfl⟩
    · have E := Lib.hid (shU_ne h2 h3 h)
      have t : (wrap64 (shD a k * 2 ^ min k 64) != a) = true := by rw [bne_iff_ne]; exact h
      have h4 := shD_top (k := k) hk h3
      have h5 := shD_bd (k := k) (B := 9223372036854775808) h2 (by omega)
      clear h hb h0
      go_enter Try.func100, Try.ntmps100
      go_wp2_with (go_at_call 99; refine (ShiftDown_any _ _ _).mono ?_; rintro e w' ⟨rfl, rfl⟩)
      go_ret
      exact ⟨ret_int E.out, rfl⟩
end Go.Proofs.Ytdplgiccpjlelaa
