/- Proved: the functions of package fixed that round, divide and shift return the numbers that their namesakes in Num compute, and leave the world as it was. Conditions: as each theorem states. -/
import Derived.Test.YthdhpcnnijejbaaChecked
import Derived.Test.YthdhpcnnijejbaaNum
import Derived.WalkKit
import Derived.WalkLawsBesides
import Derived.Lib.Hide
namespace Go.Proofs.Ythdhpcnnijejbaa
open Go.RowKit

theorem ret_int {k : IntKind} {a b : Int} (h : a = b) : Ending.returned (.int k a) = .returned (.int k b) := by rw [h]
theorem ret_int2 {k : IntKind} {a b : Int} {c : Bool} (h : a = b) : Ending.returned (.tuple #[.int k a, .bool c]) = .returned (.tuple #[.int k b, .bool c]) := by rw [h]

theorem clamp_any (a : Int) (w : World) :
    Calls Try.prog 13 #[.int .i64 a] w fun e w' => e = .returned (.int .i64 (clampI a)) ∧ w = w' := by
  by_cases h1 : a < -2147483648
  · go_enter Try.func13, Try.ntmps13
    go_wp2
    go_ret
    exact ⟨ret_int (by unfold clampI; rw [if_pos h1]), rfl⟩
  · by_cases h2 : 2147483648 < a
    · go_enter Try.func13, Try.ntmps13
      go_wp2
      go_ret
      exact ⟨ret_int (by unfold clampI; rw [if_neg (by omega), if_pos h2]), rfl⟩
    · go_enter Try.func13, Try.ntmps13
      go_wp2
      go_ret
      exact ⟨ret_int (by unfold clampI; rw [if_neg (by omega), if_neg (by omega)]), rfl⟩

theorem MulDown_any (a b : Int) (w : World) :
    Calls Try.prog 15 #[.int .i64 a, .int .i64 b] w fun e w' => e = .returned (.int .i64 (mulD a b)) ∧ w = w' := by
  have h1 := pr_lo a b
  have h2 := pr_hi a b
  unfold pr at h1 h2
  go_enter Try.func15, Try.ntmps15
  go_wp2_with (go_at_call 13; refine (clamp_any _ _).mono ?_; rintro e w' ⟨rfl, rfl⟩)
  go_ret
  exact ⟨rfl, rfl⟩
theorem MulUp_any (a b : Int) (w : World) :
    Calls Try.prog 17 #[.int .i64 a, .int .i64 b] w fun e w' => e = .returned (.int .i64 (mulU a b)) ∧ w = w' := by
  have h1 := pr_lo a b
  have h2 := pr_hi a b
  have h3 := clamp_lo a
  have h4 := clamp_hi a
  have e : -pr a b = -clampI a * clampI b := by unfold pr; rw [Int.neg_mul]
  have h5 : -4611686018427387904 ≤ -clampI a * clampI b := by omega
  have h6 : -clampI a * clampI b ≤ 4611686018427387904 := by omega
  have h7 := mulU_lo a b
  have h8 := mulU_hi a b
  unfold mulU at *
  have E := Lib.hid e
  rw [e] at h7 h8
  clear e h1 h2
  go_enter Try.func17, Try.ntmps17
  go_wp2_with (go_at_call 13; refine (clamp_any _ _).mono ?_; rintro e w' ⟨rfl, rfl⟩)
  go_ret
  exact ⟨ret_int (by rw [E.out]), rfl⟩

theorem floorDiv_any (p q : Int) (w : World) (hq : q ≠ 0) (h1 : -140737488355328 ≤ p) (h2 : p ≤ 140737488355328) :
    Calls Try.prog 39 #[.int .i64 p, .int .i64 q] w fun e w' => e = .returned (.int .i64 (fl p q)) ∧ w = w' := by
  have hb := fl_bd (B := 140737488355328) hq h1 h2
  by_cases h0 : p.tmod q = 0
  · have E := Lib.hid (fl_same hq (Or.inl h0))
    have h3 : -140737488355328 ≤ p.tdiv q := by rw [E.out]; exact hb.1
    have h4 : p.tdiv q ≤ 140737488355328 := by rw [E.out]; exact hb.2
    clear hb
    go_enter Try.func39, Try.ntmps39
    go_wp2
    go_ret
    exact ⟨ret_int E.out, rfl⟩
  · by_cases hs : p < 0 ↔ q < 0
    · have E := Lib.hid (fl_same hq (Or.inr hs))
      have h3 : -140737488355328 ≤ p.tdiv q := by rw [E.out]; exact hb.1
      have h4 : p.tdiv q ≤ 140737488355328 := by rw [E.out]; exact hb.2
      clear hb
      by_cases hp : p < 0
      · have hq' := hs.1 hp
        clear hs
        go_enter Try.func39, Try.ntmps39
        go_wp2
        go_ret
        exact ⟨ret_int E.out, rfl⟩
      · have hq' : ¬ q < 0 := fun h => hp (hs.2 h)
        have h5 : ¬ p % q = 0 := by rw [← Int.tmod_eq_emod_of_nonneg (by omega)]; exact h0
        clear hs
        go_enter Try.func39, Try.ntmps39
        go_wp2
        go_ret
        exact ⟨ret_int E.out, rfl⟩
    · have E := Lib.hid (fl_dec hq h0 hs)
      have h3 : -140737488355328 ≤ p.tdiv q - 1 := by rw [E.out]; exact hb.1
      have h4 : p.tdiv q - 1 ≤ 140737488355328 := by rw [E.out]; exact hb.2
      clear hb
      by_cases hp : p < 0
      · have hq' : ¬ q < 0 := by omega
        clear hs
        go_enter Try.func39, Try.ntmps39
        go_wp2
        go_ret
        exact ⟨ret_int E.out, rfl⟩
      · have hq' : q < 0 := by omega
        have h5 : ¬ p % q = 0 := by rw [← Int.tmod_eq_emod_of_nonneg (by omega)]; exact h0
        clear hs
        go_enter Try.func39, Try.ntmps39
        go_wp2
        go_ret
        exact ⟨ret_int E.out, rfl⟩

theorem clamp_ne {b : Int} (h : ¬ b = 0) : clampI b ≠ 0 := fun e => h (clamp_zero.1 e)
theorem DivDown_zero (a : Int) (w : World) :
    Calls Try.prog 29 #[.int .i64 a, .int .i64 0] w fun e w' => e = .returned (.tuple #[.int .i64 0, .bool false]) ∧ w = w' := by
  go_enter Try.func29, Try.ntmps29
  go_wp2
  go_ret2
  exact ⟨rfl, rfl⟩
theorem DivDown_any (a b : Int) (w : World) (hb : ¬ b = 0) :
    Calls Try.prog 29 #[.int .i64 a, .int .i64 b] w fun e w' => e = .returned (.tuple #[.int .i64 (quoD a b), .bool true]) ∧ w = w' := by
  have h1 := clamp_lo a
  have h2 := clamp_hi a
  go_enter Try.func29, Try.ntmps29
  go_wp2_with (first | (go_at_call 13; refine (clamp_any _ _).mono ?_; rintro e w' ⟨rfl, rfl⟩) | (go_at_call 39; refine (floorDiv_any _ _ _ (clamp_ne hb) (by omega) (by omega)).mono ?_; rintro e w' ⟨rfl, rfl⟩))
  go_ret2
  exact ⟨rfl, rfl⟩
theorem DivUp_zero (a : Int) (w : World) :
    Calls Try.prog 28 #[.int .i64 a, .int .i64 0] w fun e w' => e = .returned (.tuple #[.int .i64 0, .bool false]) ∧ w = w' := by
  go_enter Try.func28, Try.ntmps28
  go_wp2
  go_ret2
  exact ⟨rfl, rfl⟩
theorem DivUp_any (a b : Int) (w : World) (hb : ¬ b = 0) :
    Calls Try.prog 28 #[.int .i64 a, .int .i64 b] w fun e w' => e = .returned (.tuple #[.int .i64 (quoU a b), .bool true]) ∧ w = w' := by
  have h1 := clamp_lo a
  have h2 := clamp_hi a
  obtain ⟨h3, h4⟩ := fl_bd (p := -clampI a * 65536) (B := 140737488355328) (clamp_ne hb) (by omega) (by omega)
  go_enter Try.func28, Try.ntmps28
  go_wp2_with (first | (go_at_call 13; refine (clamp_any _ _).mono ?_; rintro e w' ⟨rfl, rfl⟩) | (go_at_call 39; refine (floorDiv_any _ _ _ (clamp_ne hb) (by omega) (by omega)).mono ?_; rintro e w' ⟨rfl, rfl⟩))
  go_ret2
  exact ⟨rfl, rfl⟩
theorem ShiftDown_neg (a k : Int) (w : World) (h : k < 0) :
    Calls Try.prog 30 #[.int .i64 a, .int .i64 k] w fun e w' => e = .returned (.int .i64 a) ∧ w = w' := by
  go_enter Try.func30, Try.ntmps30
  go_wp2
  go_ret
  exact ⟨rfl, rfl⟩
theorem ShiftDown_any (a : Int) (k : Nat) (w : World) :
    Calls Try.prog 30 #[.int .i64 a, .int .i64 k] w fun e w' => e = .returned (.int .i64 (shD a k)) ∧ w = w' := by
  go_enter Try.func30, Try.ntmps30
  go_wp2
  go_ret
  exact ⟨rfl, rfl⟩
theorem ShiftUp_neg (a k : Int) (w : World) (h : k < 0) :
    Calls Try.prog 32 #[.int .i64 a, .int .i64 k] w fun e w' => e = .returned (.int .i64 a) ∧ w = w' := by
  go_enter Try.func32, Try.ntmps32
  go_wp2_with (go_at_call 30; refine (ShiftDown_neg _ _ _ h).mono ?_; rintro e w' ⟨rfl, rfl⟩)
  go_ret
  exact ⟨rfl, rfl⟩
theorem ShiftUp_any (a : Int) (k : Nat) (w : World) (h2 : -9223372036854775808 ≤ a) (h3 : a ≤ 9223372036854775807) :
    Calls Try.prog 32 #[.int .i64 a, .int .i64 k] w fun e w' => e = .returned (.int .i64 (shU a k)) ∧ w = w' := by
  by_cases h0 : k = 0
  · subst h0
    go_enter Try.func32, Try.ntmps32
    go_wp2_with (go_at_call 30; refine (ShiftDown_any _ 0 _).mono ?_; rintro e w' ⟨rfl, rfl⟩)
    go_ret
    exact ⟨ret_int (by simp [shD, shU]), rfl⟩
  · have hk : 0 < k := by omega
    have hb := shU_bd (k := k) (B := 9223372036854775808) h2 (by omega)
    by_cases h : wrap64 (shD a k * 2 ^ min k 64) = a
    · have E := Lib.hid (shU_eq h2 h3 h)
      have t : (wrap64 (shD a k * 2 ^ min k 64) != a) = false := by rw [h]; simp
      clear h hb h0
      go_enter Try.func32, Try.ntmps32
      go_wp2_with (go_at_call 30; refine (ShiftDown_any _ _ _).mono ?_; rintro e w' ⟨rfl, rfl⟩)
      go_ret
      exact ⟨ret_int E.out, rfl⟩
    · have E := Lib.hid (shU_ne h2 h3 h)
      have t : (wrap64 (shD a k * 2 ^ min k 64) != a) = true := by rw [bne_iff_ne]; exact h
      have h4 := shD_top (k := k) hk h3
      have h5 := shD_bd (k := k) (B := 9223372036854775808) h2 (by omega)
      clear h hb h0
      go_enter Try.func32, Try.ntmps32
      go_wp2_with (go_at_call 30; refine (ShiftDown_any _ _ _).mono ?_; rintro e w' ⟨rfl, rfl⟩)
      go_ret
      exact ⟨ret_int E.out, rfl⟩
end Go.Proofs.Ythdhpcnnijejbaa
