/- Proved: the roots of package fixed return the numbers that their namesakes in Num compute, and leave the world as it was but for draws. Conditions: the argument is an int64. -/
import Derived.Test.YtgjeljbolhhphaaFix
import Derived.Test.YtgjeljbolhhphaaLen
import Derived.LoopTactic
import Derived.Deep.QuietTactic
import Derived.BigQuiet
import Derived.Deep.Draws
namespace Go.Proofs.Ytgjeljbolhhphaa
open Go.RowKit

theorem root_bound {R S : Nat} (h : R + S ≤ 4294967296) (hS : 0 < S) : ((R : Int) + (S : Int) / 2) * ((R : Int) + (S : Int) / 2) ≤ 18446744073709551615 := by
  have h1 : (R : Int) + (S : Int) / 2 ≤ 4294967295 := by omega
  have := sq_le (a := (R : Int) + (S : Int) / 2) (b := 4294967295) (by omega) h1
  omega
/-- The loop's relation: after k of d halvings the root lies from R on, below R + S, and S is 2^(d - k). -/
def RootRel (n d : Nat) (r s i : Value) : Prop :=
  ∃ k R S : Nat, k ≤ d ∧ i = .int .i64 k ∧ r = .int .u64 R ∧ s = .int .u64 S ∧ S = 2 ^ (d - k) ∧ R * R ≤ n ∧ n < (R + S) * (R + S) ∧ R + S ≤ 4294967296
theorem two_pow_le {d : Nat} (h : d ≤ 32) : 2 ^ d ≤ 4294967296 := by
  have : 2 ^ d ≤ 2 ^ 32 := Nat.pow_le_pow_right (by omega) h
  omega
theorem half_pow {d k S : Nat} (hk : k < d) (h : S = 2 ^ (d - k)) : S / 2 = 2 ^ (d - (k + 1)) ∧ S = S / 2 + S / 2 ∧ 0 < S := by
  have e : d - k = (d - (k + 1)) + 1 := by omega
  rw [e, Nat.pow_succ] at h
  have := Nat.two_pow_pos (d - (k + 1))
  omega
set_option maxHeartbeats 1000000 in
theorem Root_pos (n : Nat) (w : World) (h : (n : Int) ≤ 9223372036854775807) :
    Calls Try.prog 65 #[.int .i64 n] w fun e w' => e = .returned (.int .i64 (rootI n)) ∧ ∃ k, w' = w.drewN k := by
  go_enter Try.func65, Try.ntmps65
  go_wp2_with (go_at_call 69; refine (Len64_any _ _ (by omega)).mono ?_; rintro e w' ⟨⟨l, rfl, hl, hx⟩, rfl⟩)
  have hd : ((l : Int) + 1) / 2 = ((l + 1) / 2 : Nat) := by omega
  have hd2 : (l + 1) / 2 ≤ 32 := by omega
  have hn : n < 2 ^ ((l + 1) / 2) * 2 ^ ((l + 1) / 2) := by
    rw [← Nat.pow_add]
    exact Nat.lt_of_lt_of_le hx (Nat.pow_le_pow_right (by omega) (by omega))
  rw [hd]
  generalize (l + 1) / 2 = d at *
  clear hd hx hl
  go_quiet (fail)
  go_wp2
  have e2 : IntKind.u64.wrap (2 ^ d) = ((2 ^ d : Nat) : Int) := by
    have h1 := two_pow_le hd2
    have h2 : (2 : Int) ^ d = ((2 ^ d : Nat) : Int) := by simp
    rw [h2]
    generalize (2 ^ d : Nat) = p at *
    exact IntWalk.u64_in _ (by omega)
  rw [e2]
  clear e2
  have h3 := two_pow_le hd2
  generalize hp : 2 ^ d = p at *
  have HP := Lib.hid hp
  clear hp
  go_loop [5, 6, 19] (RootRel n d) (fun _ _ i => d - (intOf i).toNat)
  case atStart => exact ⟨0, 0, p, by omega, rfl, rfl, rfl, by rw [← HP.out]; rfl, by omega, by rw [Nat.zero_add]; exact hn, by omega⟩
  case round =>
    clear HP hn h3
    obtain ⟨k, R, S, hk, rfl, rfl, rfl, hS, hR, hnR, hRS⟩ := hrel
    by_cases hlt : k < d
    · obtain ⟨hS1, hS2, hS3⟩ := half_pow hlt hS
      have hb := root_bound hRS hS3
      have hb0 : 0 ≤ ((R : Int) + (S : Int) / 2) * ((R : Int) + (S : Int) / 2) := Int.mul_nonneg (by omega) (by omega)
      have HS1 := Lib.hid hS1
      have HS2 := Lib.hid hS2
      clear hS hS1 hS2
      by_cases ht : ((R : Int) + (S : Int) / 2) * ((R : Int) + (S : Int) / 2) ≤ n
      · have ht' : (R + S / 2) * (R + S / 2) ≤ n := by
          have e : (((R + S / 2) * (R + S / 2) : Nat) : Int) = ((R : Int) + (S : Int) / 2) * ((R : Int) + (S : Int) / 2) := by rw [Int.natCast_mul, Int.natCast_add]; rfl
          omega
        go_wp2
        go_round
        case rel => exact ⟨k + 1, R + S / 2, S / 2, by omega, by go_num, by go_num, by go_num, HS1.out, ht', by have := HS2.out; rw [Nat.add_assoc, ← this]; exact hnR, by have := HS2.out; omega⟩
        case measure => simp [intOf]; omega
      · have ht' : n < (R + S / 2) * (R + S / 2) := by
          have e : (((R + S / 2) * (R + S / 2) : Nat) : Int) = ((R : Int) + (S : Int) / 2) * ((R : Int) + (S : Int) / 2) := by rw [Int.natCast_mul, Int.natCast_add]; rfl
          omega
        go_wp2
        go_round
        case rel => exact ⟨k + 1, R, S / 2, by omega, by go_num, rfl, by go_num, HS1.out, hR, ht', by omega⟩
        case measure => simp [intOf]; omega
    · obtain rfl : k = d := by omega
      have hS1 : S = 1 := by rw [hS, Nat.sub_self]
      have HE := Lib.hid (root_eq (n := n) (r := R) (by omega) (by exact_mod_cast hR) (by rw [hS1] at hnR; exact_mod_cast hnR))
      clear hS hS1 hR hnR
      go_wp2
      go_ret
      exact ⟨ret_int HE.out.symm, _, rfl⟩

theorem Root_any (n : Int) (w : World) (h : n ≤ 9223372036854775807) :
    Calls Try.prog 65 #[.int .i64 n] w fun e w' => e = .returned (.int .i64 (rootI n)) ∧ ∃ k, w' = w.drewN k := by
  by_cases h0 : 0 ≤ n
  · obtain ⟨m, rfl⟩ := Int.eq_ofNat_of_zero_le h0
    exact Root_pos m w h
  · have E := Lib.hid (root_neg (n := n) (by omega))
    go_enter Try.func65, Try.ntmps65
    go_wp2
    go_ret
    exact ⟨ret_int E.out.symm, 0, rfl⟩
theorem root_top {n : Int} (h : n ≤ 9223372036854775807) : rootI n ≤ 3037000499 := root_le (by omega) (by omega)
theorem RootUp_any (n : Int) (w : World) (h : n ≤ 9223372036854775807) :
    Calls Try.prog 66 #[.int .i64 n] w fun e w' => e = .returned (.int .i64 (rootU n)) ∧ ∃ k, w' = w.drewN k := by
  have h1 := root_top h
  have h2 := root_nonneg n
  have h3 : 0 ≤ rootI n * rootI n := Int.mul_nonneg h2 h2
  have h4 : rootI n * rootI n ≤ 9223372036854775807 := by
    have := sq_le h2 h1
    omega
  by_cases ht : rootI n * rootI n < n
  · have E := Lib.hid (show rootI n + 1 = rootU n by unfold rootU; rw [if_pos ht])
    go_enter Try.func66, Try.ntmps66
    go_wp2_with (go_at_call 65; refine (Root_any _ _ h).mono ?_; rintro e w' ⟨rfl, k, rfl⟩)
    go_ret
    exact ⟨ret_int E.out, _, rfl⟩
  · have E := Lib.hid (show rootI n = rootU n by unfold rootU; rw [if_neg ht])
    go_enter Try.func66, Try.ntmps66
    go_wp2_with (go_at_call 65; refine (Root_any _ _ h).mono ?_; rintro e w' ⟨rfl, k, rfl⟩)
    go_ret
    exact ⟨ret_int E.out, _, rfl⟩
theorem SqrtDown_any (a : Int) (w : World) :
    Calls Try.prog 57 #[.int .i64 a] w fun e w' => e = .returned (.int .i64 (sqD a)) ∧ ∃ k, w' = w.drewN k := by
  have h1 := clamp_lo a
  have h2 := clamp_hi a
  go_enter Try.func57, Try.ntmps57
  go_wp2_with (first | (go_at_call 59; refine (clamp_any _ _).mono ?_; rintro e w' ⟨rfl, rfl⟩) | (go_at_call 65; refine (Root_any _ _ (by omega)).mono ?_; rintro e w' ⟨rfl, k, rfl⟩))
  go_ret
  exact ⟨rfl, _, rfl⟩
theorem SqrtUp_any (a : Int) (w : World) :
    Calls Try.prog 58 #[.int .i64 a] w fun e w' => e = .returned (.int .i64 (sqU a)) ∧ ∃ k, w' = w.drewN k := by
  have h1 := clamp_lo a
  have h2 := clamp_hi a
  go_enter Try.func58, Try.ntmps58
  go_wp2_with (first | (go_at_call 59; refine (clamp_any _ _).mono ?_; rintro e w' ⟨rfl, rfl⟩) | (go_at_call 66; refine (RootUp_any _ _ (by omega)).mono ?_; rintro e w' ⟨rfl, k, rfl⟩))
  go_ret
  exact ⟨rfl, _, rfl⟩
end Go.Proofs.Ytgjeljbolhhphaa
