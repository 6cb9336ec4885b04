/- Proved: the roots of package fixed return the numbers that their namesakes in Num compute, and leave the world as it was but for draws. Conditions: the argument is an int64. -/
import Derived.Test.YtdplgiccpjlelaaFix
import Derived.Test.YtdplgiccpjlelaaLen
import Derived.LoopTactic
import Derived.Deep.QuietTactic
import Derived.BigQuiet
import Derived.Deep.Draws
namespace Go.Proofs.Ytdplgiccpjlelaa
open Go.RowKit

theorem root_bound {R S : Nat} (h : R + S ≤ 4294967296) (hS : 0 < S) : ((R : Int) + (S : Int) / 2) * ((R : Int) + (S : Int) / 2) ≤ 18446744073709551615 := by
  have h1 : (R : Int) + (S : Int) / 2 ≤ 4294967295 := by omega
  have := sq_le (a := (R : Int) + (S : Int) / 2) (b := 4294967295) (by omega) h1
  omega
/-- The loop's relation: after k of d halvings the root lies from R on, below R + S, and S is 2^(d - k). -/
def RootRel (n d : Nat) (r s i : Value) : Prop :=
  ∃ k R S : Nat, k ≤ d ∧ i = .int .i64 k ∧ r = .int .u64 R ∧ s = .int .u64 S ∧ S = 2 ^ (d - k) ∧ R * R ≤ n ∧ n < (R + S) * (R + S) ∧ R + S ≤ 4294967296
theorem two_pow_le {d : Nat} (h : d ≤ 32) : 2 ^ d ≤ 4294967296 := by
  have : 2 ^ d ≤ 2 ^ 32 := Nat.pow_le_pow_right (by omega) h
  omega
theorem half_pow {d k S : Nat} (hk : k < d) (h : S = 2 ^ (d - k)) : S / 2 = 2 ^ (d - (k + 1)) ∧ S = S / 2 + S / 2 ∧ 0 < S := by
  have e : d - k = (d - (k + 1)) + 1 := by omega
  rw [e, Nat.pow_succ] at h
  have := Nat.two_pow_pos (d - (k + 1))
  omega
theorem root_top {n : Int} (h : n ≤ 9223372036854775807) : rootI n ≤ 3037000499 := root_le (by omega) (by omega)
end Go.Proofs.Ytdplgiccpjlelaa
