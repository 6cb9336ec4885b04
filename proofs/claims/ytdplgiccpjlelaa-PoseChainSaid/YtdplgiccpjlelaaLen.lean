/- Proved: bits.Len64 returns a number of digits from 0 to 64 such that its argument is less than that power of two, and leaves the world as it was. Conditions: its argument is a uint64. -/
import Derived.Test.YtdplgiccpjlelaaChecked
import Derived.Lib.Strings
import Derived.Lib.Slices
import Derived.Lib.Small
import Derived.Lib.Walk
import Derived.Lib.BitFns
namespace Go.Proofs.Ytdplgiccpjlelaa

theorem len8_all : ∀ n : Fin 256, 0 ≤ Lib.len8 (n.val : Int) ∧ Lib.len8 (n.val : Int) ≤ 8 ∧ n.val < 2 ^ (Lib.len8 (n.val : Int)).toNat := by decide +kernel
theorem len_close (x base : Nat) (y v : Int) (hb : base ≤ 56) (h0 : 0 ≤ y) (h1 : y ≤ 255) (hy : y = ((x / 2 ^ base : Nat) : Int)) (hv : 0 ≤ Lib.len8 y → Lib.len8 y ≤ 8 → v = base + Lib.len8 y) :
    ∃ l : Nat, Ending.returned (.int .i64 v) = .returned (.int .i64 l) ∧ l ≤ 64 ∧ x < 2 ^ l := by
  obtain ⟨a, b, c⟩ := len8_all ⟨x / 2 ^ base, by omega⟩
  simp only [] at a b c
  rw [← hy] at a b c
  refine ⟨base + (Lib.len8 y).toNat, ?_, by omega, ?_⟩
  · rw [hv a b]
    congr 2
  · rw [Nat.pow_add]
    have h := Nat.div_lt_iff_lt_mul (x := x) (y := 2 ^ (Lib.len8 y).toNat) (Nat.two_pow_pos base)
    rw [Nat.mul_comm]
    exact h.1 c
end Go.Proofs.Ytdplgiccpjlelaa
