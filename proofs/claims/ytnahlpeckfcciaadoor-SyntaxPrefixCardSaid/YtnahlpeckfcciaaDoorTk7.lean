/- Proved: the reference's Number returns the number that Tk2 names, and turns nothing. Conditions: as each theorem states. -/
import Derived.Test.YtnahlpeckfcciaaDoorTk5
namespace Go.Proofs.YtnahlpeckfcciaaDoor
open Go.RowKit

theorem finN_big {neg : Bool} {v : Nat} (h : 2147483648 < v) : finN neg v = none := if_pos h
theorem finN_neg {v : Nat} (h : v ≤ 2147483648) : finN true v = some (-(v : Int)) := by unfold finN; rw [if_neg (by omega)]; rfl
theorem finN_pos {v : Nat} (h : v ≤ 2147483648) : finN false v = some (v : Int) := by unfold finN; rw [if_neg (by omega)]; rfl
theorem drop_bts (t : ByteArray) (n : Nat) : bts (t.extract n t.size) = (bts t).drop n := by
  rw [bts_extract, List.take_of_length_le (by rw [List.length_drop, bts_len]; omega)]
theorem extract_size (t : ByteArray) (n : Nat) : (t.extract n t.size).size = t.size - n := by
  rw [← bts_len, drop_bts, List.length_drop, bts_len]
theorem pow6 {k : Nat} (h : k ≤ 6) : 1 ≤ 10 ^ k ∧ 10 ^ k ≤ 1000000 := by
  have : (10 : Nat) ^ k ≤ 10 ^ 6 := Nat.pow_le_pow_right (by decide) h
  exact ⟨Nat.pow_pos (by decide), by simpa using this⟩
end Go.Proofs.YtnahlpeckfcciaaDoor
