/- Proved: the reference's functions of bytes and digits return what their namesakes in Tk1, Tk2 compute, and turn nothing. Conditions: as each theorem states. -/
import Derived.Test.YtnahlpeckfcciaaDoorChecked
import Derived.Test.YtnahlpeckfcciaaDoorTk2
import Derived.WalkKit
import Derived.Lib.Hide
import Derived.IntWalk
namespace Go.Proofs.YtnahlpeckfcciaaDoor
open Go.RowKit

theorem ret_i {k : IntKind} {a b : Int} (h : a = b) : Ending.returned (.int k a) = .returned (.int k b) := by rw [h]
theorem ret_bool' {a b : Bool} (h : a = b) : Ending.returned (.bool a) = .returned (.bool b) := by rw [h]
def pmB (c : Nat) : Bool := decide (c = 32) || (decide (c = 9) || (decide (c = 10) || (decide (33 ≤ c) && decide (c ≤ 126))))
theorem pmB_iff {c : Nat} : pmB c = true ↔ c = 32 ∨ c = 9 ∨ c = 10 ∨ 33 ≤ c ∧ c ≤ 126 := by simp [pmB]
set_option linter.unusedSimpArgs false in
set_option linter.unusedVariables false in
set_option maxHeartbeats 1600000 in
theorem permitted_any (c : Nat) (w : World) (hc : c < 256) :
    Calls Tryd.prog 58 #[ .int .u8 c ] w fun e w' => e = .returned (.bool (pmB c)) ∧ w = w' := by
  rcases (show c = 32 ∨ c = 9 ∨ c = 10 ∨ (c < 33 ∧ c ≠ 32 ∧ c ≠ 9 ∧ c ≠ 10) ∨ (33 ≤ c ∧ c ≤ 126) ∨ 126 < c by omega) with rfl | rfl | rfl | ⟨h1, h2, h3, h4⟩ | ⟨h1, h2⟩ | h
  all_goals
    go_enter Tryd.func58, Tryd.ntmps58
    go_wp2
    go_ret
    refine ⟨ret_bool' ?_, rfl⟩
    rw [Bool.eq_iff_iff, pmB_iff]
    simp
    try omega
set_option linter.unusedSimpArgs false in
set_option linter.unusedVariables false in
set_option maxHeartbeats 1600000 in
theorem inWord_any (c : Nat) (w : World) (hc : c < 256) :
    Calls Tryd.prog 59 #[ .int .u8 c ] w fun e w' => e = .returned (.bool (wb c)) ∧ w = w' := by
  rcases (show c = 35 ∨ c < 33 ∨ (33 ≤ c ∧ c ≤ 126 ∧ c ≠ 35) ∨ 126 < c by omega) with rfl | h | ⟨h1, h2, h3⟩ | h
  all_goals
    go_enter Tryd.func59, Tryd.ntmps59
    go_wp2
    go_ret
    refine ⟨ret_bool' ?_, rfl⟩
    rw [Bool.eq_iff_iff, wb_iff]
    simp
    try omega
/-- The text behind a sign. -/
def sgnX (s : ByteArray) : ByteArray := if sgnB (bts s) = true then s.extract 1 s.size else s
theorem sgnX_bts (s : ByteArray) : bts (sgnX s) = sgnT (bts s) := by
  unfold sgnX sgnT
  split
  · rw [bts_extract, List.take_of_length_le (by rw [List.length_drop, bts_len]; omega), List.drop_one]
  · rfl
theorem sgnX_size (s : ByteArray) : (sgnX s).size ≤ s.size := by
  rw [← bts_len, sgnX_bts, ← bts_len]
  unfold sgnT
  split
  · rw [List.length_tail]; omega
  · exact Nat.le_refl _
theorem sgnB_at (s : ByteArray) (h : 0 < s.size) : sgnB (bts s) = decide (s[0].toNat = 45) := by
  have := bts_drop s h
  rw [List.drop_zero] at this
  rw [this]; rfl
theorem sgnB_none (s : ByteArray) (h : s.size = 0) : sgnB (bts s) = false := by
  have : bts s = [] := by
    apply List.eq_nil_of_length_eq_zero; rw [bts_len]; exact h
  rw [this]; rfl
end Go.Proofs.YtnahlpeckfcciaaDoor
