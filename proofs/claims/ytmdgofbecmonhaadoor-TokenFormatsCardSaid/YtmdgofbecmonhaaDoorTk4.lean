/- Proved: the reference's functions of bytes and digits return what their namesakes in Tk1, Tk2 compute, and turn nothing. Conditions: as each theorem states. -/
import Derived.Test.YtmdgofbecmonhaaDoorChecked
import Derived.Test.YtmdgofbecmonhaaDoorTk2
import Derived.WalkKit
import Derived.Lib.Hide
import Derived.IntWalk
namespace Go.Proofs.YtmdgofbecmonhaaDoor
open Go.RowKit

theorem ret_i {k : IntKind} {a b : Int} (h : a = b) : Ending.returned (.int k a) = .returned (.int k b) := by rw [h]
theorem ret_bool' {a b : Bool} (h : a = b) : Ending.returned (.bool a) = .returned (.bool b) := by rw [h]
def pmB (c : Nat) : Bool := decide (c = 32) || (decide (c = 9) || (decide (c = 10) || (decide (33 ≤ c) && decide (c ≤ 126))))
theorem pmB_iff {c : Nat} : pmB c = true ↔ c = 32 ∨ c = 9 ∨ c = 10 ∨ 33 ≤ c ∧ c ≤ 126 := by simp [pmB]
set_option linter.unusedSimpArgs false in
set_option linter.unusedVariables false in
set_option maxHeartbeats 1600000 in
theorem permitted_any (c : Nat) (w : World) (hc : c < 256) :
    Calls Tryd.prog 37 #[ .int .u8 c ] w fun e w' => e = .returned (.bool (pmB c)) ∧ w = w' := by
  rcases (show c = 32 ∨ c = 9 ∨ c = 10 ∨ (c < 33 ∧ c ≠ 32 ∧ c ≠ 9 ∧ c ≠ 10) ∨ (33 ≤ c ∧ c ≤ 126) ∨ 126 < c by omega) with rfl | rfl | rfl | ⟨h1, h2, h3, h4⟩ | ⟨h1, h2⟩ | h
  all_goals
    go_enter Tryd.func37, Tryd.ntmps37
    go_wp2
    go_ret
    refine ⟨ret_bool' ?_, rfl⟩
    rw [Bool.eq_iff_iff, pmB_iff]
    simp
    try omega
set_option linter.unusedSimpArgs false in
set_option linter.unusedVariables false in
set_option maxHeartbeats 1600000 in
theorem inWord_any (c : Nat) (w : World) (hc : c < 256) :
    Calls Tryd.prog 38 #[ .int .u8 c ] w fun e w' => e = .returned (.bool (wb c)) ∧ w = w' := by
  rcases (show c = 35 ∨ c < 33 ∨ (33 ≤ c ∧ c ≤ 126 ∧ c ≠ 35) ∨ 126 < c by omega) with rfl | h | ⟨h1, h2, h3⟩ | h
  all_goals
    go_enter Tryd.func38, Tryd.ntmps38
    go_wp2
    go_ret
    refine ⟨ret_bool' ?_, rfl⟩
    rw [Bool.eq_iff_iff, wb_iff]
    simp
    try omega
/-- The text behind a sign. -/
def sgnX (s : ByteArray) : ByteArray := if sgnB (bts s) = true then s.extract 1 s.size else s
theorem sgnX_bts (s : ByteArray) : bts (sgnX s) = sgnT (bts s) := by
  unfold sgnX sgnT
  split
  · rw [bts_extract, List.take_of_length_le (by rw [List.length_drop, bts_len]; omega), List.drop_one]
  · rfl
theorem sgnX_size (s : ByteArray) : (sgnX s).size ≤ s.size := by
  rw [← bts_len, sgnX_bts, ← bts_len]
  unfold sgnT
  split
  · rw [List.length_tail]; omega
  · exact Nat.le_refl _
theorem sgnB_at (s : ByteArray) (h : 0 < s.size) : sgnB (bts s) = decide (s[0].toNat = 45) := by
  have := bts_drop s h
  rw [List.drop_zero] at this
  rw [this]; rfl
theorem sgnB_none (s : ByteArray) (h : s.size = 0) : sgnB (bts s) = false := by
  have : bts s = [] := by
    apply List.eq_nil_of_length_eq_zero; rw [bts_len]; exact h
  rw [this]; rfl
set_option linter.unusedSimpArgs false in
set_option linter.unusedVariables false in
set_option maxHeartbeats 1600000 in
theorem sign_any (s : ByteArray) (w : World) :
    Calls Tryd.prog 39 #[ .string s ] w fun e w' => e = .returned (.tuple #[.string (sgnX s), .bool (sgnB (bts s))]) ∧ w = w' := by
  by_cases h0 : s.size = 0
  · have hb := Lib.hid (sgnB_none s h0)
    go_enter Tryd.func39, Tryd.ntmps39
    go_wp2
    go_ret2
    exact ⟨by rw [sgnX, hb.out]; rfl, rfl⟩
  · have h0' : 0 < s.size := by omega
    have hb := Lib.hid (sgnB_at s h0')
    by_cases hc : s[0].toNat = 45
    · have hx : sgnX s = s.extract 1 s.size := by rw [sgnX, hb.out, if_pos (by simp [hc])]
      have HX := Lib.hid hx
      clear hx
      go_enter Tryd.func39, Tryd.ntmps39
      go_wp2
      go_ret2
      exact ⟨by rw [HX.out, hb.out]; simp [hc], rfl⟩
    · have hx : sgnX s = s := by rw [sgnX, hb.out, if_neg (by simp [hc])]
      have HX := Lib.hid hx
      clear hx
      go_enter Tryd.func39, Tryd.ntmps39
      go_wp2
      go_ret2
      exact ⟨by rw [HX.out, hb.out]; simp [hc], rfl⟩
set_option linter.unusedSimpArgs false in
set_option linter.unusedVariables false in
set_option maxHeartbeats 3200000 in
theorem digits_any (s : ByteArray) (w : World) (hs : s.size ≤ maxLen) :
    Calls Tryd.prog 40 #[ .string s ] w fun e w' => e = .returned (.tuple #[.int .i64 (digS (bts s) 0 0).1, .int .i64 (digS (bts s) 0 0).2]) ∧ w = w' := by
  unfold maxLen at hs
  go_enter Tryd.func40, Tryd.ntmps40
  go_wp2
  go_loop [4, 5] (fun n v => ∃ k x : Nat, k ≤ s.size ∧ n = .int .i64 k ∧ v = .int .i64 x ∧ x < 10 ^ min k 15 ∧ digS ((bts s).drop k) k x = digS (bts s) 0 0) (fun n _ => s.size - (intOf n).toNat)
  case atStart => exact ⟨0, 0, by omega, rfl, rfl, by decide, rfl⟩
  case round =>
    obtain ⟨k, x, hk, rfl, rfl, hx, hd⟩ := hrel
    have hx2 := pow_le15 k
    have hx3 : x ≤ 1000000000000000 := by omega
    clear hx2
    have HX := Lib.hid hx
    have HD := Lib.hid hd
    clear hx hd
    by_cases hlt : k < s.size
    · have hb := Lib.hid (bts_drop s hlt)
      have hc := (s[k]).toNat_lt
      rcases (show (s[k].toNat < 48 ∨ 57 < s[k].toNat) ∨ (48 ≤ s[k].toNat ∧ s[k].toNat ≤ 57 ∧ k < 15) ∨ (48 ≤ s[k].toNat ∧ s[k].toNat ≤ 57 ∧ 15 ≤ k) by omega) with h | ⟨h1, h2, h3⟩ | ⟨h1, h2, h3⟩
      · have he : digS (bts s) 0 0 = (k, x) := by rw [← HD.out, hb.out, digS_no (isd_not.2 h)]
        have HE := Lib.hid he
        clear he
        rcases h with h | h
        all_goals
          go_wp2
          go_ret2
          exact ⟨by rw [HE.out]; rfl, rfl⟩
      · have HS := Lib.hid (dig_step (n := k) (isd_iff.2 ⟨h1, h2⟩) HX.out)
        have HN : digS ((bts s).drop (k + 1)) (k + 1) (10 * x + (s[k].toNat - 48)) = digS (bts s) 0 0 := by
          rw [← HD.out, hb.out, digS_yes (isd_iff.2 ⟨h1, h2⟩), if_pos h3]
        have HN' := Lib.hid HN
        clear HN
        go_wp2
        go_round
        case rel => exact ⟨k + 1, 10 * x + (s[k].toNat - 48), by omega, by go_num, by go_num, by have := HS.out; rwa [if_pos h3] at this, HN'.out⟩
        case measure => simp [intOf]; omega
      · have HS := Lib.hid (dig_step (n := k) (isd_iff.2 ⟨h1, h2⟩) HX.out)
        have HN : digS ((bts s).drop (k + 1)) (k + 1) x = digS (bts s) 0 0 := by
          rw [← HD.out, hb.out, digS_yes (isd_iff.2 ⟨h1, h2⟩), if_neg (by omega)]
        have HN' := Lib.hid HN
        clear HN
        go_wp2
        go_round
        case rel => exact ⟨k + 1, x, by omega, by go_num, rfl, by have := HS.out; rwa [if_neg (by omega)] at this, HN'.out⟩
        case measure => simp [intOf]; omega
    · have he : digS (bts s) 0 0 = (k, x) := by rw [← HD.out, bts_end s (by omega)]; rfl
      have HE := Lib.hid he
      clear he
      go_wp2
      go_ret2
      exact ⟨by rw [HE.out]; rfl, rfl⟩
end Go.Proofs.YtmdgofbecmonhaaDoor
