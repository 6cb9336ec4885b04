/- Proved: the reference's functions of the words that begin a statement return what their namesakes here compute, and turn nothing. Conditions: as each theorem states. -/
import Derived.Test.YtnahlpeckfcciaaDoorTk4
namespace Go.Proofs.YtnahlpeckfcciaaDoor
open Go.RowKit

/-- The words of chapter 7, by their place in its table; 5 for any other. -/
def wordK (l : List Nat) : Nat := if l = [106, 111, 105, 110, 116] then 0 else if l = [108, 105, 109, 105, 116] then 1 else if l = [109, 97, 115, 115] then 2 else if l = [115, 104, 97, 112, 101] then 3 else if l = [115, 107, 105, 112] then 4 else 5
def knownK (k : Nat) : Bool := decide (k < 5)
def argsK (k : Nat) (n : Int) : Bool := match k with
  | 0 => decide (n = 9)
  | 1 => decide (n = 4)
  | 2 => decide (n = 5)
  | 3 => decide (5 ≤ n ∧ n ≤ 26 ∧ (n - 2) % 3 = 0)
  | 4 => decide (n = 2)
  | _ => false
theorem bts_const (s : ByteArray) (l : List UInt8) : (s.toList == l) = decide (bts s = l.map UInt8.toNat) := by
  rw [Bool.eq_iff_iff, beq_iff_eq, decide_eq_true_eq, ByteArray.toList_eq]
  unfold bts
  constructor
  · intro h; rw [h]
  · intro h; exact (List.map_inj_right (fun x y h => UInt8.toNat_inj.1 h)).1 h
/-- How a text compares with the five words. -/
theorem word_cases (s : ByteArray) : (wordK (bts s) = 0 ∧ (s.toList == [106, 111, 105, 110, 116]) = true ∧ (s.toList == [108, 105, 109, 105, 116]) = false ∧ (s.toList == [109, 97, 115, 115]) = false ∧ (s.toList == [115, 104, 97, 112, 101]) = false ∧ (s.toList == [115, 107, 105, 112]) = false) ∨ (wordK (bts s) = 1 ∧ (s.toList == [106, 111, 105, 110, 116]) = false ∧ (s.toList == [108, 105, 109, 105, 116]) = true ∧ (s.toList == [109, 97, 115, 115]) = false ∧ (s.toList == [115, 104, 97, 112, 101]) = false ∧ (s.toList == [115, 107, 105, 112]) = false) ∨ (wordK (bts s) = 2 ∧ (s.toList == [106, 111, 105, 110, 116]) = false ∧ (s.toList == [108, 105, 109, 105, 116]) = false ∧ (s.toList == [109, 97, 115, 115]) = true ∧ (s.toList == [115, 104, 97, 112, 101]) = false ∧ (s.toList == [115, 107, 105, 112]) = false) ∨ (wordK (bts s) = 3 ∧ (s.toList == [106, 111, 105, 110, 116]) = false ∧ (s.toList == [108, 105, 109, 105, 116]) = false ∧ (s.toList == [109, 97, 115, 115]) = false ∧ (s.toList == [115, 104, 97, 112, 101]) = true ∧ (s.toList == [115, 107, 105, 112]) = false) ∨ (wordK (bts s) = 4 ∧ (s.toList == [106, 111, 105, 110, 116]) = false ∧ (s.toList == [108, 105, 109, 105, 116]) = false ∧ (s.toList == [109, 97, 115, 115]) = false ∧ (s.toList == [115, 104, 97, 112, 101]) = false ∧ (s.toList == [115, 107, 105, 112]) = true) ∨ (wordK (bts s) = 5 ∧ (s.toList == [106, 111, 105, 110, 116]) = false ∧ (s.toList == [108, 105, 109, 105, 116]) = false ∧ (s.toList == [109, 97, 115, 115]) = false ∧ (s.toList == [115, 104, 97, 112, 101]) = false ∧ (s.toList == [115, 107, 105, 112]) = false) := by
  have e0 := bts_const s [106, 111, 105, 110, 116]
  have e1 := bts_const s [108, 105, 109, 105, 116]
  have e2 := bts_const s [109, 97, 115, 115]
  have e3 := bts_const s [115, 104, 97, 112, 101]
  have e4 := bts_const s [115, 107, 105, 112]
  simp only [List.map_cons, List.map_nil] at e0 e1 e2 e3 e4
  by_cases h0 : bts s = [106, 111, 105, 110, 116]
  · left
    refine ⟨by unfold wordK; simp [h0], by rw [e0]; exact decide_eq_true h0, by rw [e1, h0]; rfl, by rw [e2, h0]; rfl, by rw [e3, h0]; rfl, by rw [e4, h0]; rfl⟩
  · skip
    by_cases h1 : bts s = [108, 105, 109, 105, 116]
    · right; left
      refine ⟨by unfold wordK; simp [h1], by rw [e0, h1]; rfl, by rw [e1]; exact decide_eq_true h1, by rw [e2, h1]; rfl, by rw [e3, h1]; rfl, by rw [e4, h1]; rfl⟩
    · skip
      by_cases h2 : bts s = [109, 97, 115, 115]
      · right; right; left
        refine ⟨by unfold wordK; simp [h2], by rw [e0, h2]; rfl, by rw [e1, h2]; rfl, by rw [e2]; exact decide_eq_true h2, by rw [e3, h2]; rfl, by rw [e4, h2]; rfl⟩
      · skip
        by_cases h3 : bts s = [115, 104, 97, 112, 101]
        · right; right; right; left
          refine ⟨by unfold wordK; simp [h3], by rw [e0, h3]; rfl, by rw [e1, h3]; rfl, by rw [e2, h3]; rfl, by rw [e3]; exact decide_eq_true h3, by rw [e4, h3]; rfl⟩
        · skip
          by_cases h4 : bts s = [115, 107, 105, 112]
          · right; right; right; right; left
            refine ⟨by unfold wordK; simp [h4], by rw [e0, h4]; rfl, by rw [e1, h4]; rfl, by rw [e2, h4]; rfl, by rw [e3, h4]; rfl, by rw [e4]; exact decide_eq_true h4⟩
          · skip
            right; right; right; right; right
            refine ⟨by unfold wordK; simp [*], by rw [e0]; exact decide_eq_false h0, by rw [e1]; exact decide_eq_false h1, by rw [e2]; exact decide_eq_false h2, by rw [e3]; exact decide_eq_false h3, by rw [e4]; exact decide_eq_false h4⟩
set_option linter.unusedSimpArgs false in
set_option linter.unusedVariables false in
set_option maxHeartbeats 3200000 in
theorem rKnown_any (s : ByteArray) (w : World) : Calls Tryd.prog 43 #[ .string s ] w fun e w' => e = .returned (.bool (knownK (wordK (bts s)))) ∧ w = w' := by
  obtain ⟨k, hkk⟩ : ∃ k, wordK (bts s) = k := ⟨_, rfl⟩
  rw [hkk]
  rcases word_cases s with h | h | h | h | h | h
  all_goals
    obtain ⟨hk, c0, c1, c2, c3, c4⟩ := h
    rw [hkk] at hk
    subst hk
    clear hkk
    go_enter Tryd.func43, Tryd.ntmps43
    go_wp2
    go_ret
    exact ⟨rfl, rfl⟩
set_option linter.unusedSimpArgs false in
set_option linter.unusedVariables false in
set_option maxHeartbeats 3200000 in
theorem rArguments_any (s : ByteArray) (n : Int) (w : World) (n1 : -9223372036854775808 ≤ n) (n2 : n ≤ 9223372036854775807) :
    Calls Tryd.prog 14 #[ .string s, .int .i64 n ] w fun e w' => e = .returned (.bool (argsK (wordK (bts s)) n)) ∧ w = w' := by
  obtain ⟨k, hkk⟩ : ∃ k, wordK (bts s) = k := ⟨_, rfl⟩
  rw [hkk]
  rcases word_cases s with h | h | h | h | h | h
  · obtain ⟨hk, c0, c1, c2, c3, c4⟩ := h
    rw [hkk] at hk
    subst hk
    clear hkk
    go_enter Tryd.func14, Tryd.ntmps14
    go_wp2
    go_ret
    exact ⟨ret_bool' (by first | rfl | (rw [Bool.eq_iff_iff]; simp [argsK])), rfl⟩
  · obtain ⟨hk, c0, c1, c2, c3, c4⟩ := h
    rw [hkk] at hk
    subst hk
    clear hkk
    go_enter Tryd.func14, Tryd.ntmps14
    go_wp2
    go_ret
    exact ⟨ret_bool' (by first | rfl | (rw [Bool.eq_iff_iff]; simp [argsK])), rfl⟩
  · obtain ⟨hk, c0, c1, c2, c3, c4⟩ := h
    rw [hkk] at hk
    subst hk
    clear hkk
    go_enter Tryd.func14, Tryd.ntmps14
    go_wp2
    go_ret
    exact ⟨ret_bool' (by first | rfl | (rw [Bool.eq_iff_iff]; simp [argsK])), rfl⟩
  · obtain ⟨hk, c0, c1, c2, c3, c4⟩ := h
    rw [hkk] at hk
    subst hk
    clear hkk
    rcases (show n < 5 ∨ 26 < n ∨ (5 ≤ n ∧ n ≤ 26) by omega) with h5 | h5 | ⟨h5, h6⟩
    all_goals
      go_enter Tryd.func14, Tryd.ntmps14
      go_wp2
      go_ret
      exact ⟨ret_bool' (by rw [Bool.eq_iff_iff]; simp [argsK]; try omega), rfl⟩
  · obtain ⟨hk, c0, c1, c2, c3, c4⟩ := h
    rw [hkk] at hk
    subst hk
    clear hkk
    go_enter Tryd.func14, Tryd.ntmps14
    go_wp2
    go_ret
    exact ⟨ret_bool' (by first | rfl | (rw [Bool.eq_iff_iff]; simp [argsK])), rfl⟩
  · obtain ⟨hk, c0, c1, c2, c3, c4⟩ := h
    rw [hkk] at hk
    subst hk
    clear hkk
    go_enter Tryd.func14, Tryd.ntmps14
    go_wp2
    go_ret
    exact ⟨ret_bool' (by first | rfl | (rw [Bool.eq_iff_iff]; simp [argsK])), rfl⟩
end Go.Proofs.YtnahlpeckfcciaaDoor
