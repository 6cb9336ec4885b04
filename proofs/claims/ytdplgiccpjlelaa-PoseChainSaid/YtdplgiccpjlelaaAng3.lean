/- Proved: plain arithmetic of sines and cosines: ranges, symmetries, rising and falling, the circle, parts of intervals. Conditions: as each theorem states. Nothing of the program is used. -/
import Derived.Test.YtdplgiccpjlelaaAng2
namespace Go.Proofs.Ytdplgiccpjlelaa
open Go.RowKit

/-- S(r) lies between 0 and One, is valid, and at most 2 wide. -/
theorem q_range {r : Int} (h1 : 0 ≤ r) (h2 : r ≤ 16384) : 0 ≤ (qZ r).lo ∧ (qZ r).lo ≤ (qZ r).hi ∧ (qZ r).hi ≤ 65536 ∧ (qZ r).hi ≤ (qZ r).lo + 2 := by
  obtain ⟨n, rfl⟩ := Int.eq_ofNat_of_zero_le h1
  have h := s_facts (r := n) (by omega)
  rw [q_nat (by omega)]
  simp only
  omega
theorem q_step {r : Int} (h1 : 0 ≤ r) (h2 : r < 16384) : (qZ r).lo ≤ (qZ (r + 1)).lo ∧ (qZ r).hi ≤ (qZ (r + 1)).hi := by
  obtain ⟨n, rfl⟩ := Int.eq_ofNat_of_zero_le h1
  have h := s_facts (r := n) (by omega)
  have e : ((n : Int) + 1) = ((n + 1 : Nat) : Int) := rfl
  rw [e, q_nat (by omega), q_nat (by omega)]
  simp only
  omega
theorem q_mono {r s : Int} (h1 : 0 ≤ r) (h2 : r ≤ s) (h3 : s ≤ 16384) : (qZ r).lo ≤ (qZ s).lo ∧ (qZ r).hi ≤ (qZ s).hi := by
  obtain ⟨n, rfl⟩ : ∃ n : Nat, s = r + n := ⟨(s - r).toNat, by omega⟩
  induction n with
  | zero => simp
  | succ n ih =>
    have h := ih (by omega) (by omega)
    have k := q_step (r := r + n) (by omega) (by omega)
    have e : r + ((n + 1 : Nat) : Int) = r + n + 1 := by omega
    rw [e]
    omega
theorem q_zero : qZ 0 = ⟨0, 0⟩ := by
  have h := q_nat (r := 0) (by omega)
  rw [s_zero.1, s_zero.2] at h
  exact h
theorem q_top : qZ 16384 = ⟨65536, 65536⟩ := by
  have h := q_nat (r := 16384) (by omega)
  rw [s_quarter.1, s_quarter.2] at h
  exact h
theorem q_one : qZ 1 = ⟨6, 7⟩ := by
  have h := q_nat (r := 1) (by omega)
  rw [s_one.1, s_one.2] at h
  exact h
theorem q_chord {r : Int} (h1 : 0 ≤ r) (h2 : r ≤ 16384) : 4 * r ≤ (qZ r).hi ∧ 4 * r ≤ (qZ r).lo + 2 ∧ (qZ r).lo ≤ r * 411775 / 65536 + 1 := by
  obtain ⟨n, rfl⟩ := Int.eq_ofNat_of_zero_le h1
  have h := s_facts (r := n) (by omega)
  rw [q_nat (by omega)]
  simp only
  omega
theorem q_valid {r : Int} (h1 : 0 ≤ r) (h2 : r ≤ 16384) : Valid (qZ r) := by
  have := q_range h1 h2
  unfold Valid
  omega
theorem neg_lo {a : Iv} (h : Valid a) : (negI a).lo = -a.hi := by unfold negI; rw [when1_yes h]
theorem neg_hi {a : Iv} (h : Valid a) : (negI a).hi = -a.lo := by unfold negI; rw [when1_yes h]

/-- The sine of an angle, over the rising half turn about 0: odd. -/
theorem turn_0 {m : Int} (h2 : m < 16384) : turnZ m = qZ m := if_pos h2
theorem turn_1 {m : Int} (h1 : 16384 ≤ m) (h2 : m < 32768) : turnZ m = qZ (32768 - m) := by unfold turnZ; rw [if_neg (by omega), if_pos h2]
theorem turn_2 {m : Int} (h1 : 32768 ≤ m) (h2 : m < 49152) : turnZ m = negI (qZ (m - 32768)) := by unfold turnZ; rw [if_neg (by omega), if_neg (by omega), if_pos h2]
theorem turn_3 {m : Int} (h1 : 49152 ≤ m) : turnZ m = negI (qZ (65536 - m)) := by unfold turnZ; rw [if_neg (by omega), if_neg (by omega), if_neg (by omega)]
/-- A quarter's angle from 0 to 16384, both ends: the four forms meet at the corners. -/
theorem sinA_turn (a : Int) : sinA (a + 65536) = sinA a := by unfold sinA; rw [show (a + 65536) % 65536 = a % 65536 by omega]
theorem sinA_mod (a : Int) : sinA (a % 65536) = sinA a := by unfold sinA; rw [show a % 65536 % 65536 = a % 65536 by omega]
theorem sinA_of {a m : Int} (h : a % 65536 = m) : sinA a = turnZ m := by unfold sinA; rw [h]
theorem cosA_eq (a : Int) : cosA a = sinA (a + 16384) := by unfold cosA sinA; rw [show (a % 65536 + 16384) % 65536 = (a + 16384) % 65536 by omega]
/-- sin on the closed quarters, whichever form. -/
theorem sin_q0 {a : Int} (h1 : 0 ≤ a) (h2 : a ≤ 16384) : sinA a = qZ a := by
  rw [sinA_of (m := a) (by omega)]
  by_cases h : a < 16384
  · exact turn_0 h
  · rw [turn_1 (by omega) (by omega), show 32768 - a = a by omega]
theorem sin_q1 {a : Int} (h1 : 16384 ≤ a) (h2 : a ≤ 32768) : sinA a = qZ (32768 - a) := by
  rw [sinA_of (m := a) (by omega)]
  by_cases h : a < 32768
  · exact turn_1 h1 h
  · rw [turn_2 (by omega) (by omega), show a - 32768 = 0 by omega, show 32768 - a = 0 by omega, q_zero]
    rfl
theorem sin_q2 {a : Int} (h1 : 32768 ≤ a) (h2 : a ≤ 49152) : sinA a = negI (qZ (a - 32768)) := by
  rw [sinA_of (m := a) (by omega)]
  by_cases h : a < 49152
  · exact turn_2 h1 h
  · rw [turn_3 (by omega), show 65536 - a = a - 32768 by omega]
theorem sin_q3 {a : Int} (h1 : 49152 ≤ a) (h2 : a ≤ 65536) : sinA a = negI (qZ (65536 - a)) := by
  by_cases h : a < 65536
  · rw [sinA_of (m := a) (by omega), turn_3 h1]
  · rw [show a = 0 + 65536 by omega, sinA_turn, sin_q0 (by omega) (by omega), q_zero]
    rfl
theorem sin_range (a : Int) : -65536 ≤ (sinA a).lo ∧ (sinA a).lo ≤ (sinA a).hi ∧ (sinA a).hi ≤ 65536 ∧ (sinA a).hi ≤ (sinA a).lo + 2 := by
  rw [← sinA_mod]
  generalize hm : a % 65536 = m
  have h0 : 0 ≤ m := by omega
  have h1 : m < 65536 := by omega
  by_cases c1 : m ≤ 16384
  · rw [sin_q0 h0 c1]
    have := q_range h0 c1
    omega
  by_cases c2 : m ≤ 32768
  · rw [sin_q1 (by omega) c2]
    have := q_range (r := 32768 - m) (by omega) (by omega)
    omega
  by_cases c3 : m ≤ 49152
  · rw [sin_q2 (by omega) c3, neg_lo (q_valid (by omega) (by omega)), neg_hi (q_valid (by omega) (by omega))]
    have := q_range (r := m - 32768) (by omega) (by omega)
    omega
  · rw [sin_q3 (by omega) (by omega), neg_lo (q_valid (by omega) (by omega)), neg_hi (q_valid (by omega) (by omega))]
    have := q_range (r := 65536 - m) (by omega) (by omega)
    omega
theorem sin_valid (a : Int) : Valid (sinA a) := by
  have := sin_range a
  unfold Valid
  omega
theorem sin_half (a : Int) : sinA (a + 32768) = negI (sinA a) := by
  rw [← sinA_mod, ← sinA_mod a]
  generalize hm : a % 65536 = m
  have h0 : 0 ≤ m := by omega
  have h1 : m < 65536 := by omega
  by_cases c : m < 32768
  · have e : (a + 32768) % 65536 = m + 32768 := by omega
    rw [e]
    by_cases c1 : m ≤ 16384
    · rw [sin_q0 h0 c1, sin_q2 (by omega) (by omega), show m + 32768 - 32768 = m by omega]
    · rw [sin_q1 (a := m) (by omega) (by omega), sin_q3 (a := m + 32768) (by omega) (by omega), show 65536 - (m + 32768) = 32768 - m by omega]
  · have e : (a + 32768) % 65536 = m - 32768 := by omega
    rw [e]
    by_cases c1 : m ≤ 49152
    · rw [sin_q2 (a := m) (by omega) c1, sin_q0 (a := m - 32768) (by omega) (by omega), neg_neg_I (q_valid (by omega) (by omega))]
    · rw [sin_q3 (a := m) (by omega) (by omega), sin_q1 (a := m - 32768) (by omega) (by omega), neg_neg_I (q_valid (by omega) (by omega)), show 32768 - (m - 32768) = 65536 - m by omega]
theorem sin_mirror (a : Int) : sinA (32768 - a) = sinA a := by
  rw [← sinA_mod, ← sinA_mod a]
  generalize hm : a % 65536 = m
  have h0 : 0 ≤ m := by omega
  have h1 : m < 65536 := by omega
  by_cases c : m ≤ 32768
  · have e : (32768 - a) % 65536 = 32768 - m := by omega
    rw [e]
    by_cases c1 : m ≤ 16384
    · rw [sin_q0 h0 c1, sin_q1 (by omega) (by omega), show 32768 - (32768 - m) = m by omega]
    · rw [sin_q1 (a := m) (by omega) c, sin_q0 (a := 32768 - m) (by omega) (by omega)]
  · have e : (32768 - a) % 65536 = 98304 - m := by omega
    rw [e]
    by_cases c1 : m ≤ 49152
    · rw [sin_q2 (a := m) (by omega) c1, sin_q3 (a := 98304 - m) (by omega) (by omega), show 65536 - (98304 - m) = m - 32768 by omega]
    · rw [sin_q3 (a := m) (by omega) (by omega), sin_q2 (a := 98304 - m) (by omega) (by omega), show 98304 - m - 32768 = 65536 - m by omega]
theorem sin_neg (a : Int) : sinA (-a) = negI (sinA a) := by
  rw [← sin_half, ← sin_mirror (a + 32768), show 32768 - (a + 32768) = -a by omega]
theorem cos_neg (a : Int) : cosA (-a) = cosA a := by
  rw [cosA_eq, cosA_eq, ← sin_mirror, show 32768 - (-a + 16384) = a + 16384 by omega]
theorem cos_comp (a : Int) : sinA (16384 - a) = cosA a := by rw [cosA_eq, ← sin_mirror, show 32768 - (16384 - a) = a + 16384 by omega]
theorem cos_turn (a : Int) : cosA (a - 65536) = cosA a := by
  rw [cosA_eq, cosA_eq, ← sinA_turn]
  congr 1
  omega
end Go.Proofs.Ytdplgiccpjlelaa
