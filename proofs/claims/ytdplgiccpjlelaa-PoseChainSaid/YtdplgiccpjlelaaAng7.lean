/- Proved: plain arithmetic: for every angle there is a rotation with rational entries within the enclosures of its cosine and sine, by computing. Conditions: as each theorem states. Nothing of the program is used. -/
import Derived.Test.YtdplgiccpjlelaaAng6
namespace Go.Proofs.Ytdplgiccpjlelaa
open Go.RowKit

/-- The tangent of half the angle, at scale 2^60. -/
def pT (r : Nat) : Nat := sT r * 1152921504606846976 / (1152921504606846976 + cT r)
def okPt (p a b e f : Nat) : Bool :=
  p.ble 1152921504606846976 && (a * (p * p + 1329227995784915872903807060280344576)).ble (2 * p * 1152921504606846976 * 65536) && (2 * p * 1152921504606846976 * 65536).ble (b * (p * p + 1329227995784915872903807060280344576)) &&
  (e * (p * p + 1329227995784915872903807060280344576)).ble ((1329227995784915872903807060280344576 - p * p) * 65536) && ((1329227995784915872903807060280344576 - p * p) * 65536).ble (f * (p * p + 1329227995784915872903807060280344576))
def okRot (r : Nat) : Bool := okPt (pT r) (sLo r) (sHi r) (sLo (16384 - r)) (sHi (16384 - r))
set_option maxRecDepth 100000 in
theorem okRot_0 : allFrom okRot 0 512 = true := by decide +kernel
set_option maxRecDepth 100000 in
theorem okRot_1 : allFrom okRot 512 512 = true := by decide +kernel
set_option maxRecDepth 100000 in
theorem okRot_2 : allFrom okRot 1024 512 = true := by decide +kernel
set_option maxRecDepth 100000 in
theorem okRot_3 : allFrom okRot 1536 512 = true := by decide +kernel
set_option maxRecDepth 100000 in
theorem okRot_4 : allFrom okRot 2048 512 = true := by decide +kernel
set_option maxRecDepth 100000 in
theorem okRot_5 : allFrom okRot 2560 512 = true := by decide +kernel
set_option maxRecDepth 100000 in
theorem okRot_6 : allFrom okRot 3072 512 = true := by decide +kernel
set_option maxRecDepth 100000 in
theorem okRot_7 : allFrom okRot 3584 512 = true := by decide +kernel
set_option maxRecDepth 100000 in
theorem okRot_8 : allFrom okRot 4096 512 = true := by decide +kernel
set_option maxRecDepth 100000 in
theorem okRot_9 : allFrom okRot 4608 512 = true := by decide +kernel
set_option maxRecDepth 100000 in
theorem okRot_10 : allFrom okRot 5120 512 = true := by decide +kernel
set_option maxRecDepth 100000 in
theorem okRot_11 : allFrom okRot 5632 512 = true := by decide +kernel
set_option maxRecDepth 100000 in
theorem okRot_12 : allFrom okRot 6144 512 = true := by decide +kernel
set_option maxRecDepth 100000 in
theorem okRot_13 : allFrom okRot 6656 512 = true := by decide +kernel
set_option maxRecDepth 100000 in
theorem okRot_14 : allFrom okRot 7168 512 = true := by decide +kernel
set_option maxRecDepth 100000 in
theorem okRot_15 : allFrom okRot 7680 512 = true := by decide +kernel
set_option maxRecDepth 100000 in
theorem okRot_16 : allFrom okRot 8192 512 = true := by decide +kernel
set_option maxRecDepth 100000 in
theorem okRot_17 : allFrom okRot 8704 512 = true := by decide +kernel
set_option maxRecDepth 100000 in
theorem okRot_18 : allFrom okRot 9216 512 = true := by decide +kernel
set_option maxRecDepth 100000 in
theorem okRot_19 : allFrom okRot 9728 512 = true := by decide +kernel
set_option maxRecDepth 100000 in
theorem okRot_20 : allFrom okRot 10240 512 = true := by decide +kernel
set_option maxRecDepth 100000 in
theorem okRot_21 : allFrom okRot 10752 512 = true := by decide +kernel
set_option maxRecDepth 100000 in
theorem okRot_22 : allFrom okRot 11264 512 = true := by decide +kernel
set_option maxRecDepth 100000 in
theorem okRot_23 : allFrom okRot 11776 512 = true := by decide +kernel
set_option maxRecDepth 100000 in
theorem okRot_24 : allFrom okRot 12288 512 = true := by decide +kernel
set_option maxRecDepth 100000 in
theorem okRot_25 : allFrom okRot 12800 512 = true := by decide +kernel
set_option maxRecDepth 100000 in
theorem okRot_26 : allFrom okRot 13312 512 = true := by decide +kernel
set_option maxRecDepth 100000 in
theorem okRot_27 : allFrom okRot 13824 512 = true := by decide +kernel
set_option maxRecDepth 100000 in
theorem okRot_28 : allFrom okRot 14336 512 = true := by decide +kernel
set_option maxRecDepth 100000 in
theorem okRot_29 : allFrom okRot 14848 512 = true := by decide +kernel
set_option maxRecDepth 100000 in
theorem okRot_30 : allFrom okRot 15360 512 = true := by decide +kernel
set_option maxRecDepth 100000 in
theorem okRot_31 : allFrom okRot 15872 512 = true := by decide +kernel
theorem okRot_all {r : Nat} (h : r < 16384) : okRot r = true := by
  by_cases h0 : r < 512
  · exact allFrom_at okRot_0 r (by omega) (by omega)
  by_cases h1 : r < 1024
  · exact allFrom_at okRot_1 r (by omega) (by omega)
  by_cases h2 : r < 1536
  · exact allFrom_at okRot_2 r (by omega) (by omega)
  by_cases h3 : r < 2048
  · exact allFrom_at okRot_3 r (by omega) (by omega)
  by_cases h4 : r < 2560
  · exact allFrom_at okRot_4 r (by omega) (by omega)
  by_cases h5 : r < 3072
  · exact allFrom_at okRot_5 r (by omega) (by omega)
  by_cases h6 : r < 3584
  · exact allFrom_at okRot_6 r (by omega) (by omega)
  by_cases h7 : r < 4096
  · exact allFrom_at okRot_7 r (by omega) (by omega)
  by_cases h8 : r < 4608
  · exact allFrom_at okRot_8 r (by omega) (by omega)
  by_cases h9 : r < 5120
  · exact allFrom_at okRot_9 r (by omega) (by omega)
  by_cases h10 : r < 5632
  · exact allFrom_at okRot_10 r (by omega) (by omega)
  by_cases h11 : r < 6144
  · exact allFrom_at okRot_11 r (by omega) (by omega)
  by_cases h12 : r < 6656
  · exact allFrom_at okRot_12 r (by omega) (by omega)
  by_cases h13 : r < 7168
  · exact allFrom_at okRot_13 r (by omega) (by omega)
  by_cases h14 : r < 7680
  · exact allFrom_at okRot_14 r (by omega) (by omega)
  by_cases h15 : r < 8192
  · exact allFrom_at okRot_15 r (by omega) (by omega)
  by_cases h16 : r < 8704
  · exact allFrom_at okRot_16 r (by omega) (by omega)
  by_cases h17 : r < 9216
  · exact allFrom_at okRot_17 r (by omega) (by omega)
  by_cases h18 : r < 9728
  · exact allFrom_at okRot_18 r (by omega) (by omega)
  by_cases h19 : r < 10240
  · exact allFrom_at okRot_19 r (by omega) (by omega)
  by_cases h20 : r < 10752
  · exact allFrom_at okRot_20 r (by omega) (by omega)
  by_cases h21 : r < 11264
  · exact allFrom_at okRot_21 r (by omega) (by omega)
  by_cases h22 : r < 11776
  · exact allFrom_at okRot_22 r (by omega) (by omega)
  by_cases h23 : r < 12288
  · exact allFrom_at okRot_23 r (by omega) (by omega)
  by_cases h24 : r < 12800
  · exact allFrom_at okRot_24 r (by omega) (by omega)
  by_cases h25 : r < 13312
  · exact allFrom_at okRot_25 r (by omega) (by omega)
  by_cases h26 : r < 13824
  · exact allFrom_at okRot_26 r (by omega) (by omega)
  by_cases h27 : r < 14336
  · exact allFrom_at okRot_27 r (by omega) (by omega)
  by_cases h28 : r < 14848
  · exact allFrom_at okRot_28 r (by omega) (by omega)
  by_cases h29 : r < 15360
  · exact allFrom_at okRot_29 r (by omega) (by omega)
  by_cases h30 : r < 15872
  · exact allFrom_at okRot_30 r (by omega) (by omega)
  exact allFrom_at okRot_31 r (by omega) (by omega)
/-- v / D, in units of 65536, lies in x. -/
def Con (x : Iv) (v D : Int) : Prop := x.lo * D ≤ v * 65536 ∧ v * 65536 ≤ x.hi * D
/-- A rotation with rational entries. -/
def Rot (a : Int) (C S D : Int) : Prop := 0 < D ∧ C * C + S * S = D * D ∧ Con (cosA a) C D ∧ Con (sinA a) S D
theorem rot_q {n : Nat} (h : n < 16384) : ∃ C S D, Rot n C S D := by
  have hk := okRot_all h
  unfold okRot okPt at hk
  simp only [Bool.and_eq_true, Nat.ble_eq] at hk
  generalize pT n = p at hk
  obtain ⟨⟨⟨⟨h0, h1⟩, h2⟩, h3⟩, h4⟩ := hk
  have hp : p * p ≤ 1329227995784915872903807060280344576 := Nat.mul_le_mul h0 h0
  refine ⟨((1329227995784915872903807060280344576 - p * p : Nat) : Int), ((2 * p * 1152921504606846976 : Nat) : Int), ((p * p + 1329227995784915872903807060280344576 : Nat) : Int), by omega, ?_, ?_, ?_⟩
  · have e : ((1329227995784915872903807060280344576 - p * p : Nat) : Int) = 1329227995784915872903807060280344576 - (p : Int) * p := by rw [Int.natCast_sub hp]; simp
    rw [e]
    have e2 : ((2 * p * 1152921504606846976 : Nat) : Int) = 2 * (p : Int) * 1152921504606846976 := by simp
    have e3 : ((p * p + 1329227995784915872903807060280344576 : Nat) : Int) = (p : Int) * p + 1329227995784915872903807060280344576 := by simp
    rw [e2, e3]
    grind
  · rw [cosA_eq, sin_q1 (a := (n : Int) + 16384) (by omega) (by omega), show 32768 - ((n : Int) + 16384) = ((16384 - n : Nat) : Int) by omega, q_nat (by omega)]
    unfold Con
    dsimp only
    rw [← Int.natCast_mul, ← Int.natCast_mul, show (65536 : Int) = ((65536 : Nat) : Int) from rfl, ← Int.natCast_mul]
    exact ⟨Int.ofNat_le.2 h3, Int.ofNat_le.2 h4⟩
  · rw [sin_q0 (a := (n : Int)) (by omega) (by omega), q_nat (by omega)]
    unfold Con
    dsimp only
    rw [← Int.natCast_mul, ← Int.natCast_mul, show (65536 : Int) = ((65536 : Nat) : Int) from rfl, ← Int.natCast_mul]
    exact ⟨Int.ofNat_le.2 h1, Int.ofNat_le.2 h2⟩
theorem con_neg {x : Iv} {v D : Int} (hx : Valid x) (h : Con x v D) : Con (negI x) (-v) D := by
  obtain ⟨h1, h2⟩ := h
  unfold Con
  rw [neg_lo hx, neg_hi hx, Int.neg_mul, Int.neg_mul, Int.neg_mul]
  omega
theorem rot_next {n m : Nat} (e : m = n + 16384) (h : ∃ C S D, Rot n C S D) : ∃ C S D, Rot m C S D := by
  obtain ⟨C, S, D, h0, h1, h2, h3⟩ := h
  have e1 : (m : Int) = (n : Int) + 16384 := by omega
  clear e
  refine ⟨-S, C, D, h0, by rw [Int.neg_mul_neg]; omega, ?_, ?_⟩
  · have e : cosA (m : Int) = negI (sinA n) := by rw [e1, cosA_eq, ← sin_half, show (n : Int) + 16384 + 16384 = n + 32768 by omega]
    rw [e]
    exact con_neg (sin_valid _) h3
  · have e : sinA (m : Int) = cosA n := by rw [e1, cosA_eq]
    rw [e]
    exact h2
theorem rot_nat (n : Nat) : ∃ C S D, Rot n C S D := by
  refine by_quarters (p := fun n => ∃ C S D, Rot n C S D) ?_ ?_ n
  · intro n h
    exact rot_q h
  · intro n m e h
    exact rot_next e h
theorem rot_all (a : Int) : ∃ C S D, Rot a C S D := by
  obtain ⟨n, hn⟩ := nat_of a
  obtain ⟨C, S, D, h0, h1, h2, h3⟩ := rot_nat n
  refine ⟨C, S, D, h0, h1, ?_, ?_⟩
  · rw [cos_same (a := (n : Int)) (b := a) (by rw [hn]; omega)] at h2
    exact h2
  · rw [sin_same (a := (n : Int)) (b := a) (by rw [hn]; omega)] at h3
    exact h3
end Go.Proofs.Ytdplgiccpjlelaa
