/- Proved: plain arithmetic: numbers of a rotation at a great scale lie within the enclosures of sine and cosine, and each step of a unit's angle is a rotation but for a small error, by computing. Conditions: as each theorem states. Nothing of the program is used. -/
import Derived.Test.YtdplgiccpjlelaaAng1
namespace Go.Proofs.Ytdplgiccpjlelaa
open Go.RowKit

/-- The scale is 2^60; an angle of r units of 1/65536 turn, at that scale. -/
def xT (r : Nat) : Nat := r * 7244019458077122842 / 65536
def yT (r : Nat) : Nat := xT r * xT r / 1152921504606846976
/-- One step of Horner's rule for the series of sine and cosine. -/
def hT (y d s : Nat) : Nat := 1152921504606846976 - y * s / (1152921504606846976 * d)
def sS (y : Nat) : Nat := hT y 6 (hT y 20 (hT y 42 (hT y 72 (hT y 110 (hT y 156 (hT y 210 (hT y 272 (hT y 342 (hT y 420 (hT y 506 (hT y 600 1152921504606846976)))))))))))
def sC (y : Nat) : Nat := hT y 2 (hT y 12 (hT y 30 (hT y 56 (hT y 90 (hT y 132 (hT y 182 (hT y 240 (hT y 306 (hT y 380 (hT y 462 (hT y 552 1152921504606846976)))))))))))
def sT (r : Nat) : Nat := xT r * sS (yT r) / 1152921504606846976
def cT (r : Nat) : Nat := sC (yT r)
/-- The rotation by one unit. -/
def zC : Nat := 1152921499308143465
def zS : Nat := 110534964706108
/-- The numbers of the next angle; a quarter turn is exact. -/
def cNext (r : Nat) : Nat := if r = 16383 then 0 else cT (r + 1)
def sNext (r : Nat) : Nat := if r = 16383 then 1152921504606846976 else sT (r + 1)
def okNear (l s h : Nat) : Bool := (l * 17592186044416).ble s && s.ble (h * 17592186044416)
def okStep (c s c' s' : Nat) : Bool :=
  (c' * 1152921504606846976 + s * zS).ble (c * zC + 18446744073709551616) && (c * zC).ble (c' * 1152921504606846976 + s * zS + 18446744073709551616) &&
  (s' * 1152921504606846976).ble (s * zC + c * zS + 18446744073709551616) && (s * zC + c * zS).ble (s' * 1152921504606846976 + 18446744073709551616)
def okW (r : Nat) : Bool := okNear (sLo r) (sT r) (sHi r) && okNear (sLo (16384 - r)) (cT r) (sHi (16384 - r)) && okStep (cT r) (sT r) (cNext r) (sNext r)
set_option maxRecDepth 100000 in
theorem okW_0 : allFrom okW 0 512 = true := by decide +kernel
set_option maxRecDepth 100000 in
theorem okW_1 : allFrom okW 512 512 = true := by decide +kernel
set_option maxRecDepth 100000 in
theorem okW_2 : allFrom okW 1024 512 = true := by decide +kernel
set_option maxRecDepth 100000 in
theorem okW_3 : allFrom okW 1536 512 = true := by decide +kernel
set_option maxRecDepth 100000 in
theorem okW_4 : allFrom okW 2048 512 = true := by decide +kernel
set_option maxRecDepth 100000 in
theorem okW_5 : allFrom okW 2560 512 = true := by decide +kernel
set_option maxRecDepth 100000 in
theorem okW_6 : allFrom okW 3072 512 = true := by decide +kernel
set_option maxRecDepth 100000 in
theorem okW_7 : allFrom okW 3584 512 = true := by decide +kernel
set_option maxRecDepth 100000 in
theorem okW_8 : allFrom okW 4096 512 = true := by decide +kernel
set_option maxRecDepth 100000 in
theorem okW_9 : allFrom okW 4608 512 = true := by decide +kernel
set_option maxRecDepth 100000 in
theorem okW_10 : allFrom okW 5120 512 = true := by decide +kernel
set_option maxRecDepth 100000 in
theorem okW_11 : allFrom okW 5632 512 = true := by decide +kernel
set_option maxRecDepth 100000 in
theorem okW_12 : allFrom okW 6144 512 = true := by decide +kernel
set_option maxRecDepth 100000 in
theorem okW_13 : allFrom okW 6656 512 = true := by decide +kernel
set_option maxRecDepth 100000 in
theorem okW_14 : allFrom okW 7168 512 = true := by decide +kernel
set_option maxRecDepth 100000 in
theorem okW_15 : allFrom okW 7680 512 = true := by decide +kernel
set_option maxRecDepth 100000 in
theorem okW_16 : allFrom okW 8192 512 = true := by decide +kernel
set_option maxRecDepth 100000 in
theorem okW_17 : allFrom okW 8704 512 = true := by decide +kernel
set_option maxRecDepth 100000 in
theorem okW_18 : allFrom okW 9216 512 = true := by decide +kernel
set_option maxRecDepth 100000 in
theorem okW_19 : allFrom okW 9728 512 = true := by decide +kernel
set_option maxRecDepth 100000 in
theorem okW_20 : allFrom okW 10240 512 = true := by decide +kernel
set_option maxRecDepth 100000 in
theorem okW_21 : allFrom okW 10752 512 = true := by decide +kernel
set_option maxRecDepth 100000 in
theorem okW_22 : allFrom okW 11264 512 = true := by decide +kernel
set_option maxRecDepth 100000 in
theorem okW_23 : allFrom okW 11776 512 = true := by decide +kernel
set_option maxRecDepth 100000 in
theorem okW_24 : allFrom okW 12288 512 = true := by decide +kernel
set_option maxRecDepth 100000 in
theorem okW_25 : allFrom okW 12800 512 = true := by decide +kernel
set_option maxRecDepth 100000 in
theorem okW_26 : allFrom okW 13312 512 = true := by decide +kernel
set_option maxRecDepth 100000 in
theorem okW_27 : allFrom okW 13824 512 = true := by decide +kernel
set_option maxRecDepth 100000 in
theorem okW_28 : allFrom okW 14336 512 = true := by decide +kernel
set_option maxRecDepth 100000 in
theorem okW_29 : allFrom okW 14848 512 = true := by decide +kernel
set_option maxRecDepth 100000 in
theorem okW_30 : allFrom okW 15360 512 = true := by decide +kernel
set_option maxRecDepth 100000 in
theorem okW_31 : allFrom okW 15872 512 = true := by decide +kernel
theorem okW_all {r : Nat} (h : r < 16384) : okW r = true := by
  by_cases h0 : r < 512
  · exact allFrom_at okW_0 r (by omega) (by omega)
  by_cases h1 : r < 1024
  · exact allFrom_at okW_1 r (by omega) (by omega)
  by_cases h2 : r < 1536
  · exact allFrom_at okW_2 r (by omega) (by omega)
  by_cases h3 : r < 2048
  · exact allFrom_at okW_3 r (by omega) (by omega)
  by_cases h4 : r < 2560
  · exact allFrom_at okW_4 r (by omega) (by omega)
  by_cases h5 : r < 3072
  · exact allFrom_at okW_5 r (by omega) (by omega)
  by_cases h6 : r < 3584
  · exact allFrom_at okW_6 r (by omega) (by omega)
  by_cases h7 : r < 4096
  · exact allFrom_at okW_7 r (by omega) (by omega)
  by_cases h8 : r < 4608
  · exact allFrom_at okW_8 r (by omega) (by omega)
  by_cases h9 : r < 5120
  · exact allFrom_at okW_9 r (by omega) (by omega)
  by_cases h10 : r < 5632
  · exact allFrom_at okW_10 r (by omega) (by omega)
  by_cases h11 : r < 6144
  · exact allFrom_at okW_11 r (by omega) (by omega)
  by_cases h12 : r < 6656
  · exact allFrom_at okW_12 r (by omega) (by omega)
  by_cases h13 : r < 7168
  · exact allFrom_at okW_13 r (by omega) (by omega)
  by_cases h14 : r < 7680
  · exact allFrom_at okW_14 r (by omega) (by omega)
  by_cases h15 : r < 8192
  · exact allFrom_at okW_15 r (by omega) (by omega)
  by_cases h16 : r < 8704
  · exact allFrom_at okW_16 r (by omega) (by omega)
  by_cases h17 : r < 9216
  · exact allFrom_at okW_17 r (by omega) (by omega)
  by_cases h18 : r < 9728
  · exact allFrom_at okW_18 r (by omega) (by omega)
  by_cases h19 : r < 10240
  · exact allFrom_at okW_19 r (by omega) (by omega)
  by_cases h20 : r < 10752
  · exact allFrom_at okW_20 r (by omega) (by omega)
  by_cases h21 : r < 11264
  · exact allFrom_at okW_21 r (by omega) (by omega)
  by_cases h22 : r < 11776
  · exact allFrom_at okW_22 r (by omega) (by omega)
  by_cases h23 : r < 12288
  · exact allFrom_at okW_23 r (by omega) (by omega)
  by_cases h24 : r < 12800
  · exact allFrom_at okW_24 r (by omega) (by omega)
  by_cases h25 : r < 13312
  · exact allFrom_at okW_25 r (by omega) (by omega)
  by_cases h26 : r < 13824
  · exact allFrom_at okW_26 r (by omega) (by omega)
  by_cases h27 : r < 14336
  · exact allFrom_at okW_27 r (by omega) (by omega)
  by_cases h28 : r < 14848
  · exact allFrom_at okW_28 r (by omega) (by omega)
  by_cases h29 : r < 15360
  · exact allFrom_at okW_29 r (by omega) (by omega)
  by_cases h30 : r < 15872
  · exact allFrom_at okW_30 r (by omega) (by omega)
  exact allFrom_at okW_31 r (by omega) (by omega)
theorem w_facts {r : Nat} (h : r < 16384) :
    ((sLo r * 17592186044416 ≤ sT r ∧ sT r ≤ sHi r * 17592186044416) ∧ (sLo (16384 - r) * 17592186044416 ≤ cT r ∧ cT r ≤ sHi (16384 - r) * 17592186044416)) ∧
    (cNext r * 1152921504606846976 + sT r * zS ≤ cT r * zC + 18446744073709551616 ∧ cT r * zC ≤ cNext r * 1152921504606846976 + sT r * zS + 18446744073709551616) ∧
    (sNext r * 1152921504606846976 ≤ sT r * zC + cT r * zS + 18446744073709551616 ∧ sT r * zC + cT r * zS ≤ sNext r * 1152921504606846976 + 18446744073709551616) := by
  have hk := okW_all h
  unfold okW okNear okStep at hk
  simp only [Bool.and_eq_true, Nat.ble_eq] at hk
  obtain ⟨⟨⟨h1, h2⟩, ⟨h3, h4⟩⟩, ⟨⟨h5, h6⟩, h7⟩, h8⟩ := hk
  exact ⟨⟨⟨h1, h2⟩, ⟨h3, h4⟩⟩, ⟨h5, h6⟩, ⟨h7, h8⟩⟩
theorem cT_zero : cT 0 = 1152921504606846976 ∧ sT 0 = 0 := by decide +kernel
end Go.Proofs.Ytdplgiccpjlelaa
