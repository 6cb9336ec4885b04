/- Proved: plain arithmetic of the series of sine and cosine: facts on all angles of a quarter turn, by computing. Conditions: as each theorem states. Nothing of the program is used. -/
import Derived.Test.YtdplgiccpjlelaaIv
namespace Go.Proofs.Ytdplgiccpjlelaa
open Go.RowKit

/-- ceil(x / y). -/
def cdN (x y : Nat) : Nat := (x + (y - 1)) / y
def aN (t : Nat) : Nat → Nat
  | 0 => t
  | k + 1 => aN t k * t / 1073741824
def bN (u : Nat) : Nat → Nat
  | 0 => u
  | k + 1 => cdN (bN u k * u) 1073741824
def tN (x : Nat) : Nat := x * 6746518852 / 65536
def uN (x : Nat) : Nat := cdN (x * 6746518853) 65536
/-- The two ends of the sine of x, and of the cosine. -/
def sinLo (t u : Nat) : Nat := (t + aN t 4 / 120 - (cdN (bN u 2) 6 + cdN (bN u 6) 5040)) / 16384
def sinHi (t u : Nat) : Nat := min 65536 (cdN (u + cdN (bN u 4) 120 + cdN (bN u 8) 362880 - (aN t 2 / 6 + aN t 6 / 5040)) 16384)
def cosLo (t u : Nat) : Nat := (1073741824 + aN t 3 / 24 + aN t 7 / 40320 - (cdN (bN u 1) 2 + cdN (bN u 5) 720 + cdN (bN u 9) 3628800)) / 16384
def cosHi (t u : Nat) : Nat := min 65536 (cdN (1073741824 + cdN (bN u 3) 24 + cdN (bN u 7) 40320 - (aN t 1 / 2 + aN t 5 / 720)) 16384)
def sLo (r : Nat) : Nat := if r ≤ 8192 then sinLo (tN r) (uN r) else cosLo (tN (16384 - r)) (uN (16384 - r))
def sHi (r : Nat) : Nat := if r ≤ 8192 then sinHi (tN r) (uN r) else cosHi (tN (16384 - r)) (uN (16384 - r))
/-- What is asked of one angle, of the next one and of the complement: the ends a, b of S(r), c, d of S(r + 1), e, f of S(16384 - r). -/
def okAt (r a b c d e f : Nat) : Bool :=
  a.ble b && b.ble 65536 && b.ble (a + 2) && a.ble c && b.ble d && (4 * r).ble b && (4 * r).ble (a + 2) && a.ble (r * 411775 / 65536 + 1) &&
  (a * a / 65536 + e * e / 65536).ble 65536 && Nat.ble 65536 (cdN (b * b) 65536 + cdN (f * f) 65536)
def okR (r : Nat) : Bool := okAt r (sLo r) (sHi r) (sLo (r + 1)) (sHi (r + 1)) (sLo (16384 - r)) (sHi (16384 - r))
def allFrom (p : Nat → Bool) (b : Nat) : Nat → Bool
  | 0 => true
  | n + 1 => p (b + n) && allFrom p b n
theorem allFrom_at {p : Nat → Bool} {b : Nat} : ∀ {n : Nat}, allFrom p b n = true → ∀ i, b ≤ i → i < b + n → p i = true
  | 0, _, i, h1, h2 => by omega
  | n + 1, h, i, h1, h2 => by
    unfold allFrom at h
    rw [Bool.and_eq_true] at h
    by_cases e : i = b + n
    · rw [e]; exact h.1
    · exact allFrom_at h.2 i h1 (by omega)
set_option maxRecDepth 100000 in
theorem ok_0 : allFrom okR 0 512 = true := by decide +kernel
set_option maxRecDepth 100000 in
theorem ok_1 : allFrom okR 512 512 = true := by decide +kernel
set_option maxRecDepth 100000 in
theorem ok_2 : allFrom okR 1024 512 = true := by decide +kernel
set_option maxRecDepth 100000 in
theorem ok_3 : allFrom okR 1536 512 = true := by decide +kernel
set_option maxRecDepth 100000 in
theorem ok_4 : allFrom okR 2048 512 = true := by decide +kernel
set_option maxRecDepth 100000 in
theorem ok_5 : allFrom okR 2560 512 = true := by decide +kernel
set_option maxRecDepth 100000 in
theorem ok_6 : allFrom okR 3072 512 = true := by decide +kernel
set_option maxRecDepth 100000 in
theorem ok_7 : allFrom okR 3584 512 = true := by decide +kernel
set_option maxRecDepth 100000 in
theorem ok_8 : allFrom okR 4096 512 = true := by decide +kernel
set_option maxRecDepth 100000 in
theorem ok_9 : allFrom okR 4608 512 = true := by decide +kernel
set_option maxRecDepth 100000 in
theorem ok_10 : allFrom okR 5120 512 = true := by decide +kernel
set_option maxRecDepth 100000 in
theorem ok_11 : allFrom okR 5632 512 = true := by decide +kernel
set_option maxRecDepth 100000 in
theorem ok_12 : allFrom okR 6144 512 = true := by decide +kernel
set_option maxRecDepth 100000 in
theorem ok_13 : allFrom okR 6656 512 = true := by decide +kernel
set_option maxRecDepth 100000 in
theorem ok_14 : allFrom okR 7168 512 = true := by decide +kernel
set_option maxRecDepth 100000 in
theorem ok_15 : allFrom okR 7680 512 = true := by decide +kernel
set_option maxRecDepth 100000 in
theorem ok_16 : allFrom okR 8192 512 = true := by decide +kernel
set_option maxRecDepth 100000 in
theorem ok_17 : allFrom okR 8704 512 = true := by decide +kernel
set_option maxRecDepth 100000 in
theorem ok_18 : allFrom okR 9216 512 = true := by decide +kernel
set_option maxRecDepth 100000 in
theorem ok_19 : allFrom okR 9728 512 = true := by decide +kernel
set_option maxRecDepth 100000 in
theorem ok_20 : allFrom okR 10240 512 = true := by decide +kernel
set_option maxRecDepth 100000 in
theorem ok_21 : allFrom okR 10752 512 = true := by decide +kernel
set_option maxRecDepth 100000 in
theorem ok_22 : allFrom okR 11264 512 = true := by decide +kernel
set_option maxRecDepth 100000 in
theorem ok_23 : allFrom okR 11776 512 = true := by decide +kernel
set_option maxRecDepth 100000 in
theorem ok_24 : allFrom okR 12288 512 = true := by decide +kernel
set_option maxRecDepth 100000 in
theorem ok_25 : allFrom okR 12800 512 = true := by decide +kernel
set_option maxRecDepth 100000 in
theorem ok_26 : allFrom okR 13312 512 = true := by decide +kernel
set_option maxRecDepth 100000 in
theorem ok_27 : allFrom okR 13824 512 = true := by decide +kernel
set_option maxRecDepth 100000 in
theorem ok_28 : allFrom okR 14336 512 = true := by decide +kernel
set_option maxRecDepth 100000 in
theorem ok_29 : allFrom okR 14848 512 = true := by decide +kernel
set_option maxRecDepth 100000 in
theorem ok_30 : allFrom okR 15360 512 = true := by decide +kernel
set_option maxRecDepth 100000 in
theorem ok_31 : allFrom okR 15872 512 = true := by decide +kernel
set_option maxRecDepth 100000 in
theorem ok_32 : allFrom okR 16384 1 = true := by decide +kernel
theorem ok_all {r : Nat} (h : r ≤ 16384) : okR r = true := by
  by_cases h0 : r < 512
  · exact allFrom_at ok_0 r (by omega) (by omega)
  by_cases h1 : r < 1024
  · exact allFrom_at ok_1 r (by omega) (by omega)
  by_cases h2 : r < 1536
  · exact allFrom_at ok_2 r (by omega) (by omega)
  by_cases h3 : r < 2048
  · exact allFrom_at ok_3 r (by omega) (by omega)
  by_cases h4 : r < 2560
  · exact allFrom_at ok_4 r (by omega) (by omega)
  by_cases h5 : r < 3072
  · exact allFrom_at ok_5 r (by omega) (by omega)
  by_cases h6 : r < 3584
  · exact allFrom_at ok_6 r (by omega) (by omega)
  by_cases h7 : r < 4096
  · exact allFrom_at ok_7 r (by omega) (by omega)
  by_cases h8 : r < 4608
  · exact allFrom_at ok_8 r (by omega) (by omega)
  by_cases h9 : r < 5120
  · exact allFrom_at ok_9 r (by omega) (by omega)
  by_cases h10 : r < 5632
  · exact allFrom_at ok_10 r (by omega) (by omega)
  by_cases h11 : r < 6144
  · exact allFrom_at ok_11 r (by omega) (by omega)
  by_cases h12 : r < 6656
  · exact allFrom_at ok_12 r (by omega) (by omega)
  by_cases h13 : r < 7168
  · exact allFrom_at ok_13 r (by omega) (by omega)
  by_cases h14 : r < 7680
  · exact allFrom_at ok_14 r (by omega) (by omega)
  by_cases h15 : r < 8192
  · exact allFrom_at ok_15 r (by omega) (by omega)
  by_cases h16 : r < 8704
  · exact allFrom_at ok_16 r (by omega) (by omega)
  by_cases h17 : r < 9216
  · exact allFrom_at ok_17 r (by omega) (by omega)
  by_cases h18 : r < 9728
  · exact allFrom_at ok_18 r (by omega) (by omega)
  by_cases h19 : r < 10240
  · exact allFrom_at ok_19 r (by omega) (by omega)
  by_cases h20 : r < 10752
  · exact allFrom_at ok_20 r (by omega) (by omega)
  by_cases h21 : r < 11264
  · exact allFrom_at ok_21 r (by omega) (by omega)
  by_cases h22 : r < 11776
  · exact allFrom_at ok_22 r (by omega) (by omega)
  by_cases h23 : r < 12288
  · exact allFrom_at ok_23 r (by omega) (by omega)
  by_cases h24 : r < 12800
  · exact allFrom_at ok_24 r (by omega) (by omega)
  by_cases h25 : r < 13312
  · exact allFrom_at ok_25 r (by omega) (by omega)
  by_cases h26 : r < 13824
  · exact allFrom_at ok_26 r (by omega) (by omega)
  by_cases h27 : r < 14336
  · exact allFrom_at ok_27 r (by omega) (by omega)
  by_cases h28 : r < 14848
  · exact allFrom_at ok_28 r (by omega) (by omega)
  by_cases h29 : r < 15360
  · exact allFrom_at ok_29 r (by omega) (by omega)
  by_cases h30 : r < 15872
  · exact allFrom_at ok_30 r (by omega) (by omega)
  by_cases h31 : r < 16384
  · exact allFrom_at ok_31 r (by omega) (by omega)
  exact allFrom_at ok_32 r (by omega) (by omega)
/-- What holds of the ends of S(r), for each r of the quarter turn. -/
theorem s_facts {r : Nat} (h : r ≤ 16384) : sLo r ≤ sHi r ∧ sHi r ≤ 65536 ∧ sHi r ≤ sLo r + 2 ∧ sLo r ≤ sLo (r + 1) ∧ sHi r ≤ sHi (r + 1) ∧ 4 * r ≤ sHi r ∧ 4 * r ≤ sLo r + 2 ∧ sLo r ≤ r * 411775 / 65536 + 1 ∧
    sLo r * sLo r / 65536 + sLo (16384 - r) * sLo (16384 - r) / 65536 ≤ 65536 ∧ 65536 ≤ cdN (sHi r * sHi r) 65536 + cdN (sHi (16384 - r) * sHi (16384 - r)) 65536 := by
  have hk := ok_all h
  unfold okR okAt at hk
  simp only [Bool.and_eq_true, Nat.ble_eq] at hk
  obtain ⟨⟨⟨⟨⟨⟨⟨⟨⟨h1, h2⟩, h3⟩, h4⟩, h5⟩, h6⟩, h7⟩, h8⟩, h9⟩, h10⟩ := hk
  exact ⟨h1, h2, h3, h4, h5, h6, h7, h8, h9, h10⟩
theorem s_zero : sLo 0 = 0 ∧ sHi 0 = 0 := by decide +kernel
theorem s_one : sLo 1 = 6 ∧ sHi 1 = 7 := by decide +kernel
theorem s_quarter : sLo 16384 = 65536 ∧ sHi 16384 = 65536 := by decide +kernel
end Go.Proofs.Ytdplgiccpjlelaa
