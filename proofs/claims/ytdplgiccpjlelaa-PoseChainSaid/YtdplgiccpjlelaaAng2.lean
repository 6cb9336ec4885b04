/- Proved: plain arithmetic of sines and cosines: what the numbers of the chapter are, and what holds of them at every angle. Conditions: as each theorem states. Nothing of the program is used. -/
import Derived.Test.YtdplgiccpjlelaaAng1
import Derived.Test.YtdplgiccpjlelaaIvO
namespace Go.Proofs.Ytdplgiccpjlelaa
open Go.RowKit

/-- The lower and the upper bounds of the powers. -/
def aZ (t : Int) : Nat → Int
  | 0 => t
  | k + 1 => aZ t k * t / 1073741824
def bZ (u : Int) : Nat → Int
  | 0 => u
  | k + 1 => ce (bZ u k * u) 1073741824
def tZ (x : Int) : Int := x * 6746518852 / 65536
def uZ (x : Int) : Int := ce (x * 6746518853) 65536
def enclZ (l h : Int) : Iv := ⟨max 0 (l / 16384), min 65536 (ce h 16384)⟩
def sineZ (x : Int) : Iv := enclZ (tZ x - ce (bZ (uZ x) 2) 6 + aZ (tZ x) 4 / 120 - ce (bZ (uZ x) 6) 5040)
  (uZ x - aZ (tZ x) 2 / 6 + ce (bZ (uZ x) 4) 120 - aZ (tZ x) 6 / 5040 + ce (bZ (uZ x) 8) 362880)
def cosineZ (x : Int) : Iv := enclZ (1073741824 - ce (bZ (uZ x) 1) 2 + aZ (tZ x) 3 / 24 - ce (bZ (uZ x) 5) 720 + aZ (tZ x) 7 / 40320 - ce (bZ (uZ x) 9) 3628800)
  (1073741824 - aZ (tZ x) 1 / 2 + ce (bZ (uZ x) 3) 24 - aZ (tZ x) 5 / 720 + ce (bZ (uZ x) 7) 40320)
/-- S(r). -/
def qZ (r : Int) : Iv := if r ≤ 8192 then sineZ r else cosineZ (16384 - r)
/-- Sin of an angle from 0 to a whole turn, and of every angle. -/
def turnZ (m : Int) : Iv := if m < 16384 then qZ m else if m < 32768 then qZ (32768 - m) else if m < 49152 then negI (qZ (m - 32768)) else negI (qZ (65536 - m))
def sinA (a : Int) : Iv := turnZ (a % 65536)
def cosA (a : Int) : Iv := sinA (a % 65536 + 16384)
/-- An integer that is c modulo a turn lies in a. -/
def Hits (a : Iv) (c : Int) : Prop := a.lo + (c - a.lo) % 65536 ≤ a.hi
instance (a : Iv) (c : Int) : Decidable (Hits a c) := by unfold Hits; infer_instance
/-- The hull, and beside it One or -One where an extreme value lies between. -/
def withTop (a x : Iv) (top : Int) : Iv := if Hits a top then hulI x (ofI 65536) else x
def withBottom (a x : Iv) (bottom : Int) : Iv := if Hits a bottom then hulI x (ofI (-65536)) else x
def overI (a l h : Iv) (top bottom : Int) : Iv := if Valid a then (if 65536 ≤ a.hi - a.lo then ⟨-65536, 65536⟩ else withBottom a (withTop a (hulI l h) top) bottom) else zeroI
def sinO (a : Iv) : Iv := overI a (sinA a.lo) (sinA a.hi) 16384 49152
def cosO (a : Iv) : Iv := overI a (cosA a.lo) (cosA a.hi) 0 32768

/-! The bridge to the numbers that were computed. -/
theorem ce_nat (x y : Nat) (hy : 0 < y) : ce (x : Int) (y : Int) = (cdN x y : Nat) := by
  unfold ce cdN
  have h0 := Nat.div_add_mod x y
  have h1 := Nat.mod_lt x hy
  rcases Nat.eq_zero_or_pos (x % y) with h | h
  · have e1 : (x + (y - 1)) / y = x / y := by
      refine (Nat.div_eq_iff hy).2 ⟨?_, ?_⟩ <;> rw [Nat.mul_comm] <;> omega
    have e2 : -(x : Int) / (y : Int) = -((x / y : Nat) : Int) := by
      have : (x : Int) = ((x / y : Nat) : Int) * (y : Int) := by
        rw [← Int.natCast_mul, Nat.mul_comm]
        congr 1
        omega
      rw [this, ← Int.neg_mul, Int.mul_ediv_cancel _ (by omega)]
    rw [e1, e2]
    omega
  · have e1 : (x + (y - 1)) / y = x / y + 1 := by
      refine (Nat.div_eq_iff hy).2 ⟨?_, ?_⟩
      · rw [Nat.add_mul, Nat.mul_comm]; omega
      · rw [Nat.add_mul, Nat.mul_comm]; omega
    have e2 : -(x : Int) / (y : Int) = -((x / y : Nat) : Int) - 1 := by
      refine ((Int.ediv_emod_unique (r := (y : Int) - ((x % y : Nat) : Int)) (by omega)).2 ⟨?_, by omega, by omega⟩).1
      have : ((y * (x / y) : Nat) : Int) = (y : Int) * ((x / y : Nat) : Int) := Int.natCast_mul _ _
      rw [Int.mul_sub, Int.mul_neg, ← this]
      omega
    rw [e1, e2]
    omega
theorem aZ_nat (t k : Nat) : aZ t k = (aN t k : Nat) := by
  induction k with
  | zero => rfl
  | succ k ih => unfold aZ aN; rw [ih]; simp
theorem bZ_nat (u k : Nat) : bZ u k = (bN u k : Nat) := by
  induction k with
  | zero => rfl
  | succ k ih =>
    unfold bZ bN
    rw [ih, ← Int.natCast_mul]
    exact ce_nat _ 1073741824 (by decide)
theorem tZ_nat (x : Nat) : tZ x = (tN x : Nat) := by unfold tZ tN; simp
theorem uZ_nat (x : Nat) : uZ x = (uN x : Nat) := by
  unfold uZ uN
  have := ce_nat (x * 6746518853) 65536 (by decide)
  rw [← this]
  simp
theorem encl_nat {l h : Int} {l1 l2 h1 h2 : Nat} (el : l = (l1 : Int) - l2) (eh : h = (h1 : Int) - h2) (hle : h2 ≤ h1) :
    enclZ l h = ⟨((l1 - l2) / 16384 : Nat), (min 65536 (cdN (h1 - h2) 16384) : Nat)⟩ := by
  have e1 : h = ((h1 - h2 : Nat) : Int) := by omega
  have e2 := ce_nat (h1 - h2) 16384 (by decide)
  have e3 : ((16384 : Nat) : Int) = 16384 := rfl
  rw [e3] at e2
  unfold enclZ
  rw [e1, e2]
  congr 1
  · omega
  · omega
def sineFits (t u : Nat) : Prop := aN t 2 / 6 + aN t 6 / 5040 ≤ u + cdN (bN u 4) 120 + cdN (bN u 8) 362880
def cosFits (t : Nat) : Prop := aN t 1 / 2 + aN t 5 / 720 ≤ 1073741824
theorem sine_nat (x : Nat) (h : sineFits (tN x) (uN x)) : sineZ x = ⟨(sinLo (tN x) (uN x) : Nat), (sinHi (tN x) (uN x) : Nat)⟩ := by
  unfold sineFits at h
  unfold sineZ sinLo sinHi
  rw [tZ_nat, uZ_nat]
  simp only [aZ_nat, bZ_nat]
  generalize tN x = t at *
  generalize uN x = u at *
  have c1 := ce_nat (bN u 2) 6 (by decide)
  have c2 := ce_nat (bN u 6) 5040 (by decide)
  have c3 := ce_nat (bN u 4) 120 (by decide)
  have c4 := ce_nat (bN u 8) 362880 (by decide)
  refine encl_nat ?_ ?_ h
  · have e1 : ((6 : Nat) : Int) = 6 := rfl
    have e2 : ((5040 : Nat) : Int) = 5040 := rfl
    rw [e1] at c1
    rw [e2] at c2
    rw [c1, c2]
    omega
  · have e1 : ((120 : Nat) : Int) = 120 := rfl
    have e2 : ((362880 : Nat) : Int) = 362880 := rfl
    rw [e1] at c3
    rw [e2] at c4
    rw [c3, c4]
    omega
theorem cos_nat (x : Nat) (h : cosFits (tN x)) : cosineZ x = ⟨(cosLo (tN x) (uN x) : Nat), (cosHi (tN x) (uN x) : Nat)⟩ := by
  unfold cosFits at h
  unfold cosineZ cosLo cosHi
  rw [tZ_nat, uZ_nat]
  simp only [aZ_nat, bZ_nat]
  generalize tN x = t at *
  generalize uN x = u at *
  have c1 := ce_nat (bN u 1) 2 (by decide)
  have c2 := ce_nat (bN u 5) 720 (by decide)
  have c3 := ce_nat (bN u 9) 3628800 (by decide)
  have c4 := ce_nat (bN u 3) 24 (by decide)
  have c5 := ce_nat (bN u 7) 40320 (by decide)
  refine encl_nat ?_ ?_ (by omega)
  · have e1 : ((2 : Nat) : Int) = 2 := rfl
    have e2 : ((720 : Nat) : Int) = 720 := rfl
    have e3 : ((3628800 : Nat) : Int) = 3628800 := rfl
    rw [e1] at c1
    rw [e2] at c2
    rw [e3] at c3
    rw [c1, c2, c3]
    omega
  · have e1 : ((24 : Nat) : Int) = 24 := rfl
    have e2 : ((40320 : Nat) : Int) = 40320 := rfl
    rw [e1] at c4
    rw [e2] at c5
    rw [c4, c5]
    omega
/-! The powers of an angle up to an eighth of a turn are small. -/
theorem tN_le {x : Nat} (h : x ≤ 8192) : tN x ≤ 843314857 := by unfold tN; omega
theorem aN_le {t : Nat} (h : t ≤ 843314857) : ∀ k, aN t k ≤ t
  | 0 => Nat.le_refl _
  | k + 1 => by
    have ih := aN_le h k
    unfold aN
    refine Nat.div_le_of_le_mul ?_
    rw [Nat.mul_comm (1073741824)]
    have h1 : aN t k * t ≤ t * t := Nat.mul_le_mul_right _ ih
    have h2 : t * t ≤ t * 1073741824 := Nat.mul_le_mul_left _ (by omega)
    omega
theorem tN_uN (x : Nat) : tN x ≤ uN x := by unfold tN uN cdN; omega
theorem sine_fits {x : Nat} (h : x ≤ 8192) : sineFits (tN x) (uN x) := by
  unfold sineFits
  have h1 := aN_le (tN_le h) 2
  have h2 := aN_le (tN_le h) 6
  have h3 := tN_uN x
  omega
theorem cos_fits {x : Nat} (h : x ≤ 8192) : cosFits (tN x) := by
  unfold cosFits
  have h0 := tN_le h
  have h1 := aN_le h0 1
  have h2 := aN_le h0 5
  omega
theorem q_nat {r : Nat} (h : r ≤ 16384) : qZ r = ⟨(sLo r : Nat), (sHi r : Nat)⟩ := by
  unfold qZ sLo sHi
  by_cases h0 : r ≤ 8192
  · rw [if_pos (by omega), if_pos h0, if_pos h0, sine_nat r (sine_fits h0)]
  · rw [if_neg (by omega), if_neg h0, if_neg h0]
    have e : (16384 - (r : Int)) = ((16384 - r : Nat) : Int) := by omega
    rw [e, cos_nat (16384 - r) (cos_fits (by omega))]
end Go.Proofs.Ytdplgiccpjlelaa
