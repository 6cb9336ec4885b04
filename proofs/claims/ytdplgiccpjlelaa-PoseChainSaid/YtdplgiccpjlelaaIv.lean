/- Proved: plain arithmetic of intervals: which are valid, and the ends that each operation gives. Conditions: as each theorem states. Nothing of the program is used. -/
import Derived.Test.YtdplgiccpjlelaaNum
namespace Go.Proofs.Ytdplgiccpjlelaa
open Go.RowKit

structure Iv where
  lo : Int
  hi : Int

theorem Iv.eta (a : Iv) : (⟨a.lo, a.hi⟩ : Iv) = a := rfl
theorem Iv.ext' {a b : Iv} (h1 : a.lo = b.lo) (h2 : a.hi = b.hi) : a = b := by cases a; cases b; simp_all

/-- The ends are in order and from -2^31 to 2^31. -/
def Valid (a : Iv) : Prop := -2147483648 ≤ a.lo ∧ a.lo ≤ a.hi ∧ a.hi ≤ 2147483648
instance (a : Iv) : Decidable (Valid a) := by unfold Valid; infer_instance
def validB (a : Iv) : Bool := decide (Valid a)
theorem validB_true {a : Iv} (h : Valid a) : validB a = true := decide_eq_true h
theorem validB_false {a : Iv} (h : ¬Valid a) : validB a = false := decide_eq_false h
theorem valid_of {a : Iv} (h : validB a = true) : Valid a := of_decide_eq_true h

def zeroI : Iv := ⟨0, 0⟩
def limI (x y : Int) : Iv := ⟨clampI x, clampI y⟩
def ofI (x : Int) : Iv := limI x x
def when2 (a b r : Iv) : Iv := if Valid a ∧ Valid b then r else zeroI
def when1 (a r : Iv) : Iv := if Valid a then r else zeroI
def addI (a b : Iv) : Iv := when2 a b (limI (a.lo + b.lo) (a.hi + b.hi))
def subI (a b : Iv) : Iv := when2 a b (limI (a.lo - b.hi) (a.hi - b.lo))
def negI (a : Iv) : Iv := when1 a ⟨-a.hi, -a.lo⟩
/-- The interval from x / 2^16 to y / 2^16, rounded outward and limited. -/
def resI (x y : Int) : Iv := limI (x / 65536) (-(-y / 65536))
def min4 (x y z t : Int) : Int := min x (min y (min z t))
def max4 (x y z t : Int) : Int := max x (max y (max z t))
def mulI (a b : Iv) : Iv := when2 a b (resI (min4 (a.lo * b.lo) (a.lo * b.hi) (a.hi * b.lo) (a.hi * b.hi)) (max4 (a.lo * b.lo) (a.lo * b.hi) (a.hi * b.lo) (a.hi * b.hi)))
def sqrI (a : Iv) : Iv := when1 a (resI (if a.lo ≤ 0 ∧ 0 ≤ a.hi then 0 else min (a.lo * a.lo) (a.hi * a.hi)) (max (a.lo * a.lo) (a.hi * a.hi)))
def sqtI (a : Iv) : Iv := when1 a ⟨sqD a.lo, sqU a.hi⟩
def sclI (a : Iv) (k : Int) : Iv := when1 a (limI (min (a.lo * clampI k) (a.hi * clampI k)) (max (a.lo * clampI k) (a.hi * clampI k)))
def hulI (a b : Iv) : Iv := when2 a b ⟨min a.lo b.lo, max a.hi b.hi⟩
def meets (a b : Iv) : Prop := (Valid a ∧ Valid b) ∧ max a.lo b.lo ≤ min a.hi b.hi
instance (a b : Iv) : Decidable (meets a b) := by unfold meets; infer_instance
def meetB (a b : Iv) : Bool := decide (meets a b)
def metI (a b : Iv) : Iv := if meets a b then ⟨max a.lo b.lo, min a.hi b.hi⟩ else zeroI
def Has (a : Iv) (x : Int) : Prop := Valid a ∧ a.lo ≤ x ∧ x ≤ a.hi
instance (a : Iv) (x : Int) : Decidable (Has a x) := by unfold Has; infer_instance
def hasB (a : Iv) (x : Int) : Bool := decide (Has a x)
def Within (a b : Iv) : Prop := (Valid a ∧ Valid b) ∧ b.lo ≤ a.lo ∧ a.hi ≤ b.hi
instance (a b : Iv) : Decidable (Within a b) := by unfold Within; infer_instance
def withinB (a b : Iv) : Bool := decide (Within a b)
def midI (a : Iv) : Int := if Valid a then (a.lo + a.hi) / 2 else 0
def widI (a : Iv) : Int := if Valid a then a.hi - a.lo else 0

theorem when2_yes {a b r : Iv} (h1 : Valid a) (h2 : Valid b) : when2 a b r = r := if_pos ⟨h1, h2⟩
theorem when2_no {a b r : Iv} (h : ¬(Valid a ∧ Valid b)) : when2 a b r = zeroI := if_neg h
theorem when1_yes {a r : Iv} (h1 : Valid a) : when1 a r = r := if_pos h1
theorem when1_no {a r : Iv} (h : ¬Valid a) : when1 a r = zeroI := if_neg h
theorem valid_lim {x y : Int} (h : x ≤ y) : Valid (limI x y) := ⟨clamp_lo x, clamp_mono h, clamp_hi y⟩
theorem valid_zero : Valid zeroI := by decide
end Go.Proofs.Ytdplgiccpjlelaa
