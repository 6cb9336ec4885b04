/- Proved: plain arithmetic of fixed-point numbers: bounds, monotony and rounding of the numbers that the contracts name. Conditions: as each theorem states. Nothing of the program is used. -/
import Derived.WalkKit
namespace Go.Proofs.Ytdplgiccpjlelaa
open Go.RowKit

/-- The number from -2^31 to 2^31 that is nearest to a. -/
def clampI (a : Int) : Int := if a < -2147483648 then -2147483648 else if 2147483648 < a then 2147483648 else a

theorem clamp_lo (a : Int) : -2147483648 ≤ clampI a := by unfold clampI; repeat (first | omega | split)
theorem clamp_hi (a : Int) : clampI a ≤ 2147483648 := by unfold clampI; repeat (first | omega | split)
theorem clamp_id {a : Int} (h1 : -2147483648 ≤ a) (h2 : a ≤ 2147483648) : clampI a = a := by unfold clampI; rw [if_neg (by omega), if_neg (by omega)]
theorem clamp_mono {a b : Int} (h : a ≤ b) : clampI a ≤ clampI b := by unfold clampI; repeat (first | omega | split)
theorem clamp_neg (a : Int) : clampI (-a) = -clampI a := by unfold clampI; repeat (first | omega | split)
theorem clamp_zero {a : Int} : clampI a = 0 ↔ a = 0 := by unfold clampI; repeat (first | omega | split)
theorem clamp_nonneg {a : Int} (h : 0 ≤ a) : 0 ≤ clampI a := by unfold clampI; repeat (first | omega | split)
theorem clamp_pos {a : Int} (h : 0 < a) : 0 < clampI a := by unfold clampI; repeat (first | omega | split)
theorem clamp_negs {a : Int} (h : a < 0) : clampI a < 0 := by unfold clampI; repeat (first | omega | split)

/-- The product of two numbers from -2^31 to 2^31. -/
theorem prod_hi {x y : Int} (hx1 : -2147483648 ≤ x) (hx2 : x ≤ 2147483648) (hy1 : -2147483648 ≤ y) (hy2 : y ≤ 2147483648) : x * y ≤ 4611686018427387904 := by
  have a := Int.mul_nonneg (show 0 ≤ 2147483648 - x by omega) (show 0 ≤ 2147483648 + y by omega)
  have b := Int.mul_nonneg (show 0 ≤ 2147483648 + x by omega) (show 0 ≤ 2147483648 - y by omega)
  rw [Int.sub_mul, Int.mul_add, Int.mul_add] at a
  rw [Int.add_mul, Int.mul_sub, Int.mul_sub] at b
  omega
theorem prod_lo {x y : Int} (hx1 : -2147483648 ≤ x) (hx2 : x ≤ 2147483648) (hy1 : -2147483648 ≤ y) (hy2 : y ≤ 2147483648) : -4611686018427387904 ≤ x * y := by
  have h := prod_hi (x := -x) (y := y) (by omega) (by omega) hy1 hy2
  rw [Int.neg_mul] at h
  omega

/-- The product of the clamped numbers, in units of 1/2^32. -/
def pr (a b : Int) : Int := clampI a * clampI b
theorem pr_lo (a b : Int) : -4611686018427387904 ≤ pr a b := prod_lo (clamp_lo a) (clamp_hi a) (clamp_lo b) (clamp_hi b)
theorem pr_hi (a b : Int) : pr a b ≤ 4611686018427387904 := prod_hi (clamp_lo a) (clamp_hi a) (clamp_lo b) (clamp_hi b)
theorem pr_neg (a b : Int) : pr (-a) b = -pr a b := by unfold pr; rw [clamp_neg, Int.neg_mul]
theorem pr_comm (a b : Int) : pr a b = pr b a := Int.mul_comm _ _
theorem pr_mono {a c b : Int} (h : a ≤ c) (hb : 0 ≤ b) : pr a b ≤ pr c b := Int.mul_le_mul_of_nonneg_right (clamp_mono h) (clamp_nonneg hb)

/-- The product rounded down, and rounded up. -/
def mulD (a b : Int) : Int := pr a b / 65536
def mulU (a b : Int) : Int := -(-pr a b / 65536)


theorem mulD_lo (a b : Int) : -70368744177664 ≤ mulD a b := by unfold mulD; have := pr_lo a b; omega
theorem mulD_hi (a b : Int) : mulD a b ≤ 70368744177664 := by unfold mulD; have := pr_hi a b; omega
theorem mulU_lo (a b : Int) : -70368744177664 ≤ mulU a b := by unfold mulU; have := pr_lo a b; omega
theorem mulU_hi (a b : Int) : mulU a b ≤ 70368744177664 := by unfold mulU; have := pr_hi a b; omega

/-- floor(x / y) for a y other than 0. -/
def fl (x y : Int) : Int := if 0 < y then x / y else (-x) / (-y)

theorem tdiv_floor {a b : Int} (hb : 0 < b) (h : a.tmod b < 0) : a.tdiv b - 1 = a / b := by
  rw [Int.tmod_eq_emod] at h
  rw [Int.tdiv_eq_ediv]
  have h2 := Int.emod_nonneg a (show b ≠ 0 by omega)
  split at h
  · omega
  · rename_i hc
    rw [if_neg hc, Int.sign_eq_one_of_pos hb]
    omega
theorem tdiv_exact {a b : Int} (hb : 0 < b) (h : ¬a.tmod b < 0) : a.tdiv b = a / b := by
  rw [Int.tmod_eq_emod] at h
  rw [Int.tdiv_eq_ediv]
  have h2 := Int.emod_lt_of_pos a hb
  split at h
  · rename_i hc
    rw [if_pos hc]
    omega
  · omega
/-- ceil(a / b) for a positive b. -/
def ce (a b : Int) : Int := -(-a / b)
theorem tdiv_ceil {a b : Int} (hb : 0 < b) (h : 0 < a.tmod b) : a.tdiv b + 1 = ce a b := by
  have := tdiv_floor (a := -a) hb (by rw [Int.neg_tmod]; omega)
  rw [Int.neg_tdiv] at this
  unfold ce
  omega
theorem tdiv_ceil_exact {a b : Int} (hb : 0 < b) (h : ¬0 < a.tmod b) : a.tdiv b = ce a b := by
  have := tdiv_exact (a := -a) hb (by rw [Int.neg_tmod]; omega)
  rw [Int.neg_tdiv] at this
  unfold ce
  omega

theorem fl_pos {x y : Int} (h : 0 < y) : fl x y = x / y := by unfold fl; rw [if_pos h]
theorem fl_neg {x y : Int} (h : y < 0) : fl x y = (-x) / (-y) := by unfold fl; rw [if_neg (by omega)]
/-- The signs of p and q differ, and the division leaves something. -/
theorem fl_dec {p q : Int} (hq : q ≠ 0) (h : p.tmod q ≠ 0) (hs : ¬(p < 0 ↔ q < 0)) : p.tdiv q - 1 = fl p q := by
  by_cases h0 : 0 < q
  · rw [fl_pos h0]
    have h1 : p < 0 := by omega
    have h2 : 0 ≤ (-p).tmod q := Int.tmod_nonneg q (by omega)
    rw [Int.neg_tmod] at h2
    exact tdiv_floor h0 (by omega)
  · rw [fl_neg (by omega)]
    have h1 : 0 ≤ p := by omega
    have h2 : 0 ≤ p.tmod q := Int.tmod_nonneg q h1
    rw [← tdiv_floor (by omega) (by rw [Int.neg_tmod, Int.tmod_neg]; omega), Int.neg_tdiv, Int.tdiv_neg, Int.neg_neg]
theorem fl_same {p q : Int} (hq : q ≠ 0) (h : p.tmod q = 0 ∨ (p < 0 ↔ q < 0)) : p.tdiv q = fl p q := by
  by_cases h0 : 0 < q
  · rw [fl_pos h0]
    refine tdiv_exact h0 ?_
    rcases h with h | h
    · omega
    · have h2 : 0 ≤ p.tmod q := Int.tmod_nonneg q (by omega)
      omega
  · rw [fl_neg (by omega), ← tdiv_exact (by omega) ?_, Int.neg_tdiv, Int.tdiv_neg, Int.neg_neg]
    rw [Int.neg_tmod, Int.tmod_neg]
    rcases h with h | h
    · omega
    · have h2 : 0 ≤ (-p).tmod q := Int.tmod_nonneg q (by omega)
      rw [Int.neg_tmod] at h2
      omega
theorem fl_bd {p q B : Int} (hq : q ≠ 0) (h1 : -B ≤ p) (h2 : p ≤ B) : -B ≤ fl p q ∧ fl p q ≤ B := by
  have key : ∀ x y : Int, 0 < y → -B ≤ x → x ≤ B → -B ≤ x / y ∧ x / y ≤ B := by
    intro x y hy a b
    constructor
    · rw [Int.le_ediv_iff_mul_le hy]
      have : -B * y ≤ -B * 1 := Int.mul_le_mul_of_nonpos_left (by omega) (by omega)
      omega
    · by_cases hx : 0 ≤ x
      · exact Int.le_trans (Int.ediv_le_self y hx) b
      · have : x / y < 0 := by rw [Int.ediv_lt_iff_lt_mul hy]; omega
        omega
  by_cases h0 : 0 < q
  · rw [fl_pos h0]; exact key p q h0 h1 h2
  · rw [fl_neg (by omega)]; exact key (-p) (-q) (by omega) (by omega) (by omega)

/-- The quotients, rounded down and up, for a divisor other than 0. -/
def quoD (a b : Int) : Int := fl (clampI a * 65536) (clampI b)
def quoU (a b : Int) : Int := -fl (-clampI a * 65536) (clampI b)

/-- The root of a number, rounded down; 0 for a negative number. -/
def rootI (n : Int) : Int := (Nat.sqrt n.toNat : Nat)
theorem root_neg {n : Int} (h : n ≤ 0) : rootI n = 0 := by
  unfold rootI
  have e : n.toNat = 0 := by omega
  rw [e]; decide
theorem root_sq {n : Int} (h : 0 ≤ n) : rootI n * rootI n ≤ n := by
  unfold rootI
  have := Nat.sqrt_le n.toNat
  have e : ((n.toNat.sqrt * n.toNat.sqrt : Nat) : Int) ≤ (n.toNat : Nat) := by omega
  rw [Int.natCast_mul] at e
  omega
theorem root_lt {n : Int} (h : 0 ≤ n) : n < (rootI n + 1) * (rootI n + 1) := by
  unfold rootI
  have := Nat.lt_succ_sqrt n.toNat
  have e : (n.toNat : Int) < ((n.toNat.sqrt.succ * n.toNat.sqrt.succ : Nat) : Int) := by omega
  rw [Int.natCast_mul] at e
  have e2 : ((n.toNat.sqrt.succ : Nat) : Int) = (n.toNat.sqrt : Nat) + 1 := rfl
  rw [e2] at e
  omega
theorem root_nonneg (n : Int) : 0 ≤ rootI n := by unfold rootI; omega
theorem sq_lt {a b : Int} (ha : 0 ≤ a) (h : a < b) : a * a < b * b := by
  have h1 : a * a ≤ a * b := Int.mul_le_mul_of_nonneg_left (by omega) ha
  have h2 : a * b < b * b := Int.mul_lt_mul_of_pos_right h (by omega)
  omega
theorem sq_le {a b : Int} (ha : 0 ≤ a) (h : a ≤ b) : a * a ≤ b * b := by
  have h1 : a * a ≤ a * b := Int.mul_le_mul_of_nonneg_left (by omega) ha
  have h2 : a * b ≤ b * b := Int.mul_le_mul_of_nonneg_right h (by omega)
  omega
theorem root_eq {n r : Int} (hr : 0 ≤ r) (h1 : r * r ≤ n) (h2 : n < (r + 1) * (r + 1)) : rootI n = r := by
  have hn : 0 ≤ n := Int.le_trans (Int.mul_nonneg hr hr) h1
  have a := root_sq hn
  have b := root_lt hn
  have c := root_nonneg n
  rcases Int.lt_trichotomy (rootI n) r with h | h | h
  · have := sq_le (a := rootI n + 1) (b := r) (by omega) (by omega); omega
  · exact h
  · have := sq_le (a := r + 1) (b := rootI n) (by omega) (by omega); omega
theorem root_le {n B : Int} (hB : 0 ≤ B) (h : n < (B + 1) * (B + 1)) : rootI n ≤ B := by
  by_cases hn : 0 ≤ n
  · refine Int.not_lt.1 fun hc => ?_
    have := sq_le (a := B + 1) (b := rootI n) (by omega) (by omega)
    have := root_sq hn
    omega
  · rw [root_neg (by omega)]; exact hB
/-- The root, rounded up. -/
def rootU (n : Int) : Int := if rootI n * rootI n < n then rootI n + 1 else rootI n
/-- The roots of clamped numbers. -/
def sqD (a : Int) : Int := rootI (max (clampI a) 0 * 65536)
def sqU (a : Int) : Int := rootU (max (clampI a) 0 * 65536)
/-- Shifts down and up, for a k from 0 on (a shift by 64 places leaves no digit of an int64). -/
def shD (a : Int) (k : Nat) : Int := a / 2 ^ min k 64
def shU (a : Int) (k : Nat) : Int := -(-a / 2 ^ min k 64)

theorem two_pow_pos (m : Nat) : (0 : Int) < 2 ^ m := by
  have : (0 : Int) < ((2 ^ m : Nat) : Int) := by exact_mod_cast Nat.two_pow_pos m
  simpa using this
theorem ce_exact {a P D : Int} (hP : 0 < P) (h : D * P = a) : -(-a / P) = D := by
  have : -a = -D * P := by rw [Int.neg_mul]; omega
  rw [this, Int.mul_ediv_cancel _ (by omega)]; omega
theorem ce_more {a P : Int} (hP : 0 < P) (h : a / P * P ≠ a) : -(-a / P) = a / P + 1 := by
  have e := Int.mul_ediv_add_emod a P
  have h1 := Int.emod_nonneg a (show P ≠ 0 by omega)
  have h2 := Int.emod_lt_of_pos a hP
  rw [Int.mul_comm] at e
  have h3 : -a / P = -(a / P) - 1 := by
    rw [show -(a / P) - 1 = -(a / P + 1) by omega]
    refine ((Int.ediv_emod_unique (r := P - a % P) hP).2 ⟨?_, by omega, by omega⟩).1
    rw [Int.mul_neg, Int.mul_add, Int.mul_comm P (a / P)]
    omega
  omega
/-- The digits that a shift down drops are lost: shifting back gives the number itself, or the ceiling is one more. -/
theorem sh_small (a : Int) (m : Nat) (hm : m ≤ 63) (h2 : -9223372036854775808 ≤ a) (h3 : a ≤ 9223372036854775807) : wrap64 (a / 2 ^ m * 2 ^ m) = a / 2 ^ m * 2 ^ m := by
  have hP := two_pow_pos m
  have e : (2 : Int) ^ (63 - m) * 2 ^ m = 9223372036854775808 := by rw [← Int.pow_add, Nat.sub_add_cancel hm]; decide
  have h1 : -(2 : Int) ^ (63 - m) ≤ a / 2 ^ m := by rw [Int.le_ediv_iff_mul_le hP, Int.neg_mul, e]; exact h2
  have h4 : -(2 : Int) ^ (63 - m) * 2 ^ m ≤ a / 2 ^ m * 2 ^ m := Int.mul_le_mul_of_nonneg_right h1 (by omega)
  rw [Int.neg_mul, e] at h4
  have h5 := Int.mul_ediv_add_emod a (2 ^ m)
  have h6 := Int.emod_nonneg a (show (2 : Int) ^ m ≠ 0 by omega)
  rw [Int.mul_comm] at h5
  generalize a / 2 ^ m * 2 ^ m = x at *
  unfold wrap64
  omega
theorem shU_eq {a : Int} {k : Nat} (h2 : -9223372036854775808 ≤ a) (h3 : a ≤ 9223372036854775807) (h : wrap64 (shD a k * 2 ^ min k 64) = a) : shD a k = shU a k := by
  unfold shD shU at *
  rcases Nat.lt_or_ge k 64 with hk | hk
  · rw [Nat.min_eq_left (by omega)] at *
    rw [sh_small a k (by omega) h2 h3] at h
    rw [ce_exact (two_pow_pos k) h]
  · rw [Nat.min_eq_right hk] at *
    simp only [show (2 : Int) ^ 64 = 18446744073709551616 from by decide] at *
    unfold wrap64 at h
    omega
theorem shU_ne {a : Int} {k : Nat} (h2 : -9223372036854775808 ≤ a) (h3 : a ≤ 9223372036854775807) (h : ¬wrap64 (shD a k * 2 ^ min k 64) = a) : shD a k + 1 = shU a k := by
  unfold shD shU at *
  rcases Nat.lt_or_ge k 64 with hk | hk
  · rw [Nat.min_eq_left (by omega)] at *
    rw [sh_small a k (by omega) h2 h3] at h
    rw [ce_more (two_pow_pos k) h]
  · rw [Nat.min_eq_right hk] at *
    simp only [show (2 : Int) ^ 64 = 18446744073709551616 from by decide] at *
    unfold wrap64 at h
    omega
theorem shD_bd {a B : Int} {k : Nat} (h2 : -B ≤ a) (h3 : a ≤ B) : -B ≤ shD a k ∧ shD a k ≤ B := by
  have hP := two_pow_pos (min k 64)
  have := fl_bd (p := a) (q := 2 ^ min k 64) (B := B) (by omega) h2 h3
  rwa [fl_pos hP] at this
theorem shU_bd {a B : Int} {k : Nat} (h2 : -B ≤ a) (h3 : a ≤ B) : -B ≤ shU a k ∧ shU a k ≤ B := by
  have := shD_bd (a := -a) (B := B) (k := k) (by omega) (by omega)
  unfold shD at this
  unfold shU
  omega
theorem shD_top {a : Int} {k : Nat} (hk : 0 < k) (h3 : a ≤ 9223372036854775807) : shD a k ≤ 4611686018427387904 := by
  unfold shD
  have hP := two_pow_pos (min k 64)
  obtain ⟨m, hm⟩ : ∃ m, min k 64 = m + 1 := ⟨min k 64 - 1, by omega⟩
  rw [hm] at hP ⊢
  have h2 : (2 : Int) ≤ 2 ^ (m + 1) := by rw [Int.pow_succ]; have := two_pow_pos m; omega
  refine Int.le_of_lt_add_one ?_
  rw [Int.ediv_lt_iff_lt_mul hP]
  omega
theorem sh_step (a : Int) {j : Nat} (h : j < 64) : shD a j / 2 = shD a (j + 1) := by
  unfold shD
  rw [show min j 64 = j by omega, show min (j + 1) 64 = j + 1 by omega, Int.pow_succ, Int.ediv_ediv_of_nonneg (Int.le_of_lt (two_pow_pos j))]
theorem shU_step (a : Int) {j : Nat} (h : j < 64) : ce (shU a j) 2 = shU a (j + 1) := by
  have := sh_step (-a) h
  unfold shD at this
  unfold ce shU
  rw [Int.neg_neg, this]
theorem shD_in {a : Int} {k : Nat} (h1 : -9223372036854775808 ≤ a) (h2 : a ≤ 9223372036854775807) : -9223372036854775808 ≤ shD a k ∧ shD a k ≤ 9223372036854775807 := by
  have hP := two_pow_pos (min k 64)
  refine ⟨(shD_bd (B := 9223372036854775808) h1 (by omega)).1, ?_⟩
  unfold shD
  by_cases h0 : 0 ≤ a
  · exact Int.le_trans (Int.ediv_le_self _ h0) h2
  · have : a / 2 ^ min k 64 < 0 := by rw [Int.ediv_lt_iff_lt_mul hP]; omega
    omega
theorem shU_in {a : Int} {k : Nat} (h1 : -9223372036854775808 ≤ a) (h2 : a ≤ 9223372036854775807) : -9223372036854775808 ≤ shU a k ∧ shU a k ≤ 9223372036854775807 := by
  have hP := two_pow_pos (min k 64)
  refine ⟨(shU_bd (B := 9223372036854775808) h1 (by omega)).1, ?_⟩
  unfold shU
  by_cases h0 : 0 ≤ a
  · have := (shD_bd (a := -a) (B := 9223372036854775807) (k := k) (by omega) (by omega)).1
    unfold shD at this
    omega
  · have : 0 ≤ -a / 2 ^ min k 64 := Int.ediv_nonneg (by omega) (by omega)
    omega
theorem dv_in {a : Int} (k : Nat) (h1 : -9223372036854775808 ≤ a) (h2 : a ≤ 9223372036854775807) : -9223372036854775808 ≤ a / 2 ^ k ∧ a / 2 ^ k ≤ 9223372036854775807 := by
  have hP := two_pow_pos k
  obtain ⟨h3, h4⟩ := fl_bd (p := a) (q := 2 ^ k) (B := 9223372036854775808) (by omega) h1 (by omega)
  rw [fl_pos hP] at h3 h4
  refine ⟨h3, ?_⟩
  by_cases h0 : 0 ≤ a
  · exact Int.le_trans (Int.ediv_le_self _ h0) h2
  · have : a / 2 ^ k < 0 := by rw [Int.ediv_lt_iff_lt_mul hP]; omega
    omega
/-- From 64 places on only the sign is left. -/
theorem dv_far {a : Int} {m : Nat} (hm : 64 ≤ m) (h1 : -9223372036854775808 ≤ a) (h2 : a ≤ 9223372036854775808) : a / 2 ^ m = a / 2 ^ 64 := by
  have e : (2 : Int) ^ m = 2 ^ 64 * 2 ^ (m - 64) := by rw [← Int.pow_add]; congr 1; omega
  rw [e, ← Int.ediv_ediv_of_nonneg (Int.le_of_lt (two_pow_pos 64))]
  have h3 : a / 2 ^ 64 = 0 ∨ a / 2 ^ 64 = -1 := by
    simp only [show (2 : Int) ^ 64 = 18446744073709551616 from by decide]
    omega
  rcases h3 with h | h
  · rw [h]; exact Int.zero_ediv _
  · rw [h]
    have hP := two_pow_pos (m - 64)
    exact ((Int.ediv_emod_unique (r := 2 ^ (m - 64) - 1) hP).2 ⟨by rw [Int.mul_neg]; omega, by omega, by omega⟩).1
theorem shD_add {a : Int} {x y : Nat} (hx : x ≤ 63) (hy : y ≤ 63) (h1 : -9223372036854775808 ≤ a) (h2 : a ≤ 9223372036854775808) : shD (shD a x) y = shD a (x + y) := by
  unfold shD
  rw [show min x 64 = x by omega, show min y 64 = y by omega, Int.ediv_ediv_of_nonneg (Int.le_of_lt (two_pow_pos x)), ← Int.pow_add]
  rcases Nat.lt_or_ge (x + y) 64 with h | h
  · rw [show min (x + y) 64 = x + y by omega]
  · rw [show min (x + y) 64 = 64 by omega, dv_far h h1 h2]
theorem shU_add {a : Int} {x y : Nat} (hx : x ≤ 63) (hy : y ≤ 63) (h1 : -9223372036854775808 ≤ a) (h2 : a ≤ 9223372036854775807) : shU (shU a x) y = shU a (x + y) := by
  have h := shD_add (a := -a) hx hy (by omega) (by omega)
  have e : ∀ (b : Int) (k : Nat), shU b k = -shD (-b) k := fun _ _ => rfl
  rw [e, e, e, Int.neg_neg, h]
/-- Shifts by whatever number of places: none if it is negative. -/
def shDI (a k : Int) : Int := if k < 0 then a else shD a k.toNat
def shUI (a k : Int) : Int := if k < 0 then a else shU a k.toNat
theorem shDI_nat (a : Int) (k : Nat) : shDI a k = shD a k := by unfold shDI; rw [if_neg (by omega), Int.toNat_natCast]
theorem shUI_nat (a : Int) (k : Nat) : shUI a k = shU a k := by unfold shUI; rw [if_neg (by omega), Int.toNat_natCast]
end Go.Proofs.Ytdplgiccpjlelaa
