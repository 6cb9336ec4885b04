/- Proved: plain arithmetic: the sine and the cosine of a sum of two angles meet the values of the addition theorems. Conditions: none. Nothing of the program is used. -/
import Derived.Test.YtdplgiccpjlelaaAng5
import Derived.Test.YtdplgiccpjlelaaAng4
namespace Go.Proofs.Ytdplgiccpjlelaa
open Go.RowKit

/-- The rotation by n units, at the scale 2^60: a quarter turn exchanges both numbers. -/
def rotC : Nat → Nat → Int × Int
  | 0, r => ((cT r : Nat), (sT r : Nat))
  | q + 1, r => (-(rotC q r).2, (rotC q r).1)
def Wc (n : Nat) : Int := (rotC (n / 16384) (n % 16384)).1
def Ws (n : Nat) : Int := (rotC (n / 16384) (n % 16384)).2
theorem W_small {n : Nat} (h : n < 16384) : Wc n = (cT n : Nat) ∧ Ws n = (sT n : Nat) := by
  unfold Wc Ws
  rw [Nat.div_eq_of_lt h, Nat.mod_eq_of_lt h]
  exact ⟨rfl, rfl⟩
theorem rotC_succ (q r : Nat) : rotC (q + 1) r = (-(rotC q r).2, (rotC q r).1) := by rw [rotC]
theorem W_quarter {m n : Nat} (h : m = n + 16384) : Wc m = -Ws n ∧ Ws m = Wc n := by
  have e1 : m / 16384 = n / 16384 + 1 := by omega
  have e2 : m % 16384 = n % 16384 := by omega
  unfold Wc Ws
  rw [e1, e2]
  generalize n / 16384 = q
  generalize n % 16384 = r
  rw [rotC_succ]
  exact ⟨rfl, rfl⟩
/-- What holds below a quarter turn and is carried on by a quarter turn holds everywhere. -/
theorem by_quarters {p : Nat → Prop} (h0 : ∀ n, n < 16384 → p n) (h1 : ∀ n m, m = n + 16384 → p n → p m) (n : Nat) : p n := by
  induction n using Nat.strongRecOn with
  | ind n ih =>
    by_cases h : n < 16384
    · exact h0 n h
    · exact h1 (n - 16384) n (by omega) (ih (n - 16384) (by omega))
/-- v lies within the ends of a, at the scale of a's unit. -/
def Near (a : Iv) (v : Int) : Prop := a.lo * 17592186044416 ≤ v ∧ v ≤ a.hi * 17592186044416
theorem near_all (n : Nat) : Near (sinA n) (Ws n) ∧ Near (cosA n) (Wc n) := by
  refine by_quarters (p := fun n => Near (sinA n) (Ws n) ∧ Near (cosA n) (Wc n)) ?_ ?_ n
  · intro n h
    obtain ⟨e1, e2⟩ := W_small h
    obtain ⟨⟨⟨f1, f2⟩, ⟨f3, f4⟩⟩, _⟩ := w_facts h
    rw [e1, e2, cosA_eq, sin_q0 (by omega) (by omega), sin_q1 (a := (n : Int) + 16384) (by omega) (by omega), show 32768 - ((n : Int) + 16384) = ((16384 - n : Nat) : Int) by omega, q_nat (by omega), q_nat (by omega)]
    unfold Near
    simp only
    omega
  · intro n m hm ⟨h1, h2⟩
    obtain ⟨e1, e2⟩ := W_quarter hm
    have em : (m : Int) = (n : Int) + 16384 := by omega
    have c1 : sinA (m : Int) = cosA n := by rw [cosA_eq, em]
    have c2 : cosA (m : Int) = negI (sinA n) := by
      rw [cosA_eq, ← sin_half, em, Int.add_assoc]
      rfl
    rw [e1, e2, c1, c2]
    refine ⟨h2, ?_⟩
    unfold Near at *
    rw [neg_lo (sin_valid _), neg_hi (sin_valid _)]
    omega
theorem W_bound (n : Nat) : (-1152921504606846976 ≤ Wc n ∧ Wc n ≤ 1152921504606846976) ∧ (-1152921504606846976 ≤ Ws n ∧ Ws n ≤ 1152921504606846976) := by
  obtain ⟨⟨h1, h2⟩, ⟨h3, h4⟩⟩ := near_all n
  have r1 := sin_range n
  have r2 := sin_range (n + 16384)
  rw [cosA_eq] at h3 h4
  omega
/-- One step is the rotation by one unit, but for 16 at most. -/
def Step (n : Nat) : Prop :=
  (-18446744073709551616 ≤ Wc (n + 1) * 1152921504606846976 - (Wc n * 1152921499308143465 - Ws n * 110534964706108) ∧ Wc (n + 1) * 1152921504606846976 - (Wc n * 1152921499308143465 - Ws n * 110534964706108) ≤ 18446744073709551616) ∧
  (-18446744073709551616 ≤ Ws (n + 1) * 1152921504606846976 - (Ws n * 1152921499308143465 + Wc n * 110534964706108) ∧ Ws (n + 1) * 1152921504606846976 - (Ws n * 1152921499308143465 + Wc n * 110534964706108) ≤ 18446744073709551616)
theorem step_all (n : Nat) : Step n := by
  refine by_quarters (p := Step) ?_ ?_ n
  · intro n h
    obtain ⟨_, ⟨f1, f2⟩, ⟨f3, f4⟩⟩ := w_facts h
    obtain ⟨e1, e2⟩ := W_small h
    have e3 : Wc (n + 1) = (cNext n : Nat) ∧ Ws (n + 1) = (sNext n : Nat) := by
      unfold cNext sNext
      by_cases c : n = 16383
      · subst c
        have k := W_quarter (m := 16384) (n := 0) rfl
        have k2 := W_small (n := 0) (by omega)
        rw [cT_zero.1, cT_zero.2] at k2
        rw [k2.1, k2.2] at k
        rw [if_pos rfl, if_pos rfl]
        exact k
      · rw [if_neg c, if_neg c]
        exact W_small (by omega)
    unfold Step
    rw [e1, e2, e3.1, e3.2]
    unfold zC zS at *
    omega
  · intro n m hm h
    have e1 := W_quarter hm
    have e2 := W_quarter (m := m + 1) (n := n + 1) (by omega)
    unfold Step at *
    rw [e1.1, e1.2, e2.1, e2.2]
    omega
theorem mul_bd {x y X Y : Int} (h1 : -X ≤ x) (h2 : x ≤ X) (h3 : -Y ≤ y) (h4 : y ≤ Y) : -(X * Y) ≤ x * y ∧ x * y ≤ X * Y := by
  have a := Int.mul_nonneg (show 0 ≤ X - x by omega) (show 0 ≤ Y + y by omega)
  have b := Int.mul_nonneg (show 0 ≤ X + x by omega) (show 0 ≤ Y - y by omega)
  have c := Int.mul_nonneg (show 0 ≤ X - x by omega) (show 0 ≤ Y - y by omega)
  have d := Int.mul_nonneg (show 0 ≤ X + x by omega) (show 0 ≤ Y + y by omega)
  rw [Int.sub_mul, Int.mul_add, Int.mul_add] at a
  rw [Int.add_mul, Int.mul_sub, Int.mul_sub] at b
  rw [Int.sub_mul, Int.mul_sub, Int.mul_sub] at c
  rw [Int.add_mul, Int.mul_add, Int.mul_add] at d
  omega
def dRe (a b : Nat) : Int := Wc (a + b) * 1152921504606846976 - (Wc a * Wc b - Ws a * Ws b)
def dIm (a b : Nat) : Int := Ws (a + b) * 1152921504606846976 - (Ws a * Wc b + Wc a * Ws b)
/-- The error of b steps, times 4096, is at most 3 * 2^64 (b^2 + 4096 b). -/
def Err (a b : Nat) : Prop :=
  (-(55340232221128654848 * ((b : Int) * b + 4096 * b)) ≤ 4096 * dRe a b ∧ 4096 * dRe a b ≤ 55340232221128654848 * ((b : Int) * b + 4096 * b)) ∧
  (-(55340232221128654848 * ((b : Int) * b + 4096 * b)) ≤ 4096 * dIm a b ∧ 4096 * dIm a b ≤ 55340232221128654848 * ((b : Int) * b + 4096 * b))
theorem err_zero (a : Nat) : Err a 0 := by
  have e := W_small (n := 0) (by omega)
  rw [cT_zero.1, cT_zero.2] at e
  unfold Err dRe dIm
  rw [e.1, e.2]
  simp
theorem err_step {a b : Nat} (hb : b < 16384) (h : Err a b) : Err a (b + 1) := by
  have s1 := step_all (a + b)
  have s2 := step_all b
  have wa := W_bound a
  unfold Step at s1 s2
  generalize ex : Wc (a + b + 1) * 1152921504606846976 - (Wc (a + b) * 1152921499308143465 - Ws (a + b) * 110534964706108) = x1 at s1
  generalize ey : Ws (a + b + 1) * 1152921504606846976 - (Ws (a + b) * 1152921499308143465 + Wc (a + b) * 110534964706108) = y1 at s1
  generalize ex2 : Wc (b + 1) * 1152921504606846976 - (Wc b * 1152921499308143465 - Ws b * 110534964706108) = x2 at s2
  generalize ey2 : Ws (b + 1) * 1152921504606846976 - (Ws b * 1152921499308143465 + Wc b * 110534964706108) = y2 at s2
  have m1 := mul_bd (X := 1152921504606846976) (Y := 18446744073709551616) wa.1.1 wa.1.2 s2.1.1 s2.1.2
  have m2 := mul_bd (X := 1152921504606846976) (Y := 18446744073709551616) wa.2.1 wa.2.2 s2.1.1 s2.1.2
  have m3 := mul_bd (X := 1152921504606846976) (Y := 18446744073709551616) wa.1.1 wa.1.2 s2.2.1 s2.2.2
  have m4 := mul_bd (X := 1152921504606846976) (Y := 18446744073709551616) wa.2.1 wa.2.2 s2.2.1 s2.2.2
  have i1 : 1152921504606846976 * dRe a (b + 1) = 1152921499308143465 * dRe a b - 110534964706108 * dIm a b + 1152921504606846976 * x1 - (Wc a * x2 - Ws a * y2) := by
    unfold dRe dIm
    rw [← Nat.add_assoc, ← ex, ← ex2, ← ey2]
    grind
  have i2 : 1152921504606846976 * dIm a (b + 1) = 1152921499308143465 * dIm a b + 110534964706108 * dRe a b + 1152921504606846976 * y1 - (Ws a * x2 + Wc a * y2) := by
    unfold dRe dIm
    rw [← Nat.add_assoc, ← ey, ← ex2, ← ey2]
    grind
  have hb2 : (b : Int) * b ≤ 16384 * b := Int.mul_le_mul_of_nonneg_right (by omega) (by omega)
  have hb3 : 0 ≤ (b : Int) * b := Int.mul_nonneg (by omega) (by omega)
  have eb : (((b + 1 : Nat) : Int)) * ((b + 1 : Nat) : Int) = (b : Int) * b + 2 * b + 1 := by
    rw [Int.natCast_add]
    grind
  unfold Err at *
  rw [eb]
  clear ex ey ex2 ey2 eb
  generalize (b : Int) * b = bb at *
  have ec : ((b + 1 : Nat) : Int) = (b : Int) + 1 := rfl
  rw [ec]
  omega
theorem err_all (a : Nat) : ∀ b, b ≤ 16384 → Err a b
  | 0, _ => err_zero a
  | b + 1, h => err_step (by omega) (err_all a b (by omega))
/-- The error of whatever angle. -/
def Small (a b : Nat) : Prop := (-4533431863780459447271000 ≤ dRe a b ∧ dRe a b ≤ 4533431863780459447271000) ∧ (-4533431863780459447271000 ≤ dIm a b ∧ dIm a b ≤ 4533431863780459447271000)
theorem small_all (a b : Nat) : Small a b := by
  refine by_quarters (p := Small a) ?_ ?_ b
  · intro b h
    have e := err_all a b (by omega)
    have hb2 : (b : Int) * b ≤ 16384 * b := Int.mul_le_mul_of_nonneg_right (by omega) (by omega)
    unfold Err at e
    generalize (b : Int) * b = bb at *
    unfold Small
    omega
  · intro b m hm h
    have e1 := W_quarter (m := a + m) (n := a + b) (by omega)
    have e2 := W_quarter hm
    have c1 : dRe a m = -dIm a b := by
      unfold dRe dIm
      rw [e1.1, e2.1, e2.2]
      grind
    have c2 : dIm a m = dRe a b := by
      unfold dRe dIm
      rw [e1.2, e2.1, e2.2]
      grind
    unfold Small at *
    rw [c1, c2]
    omega

/-! The product of two intervals, near the product of two numbers. -/
theorem mul_ends {s d : Iv} (hs : Valid s) (hd : Valid d) (s1 : -65536 ≤ s.lo) (s2 : s.hi ≤ 65536) (d1 : -65536 ≤ d.lo) (d2 : d.hi ≤ 65536) :
    ((mulI s d).lo = min4 (s.lo * d.lo) (s.lo * d.hi) (s.hi * d.lo) (s.hi * d.hi) / 65536 ∧ (mulI s d).hi = -(-max4 (s.lo * d.lo) (s.lo * d.hi) (s.hi * d.lo) (s.hi * d.hi) / 65536)) ∧
    -65536 ≤ (mulI s d).lo ∧ (mulI s d).hi ≤ 65536 := by
  obtain ⟨_, hs2, _⟩ := id hs
  obtain ⟨_, hd2, _⟩ := id hd
  have p1 := mul_bd (X := 65536) (Y := 65536) (x := s.lo) (y := d.lo) (by omega) (by omega) (by omega) (by omega)
  have p2 := mul_bd (X := 65536) (Y := 65536) (x := s.lo) (y := d.hi) (by omega) (by omega) (by omega) (by omega)
  have p3 := mul_bd (X := 65536) (Y := 65536) (x := s.hi) (y := d.lo) (by omega) (by omega) (by omega) (by omega)
  have p4 := mul_bd (X := 65536) (Y := 65536) (x := s.hi) (y := d.hi) (by omega) (by omega) (by omega) (by omega)
  unfold mulI
  rw [when2_yes hs hd]
  unfold resI limI
  simp only
  have m1 : -4294967296 ≤ min4 (s.lo * d.lo) (s.lo * d.hi) (s.hi * d.lo) (s.hi * d.hi) ∧ min4 (s.lo * d.lo) (s.lo * d.hi) (s.hi * d.lo) (s.hi * d.hi) ≤ 4294967296 := by unfold min4; omega
  have m2 : -4294967296 ≤ max4 (s.lo * d.lo) (s.lo * d.hi) (s.hi * d.lo) (s.hi * d.hi) ∧ max4 (s.lo * d.lo) (s.lo * d.hi) (s.hi * d.lo) (s.hi * d.hi) ≤ 4294967296 := by unfold max4; omega
  rw [clamp_id (by omega) (by omega), clamp_id (by omega) (by omega)]
  exact ⟨⟨rfl, rfl⟩, by omega, by omega⟩
theorem scale4 (x y : Int) : (x * 17592186044416) * (y * 17592186044416) = (x * y) * 309485009821345068724781056 := by grind
theorem mul_near {s d : Iv} {v u : Int} (hs : Valid s) (hd : Valid d) (s1 : -65536 ≤ s.lo) (s2 : s.hi ≤ 65536) (d1 : -65536 ≤ d.lo) (d2 : d.hi ≤ 65536) (hv : Near s v) (hu : Near d u) :
    (mulI s d).lo * 20282409603651670423947251286016 ≤ v * u ∧ v * u ≤ (mulI s d).hi * 20282409603651670423947251286016 := by
  obtain ⟨c1, c2⟩ := corners hv.1 hv.2 hu.1 hu.2
  rw [scale4, scale4, scale4, scale4] at c1 c2
  obtain ⟨⟨e1, e2⟩, _⟩ := mul_ends hs hd s1 s2 d1 d2
  rw [e1, e2]
  unfold min4 max4 at *
  omega
theorem sum_ends {x y : Iv} (hx : Valid x) (hy : Valid y) (x1 : -65536 ≤ x.lo) (x2 : x.hi ≤ 65536) (y1 : -65536 ≤ y.lo) (y2 : y.hi ≤ 65536) : addI x y = ⟨x.lo + y.lo, x.hi + y.hi⟩ := by
  obtain ⟨_, _, _⟩ := id hx
  obtain ⟨_, _, _⟩ := id hy
  unfold addI
  rw [when2_yes hx hy]
  unfold limI
  rw [clamp_id (by omega) (by omega), clamp_id (by omega) (by omega)]
theorem diff_ends {x y : Iv} (hx : Valid x) (hy : Valid y) (x1 : -65536 ≤ x.lo) (x2 : x.hi ≤ 65536) (y1 : -65536 ≤ y.lo) (y2 : y.hi ≤ 65536) : subI x y = ⟨x.lo - y.hi, x.hi - y.lo⟩ := by
  obtain ⟨_, _, _⟩ := id hx
  obtain ⟨_, _, _⟩ := id hy
  unfold subI
  rw [when2_yes hx hy]
  unfold limI
  rw [clamp_id (by omega) (by omega), clamp_id (by omega) (by omega)]
theorem nat_of (a : Int) : ∃ n : Nat, (n : Int) = a % 65536 := ⟨(a % 65536).toNat, by omega⟩
theorem sin_same {a b : Int} (h : a % 65536 = b % 65536) : sinA a = sinA b := by rw [← sinA_mod a, h, sinA_mod]
theorem cos_same {a b : Int} (h : a % 65536 = b % 65536) : cosA a = cosA b := by rw [cosA_eq, cosA_eq]; exact sin_same (by omega)
theorem cos_range (a : Int) : -65536 ≤ (cosA a).lo ∧ (cosA a).lo ≤ (cosA a).hi ∧ (cosA a).hi ≤ 65536 ∧ (cosA a).hi ≤ (cosA a).lo + 2 := by rw [cosA_eq]; exact sin_range _
theorem cos_valid (a : Int) : Valid (cosA a) := by rw [cosA_eq]; exact sin_valid _
theorem close_sum {l h xl xh yl yh v p q : Int} (n : l * 17592186044416 ≤ v ∧ v ≤ h * 17592186044416) (m1 : xl * 20282409603651670423947251286016 ≤ p ∧ p ≤ xh * 20282409603651670423947251286016)
    (m2 : yl * 20282409603651670423947251286016 ≤ q ∧ q ≤ yh * 20282409603651670423947251286016) (s : -4533431863780459447271000 ≤ v * 1152921504606846976 - (p + q) ∧ v * 1152921504606846976 - (p + q) ≤ 4533431863780459447271000)
    (h1 : l ≤ h) : max l (xl + yl) ≤ min h (xh + yh) := by
  have a : xl + yl ≤ h := by omega
  have b : l ≤ xh + yh := by omega
  omega
theorem close_diff {l h xl xh yl yh v p q : Int} (n : l * 17592186044416 ≤ v ∧ v ≤ h * 17592186044416) (m1 : xl * 20282409603651670423947251286016 ≤ p ∧ p ≤ xh * 20282409603651670423947251286016)
    (m2 : yl * 20282409603651670423947251286016 ≤ q ∧ q ≤ yh * 20282409603651670423947251286016) (s : -4533431863780459447271000 ≤ v * 1152921504606846976 - (p - q) ∧ v * 1152921504606846976 - (p - q) ≤ 4533431863780459447271000)
    (h1 : l ≤ h) : max l (xl - yh) ≤ min h (xh - yl) := by
  have a : xl - yh ≤ h := by omega
  have b : l ≤ xh - yl := by omega
  omega
theorem sin_adds_nat (a b : Nat) : meets (sinA (a + b)) (addI (mulI (sinA a) (cosA b)) (mulI (cosA a) (sinA b))) := by
  have r1 := sin_range a
  have r2 := cos_range a
  have r3 := sin_range b
  have r4 := cos_range b
  obtain ⟨n1, n2⟩ := near_all a
  obtain ⟨n3, n4⟩ := near_all b
  obtain ⟨n5, _⟩ := near_all (a + b)
  have m1 := mul_near (sin_valid _) (cos_valid _) r1.1 r1.2.2.1 r4.1 r4.2.2.1 n1 n4
  have m2 := mul_near (cos_valid _) (sin_valid _) r2.1 r2.2.2.1 r3.1 r3.2.2.1 n2 n3
  have k1 := (mul_ends (sin_valid (a : Int)) (cos_valid (b : Int)) r1.1 r1.2.2.1 r4.1 r4.2.2.1).2
  have k2 := (mul_ends (cos_valid (a : Int)) (sin_valid (b : Int)) r2.1 r2.2.2.1 r3.1 r3.2.2.1).2
  have sm := (small_all a b).2
  refine ⟨⟨sin_valid _, valid_add _ _⟩, ?_⟩
  rw [sum_ends (valid_mul _ _) (valid_mul _ _) k1.1 k1.2 k2.1 k2.2]
  simp only
  unfold dIm at sm
  have e : ((a + b : Nat) : Int) = (a : Int) + b := Int.natCast_add a b
  rw [e] at n5
  exact close_sum n5 m1 m2 sm (sin_valid _).2.1
theorem cos_adds_nat (a b : Nat) : meets (cosA (a + b)) (subI (mulI (cosA a) (cosA b)) (mulI (sinA a) (sinA b))) := by
  have r1 := sin_range a
  have r2 := cos_range a
  have r3 := sin_range b
  have r4 := cos_range b
  obtain ⟨n1, n2⟩ := near_all a
  obtain ⟨n3, n4⟩ := near_all b
  obtain ⟨_, n5⟩ := near_all (a + b)
  have m1 := mul_near (cos_valid _) (cos_valid _) r2.1 r2.2.2.1 r4.1 r4.2.2.1 n2 n4
  have m2 := mul_near (sin_valid _) (sin_valid _) r1.1 r1.2.2.1 r3.1 r3.2.2.1 n1 n3
  have k1 := (mul_ends (cos_valid (a : Int)) (cos_valid (b : Int)) r2.1 r2.2.2.1 r4.1 r4.2.2.1).2
  have k2 := (mul_ends (sin_valid (a : Int)) (sin_valid (b : Int)) r1.1 r1.2.2.1 r3.1 r3.2.2.1).2
  have sm := (small_all a b).1
  refine ⟨⟨cos_valid _, valid_sub _ _⟩, ?_⟩
  rw [diff_ends (valid_mul _ _) (valid_mul _ _) k1.1 k1.2 k2.1 k2.2]
  simp only
  unfold dRe at sm
  have e : ((a + b : Nat) : Int) = (a : Int) + b := Int.natCast_add a b
  rw [e] at n5
  exact close_diff n5 m1 m2 sm (cos_valid _).2.1
theorem sin_adds (a b : Int) : meets (sinA (a + b)) (addI (mulI (sinA a) (cosA b)) (mulI (cosA a) (sinA b))) := by
  obtain ⟨n, hn⟩ := nat_of a
  obtain ⟨m, hm⟩ := nat_of b
  have h := sin_adds_nat n m
  rw [sin_same (a := (n : Int)) (b := a) (by omega), sin_same (a := (m : Int)) (b := b) (by omega), cos_same (a := (n : Int)) (b := a) (by omega), cos_same (a := (m : Int)) (b := b) (by omega), sin_same (a := (n : Int) + m) (b := a + b) (by omega)] at h
  exact h
theorem cos_adds (a b : Int) : meets (cosA (a + b)) (subI (mulI (cosA a) (cosA b)) (mulI (sinA a) (sinA b))) := by
  obtain ⟨n, hn⟩ := nat_of a
  obtain ⟨m, hm⟩ := nat_of b
  have h := cos_adds_nat n m
  rw [sin_same (a := (n : Int)) (b := a) (by omega), sin_same (a := (m : Int)) (b := b) (by omega), cos_same (a := (n : Int)) (b := a) (by omega), cos_same (a := (m : Int)) (b := b) (by omega), cos_same (a := (n : Int) + m) (b := a + b) (by omega)] at h
  exact h
end Go.Proofs.Ytdplgiccpjlelaa
