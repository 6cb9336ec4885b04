/- Proved: plain arithmetic: two rotations about an axis meet the one by the sum of the angles; quarters of a turn are exact. Conditions: as each theorem states. Nothing of the program is used. -/
import Derived.Test.YtdaeacakgpjjgaaMat1
import Derived.Test.YtdaeacakgpjjgaaAng6
namespace Go.Proofs.Ytdaeacakgpjjgaa
open Go.RowKit

/-! Units, zeros and signs. -/
theorem zero_of : zeroI = ofI 0 := by rw [ofI_id (by decide) (by decide)]; rfl
theorem add_zero_r {a : Iv} (h : Valid a) : addI a zeroI = a := by rw [zero_of]; exact add_zero_I h
theorem add_comm_I (a b : Iv) : addI a b = addI b a := by
  unfold addI when2
  by_cases h : Valid a ∧ Valid b
  · rw [if_pos h, if_pos ⟨h.2, h.1⟩, Int.add_comm a.lo, Int.add_comm a.hi]
  · rw [if_neg h, if_neg (fun k => h ⟨k.2, k.1⟩)]
theorem add_zero_l {a : Iv} (h : Valid a) : addI zeroI a = a := by rw [add_comm_I, add_zero_r h]
theorem mul_zero_r {a : Iv} (h : Valid a) : mulI a zeroI = zeroI := by
  unfold mulI
  rw [when2_yes h zero_valid]
  show resI (min4 (a.lo * 0) (a.lo * 0) (a.hi * 0) (a.hi * 0)) (max4 (a.lo * 0) (a.lo * 0) (a.hi * 0) (a.hi * 0)) = zeroI
  rw [Int.mul_zero, Int.mul_zero]
  rfl
theorem mul_zero_l {a : Iv} (h : Valid a) : mulI zeroI a = zeroI := by rw [mul_comm_I, mul_zero_r h]
theorem lim1_zero : lim1 zeroI = zeroI := rfl
theorem lim1_one : lim1 oneI = oneI := by unfold oneI; rw [of_one]; rfl
theorem one_one : mulI oneI oneI = oneI := mul_one_r one_valid
theorem clamp_negI (x : Int) : clampI (-x) = -clampI x := by unfold clampI; omega
theorem res_neg (x y : Int) : resI (-y) (-x) = ⟨-(resI x y).hi, -(resI x y).lo⟩ := by
  unfold resI limI
  dsimp only
  rw [← clamp_negI, ← clamp_negI, Int.neg_neg, Int.neg_neg]
theorem mul_neg_l {a b : Iv} (ha : Valid a) (hb : Valid b) : mulI (negI a) b = negI (mulI a b) := by
  have hv := valid_mul a b
  apply Iv.ext'
  · rw [neg_lo hv]
    unfold mulI
    rw [when2_yes (valid_neg a) hb, when2_yes ha hb, neg_lo ha, neg_hi ha]
    have h := res_neg (min4 (a.lo * b.lo) (a.lo * b.hi) (a.hi * b.lo) (a.hi * b.hi)) (max4 (a.lo * b.lo) (a.lo * b.hi) (a.hi * b.lo) (a.hi * b.hi))
    have e1 : min4 (-a.hi * b.lo) (-a.hi * b.hi) (-a.lo * b.lo) (-a.lo * b.hi) = -max4 (a.lo * b.lo) (a.lo * b.hi) (a.hi * b.lo) (a.hi * b.hi) := by
      rw [Int.neg_mul, Int.neg_mul, Int.neg_mul, Int.neg_mul]; unfold min4 max4; omega
    have e2 : max4 (-a.hi * b.lo) (-a.hi * b.hi) (-a.lo * b.lo) (-a.lo * b.hi) = -min4 (a.lo * b.lo) (a.lo * b.hi) (a.hi * b.lo) (a.hi * b.hi) := by
      rw [Int.neg_mul, Int.neg_mul, Int.neg_mul, Int.neg_mul]; unfold min4 max4; omega
    rw [e1, e2, h]
  · rw [neg_hi hv]
    unfold mulI
    rw [when2_yes (valid_neg a) hb, when2_yes ha hb, neg_lo ha, neg_hi ha]
    have h := res_neg (min4 (a.lo * b.lo) (a.lo * b.hi) (a.hi * b.lo) (a.hi * b.hi)) (max4 (a.lo * b.lo) (a.lo * b.hi) (a.hi * b.lo) (a.hi * b.hi))
    have e1 : min4 (-a.hi * b.lo) (-a.hi * b.hi) (-a.lo * b.lo) (-a.lo * b.hi) = -max4 (a.lo * b.lo) (a.lo * b.hi) (a.hi * b.lo) (a.hi * b.hi) := by
      rw [Int.neg_mul, Int.neg_mul, Int.neg_mul, Int.neg_mul]; unfold min4 max4; omega
    have e2 : max4 (-a.hi * b.lo) (-a.hi * b.hi) (-a.lo * b.lo) (-a.lo * b.hi) = -min4 (a.lo * b.lo) (a.lo * b.hi) (a.hi * b.lo) (a.hi * b.hi) := by
      rw [Int.neg_mul, Int.neg_mul, Int.neg_mul, Int.neg_mul]; unfold min4 max4; omega
    rw [e1, e2, h]
theorem mul_neg_r {a b : Iv} (ha : Valid a) (hb : Valid b) : mulI a (negI b) = negI (mulI a b) := by rw [mul_comm_I, mul_neg_l hb ha, mul_comm_I]
theorem add_neg_r {a b : Iv} (ha : Valid a) (hb : Valid b) : addI a (negI b) = subI a b := by
  unfold addI subI
  rw [when2_yes ha (valid_neg b), when2_yes ha hb, neg_lo hb, neg_hi hb, Int.sub_eq_add_neg, Int.sub_eq_add_neg]
theorem add_negs {a b : Iv} (ha : Valid a) (hb : Valid b) : addI (negI a) (negI b) = negI (addI a b) := by
  have hv := valid_add a b
  have e : addI (negI a) (negI b) = limI (-(a.hi + b.hi)) (-(a.lo + b.lo)) := by
    unfold addI
    rw [when2_yes (valid_neg a) (valid_neg b), neg_lo ha, neg_lo hb, neg_hi ha, neg_hi hb, Int.neg_add, Int.neg_add]
  rw [e]
  apply Iv.ext'
  · rw [neg_lo hv]
    unfold addI limI
    rw [when2_yes ha hb]
    exact clamp_negI _
  · rw [neg_hi hv]
    unfold addI limI
    rw [when2_yes ha hb]
    exact clamp_negI _
/-! Meeting. -/
theorem meets_neg {a b : Iv} (h : meets a b) : meets (negI a) (negI b) := by
  obtain ⟨⟨ha, hb⟩, h⟩ := h
  refine ⟨⟨valid_neg a, valid_neg b⟩, ?_⟩
  rw [neg_lo ha, neg_lo hb, neg_hi ha, neg_hi hb]
  omega
theorem meets_lim1 {x y : Iv} (h : meets x y) (h1 : -65536 ≤ x.lo) (h2 : x.hi ≤ 65536) : meets (lim1 y) x := by
  obtain ⟨⟨⟨hx1, hx2, hx3⟩, ⟨hy1, hy2, hy3⟩⟩, h⟩ := h
  unfold meets Valid lim1
  dsimp only
  omega
theorem meets_self {x : Iv} (h : Valid x) : meets x x := by
  obtain ⟨_, h2, _⟩ := id h
  exact ⟨⟨h, h⟩, by omega⟩
/-- All entries meet. -/
def MV (a b : V3) : Prop := meets a.x b.x ∧ meets a.y b.y ∧ meets a.z b.z
def MM (a b : M3) : Prop := MV a.x b.x ∧ MV a.y b.y ∧ MV a.z b.z
theorem rot_adds {k : Int} (hk : k = 0 ∨ k = 1 ∨ k = 2) (a b : Int) : MM (comM (rotM k (cosA a) (sinA a)) (rotM k (cosA b) (sinA b))) (rotM k (cosA (a + b)) (sinA (a + b))) := by
  have c1 := cos_valid a
  have c2 := cos_valid b
  have s1 := sin_valid a
  have s2 := sin_valid b
  have n1 := valid_neg (sinA a)
  have n2 := valid_neg (sinA b)
  have o := one_valid
  have z := zero_valid
  obtain ⟨r1, _, r2, _⟩ := cos_range (a + b)
  obtain ⟨r3, _, r4, _⟩ := sin_range (a + b)
  have sv := sin_valid (a + b)
  have mc := cos_adds a b
  have ms := sin_adds a b
  have r5 : -65536 ≤ (negI (sinA (a + b))).lo := by rw [neg_lo sv]; omega
  have r6 : (negI (sinA (a + b))).hi ≤ 65536 := by rw [neg_hi sv]; omega
  have mn := meets_neg ms
  -- cos cos + (-sin) sin, (-sin) sin + cos cos, and so on
  have e1 : addI (mulI (cosA a) (cosA b)) (mulI (negI (sinA a)) (sinA b)) = subI (mulI (cosA a) (cosA b)) (mulI (sinA a) (sinA b)) := by rw [mul_neg_l s1 s2, add_neg_r (valid_mul _ _) (valid_mul _ _)]
  have e2 : addI (mulI (sinA a) (negI (sinA b))) (mulI (cosA a) (cosA b)) = subI (mulI (cosA a) (cosA b)) (mulI (sinA a) (sinA b)) := by rw [mul_neg_r s1 s2, add_comm_I, add_neg_r (valid_mul _ _) (valid_mul _ _)]
  have e3 : addI (mulI (cosA a) (negI (sinA b))) (mulI (negI (sinA a)) (cosA b)) = negI (addI (mulI (sinA a) (cosA b)) (mulI (cosA a) (sinA b))) := by rw [mul_neg_r c1 s2, mul_neg_l s1 c2, add_negs (valid_mul _ _) (valid_mul _ _), add_comm_I]
  have e4 : addI (mulI (sinA a) (cosA b)) (mulI (cosA a) (sinA b)) = addI (mulI (sinA a) (cosA b)) (mulI (cosA a) (sinA b)) := rfl
  have e5 : addI (mulI (cosA a) (cosA b)) (mulI (sinA a) (negI (sinA b))) = subI (mulI (cosA a) (cosA b)) (mulI (sinA a) (sinA b)) := by rw [mul_neg_r s1 s2, add_neg_r (valid_mul _ _) (valid_mul _ _)]
  have e6 : addI (mulI (cosA a) (sinA b)) (mulI (sinA a) (cosA b)) = addI (mulI (sinA a) (cosA b)) (mulI (cosA a) (sinA b)) := add_comm_I _ _
  have e7 : addI (mulI (negI (sinA a)) (cosA b)) (mulI (cosA a) (negI (sinA b))) = negI (addI (mulI (sinA a) (cosA b)) (mulI (cosA a) (sinA b))) := by rw [mul_neg_r c1 s2, mul_neg_l s1 c2, add_negs (valid_mul _ _) (valid_mul _ _)]
  have e8 : addI (mulI (negI (sinA a)) (sinA b)) (mulI (cosA a) (cosA b)) = subI (mulI (cosA a) (cosA b)) (mulI (sinA a) (sinA b)) := by rw [mul_neg_l s1 s2, add_comm_I, add_neg_r (valid_mul _ _) (valid_mul _ _)]
  have C := meets_lim1 mc r1 r2
  have S := meets_lim1 ms r3 r4
  have N := meets_lim1 mn r5 r6
  have O := meets_self o
  have Z := meets_self z
  have zz := mul_zero_r z
  have za := add_zero_l z
  unfold rotM
  rcases hk with h | h | h
  · subst h
    rw [if_pos rfl, if_pos rfl, if_pos rfl]
    unfold comM rowM dotV traM
    dsimp only
    refine ⟨⟨?_, ?_, ?_⟩, ⟨?_, ?_, ?_⟩, ?_, ?_, ?_⟩
    all_goals dsimp only
    · rw [one_one, zz, add_zero_r o, add_zero_r o, lim1_one]; exact O
    · rw [mul_zero_r o, mul_zero_l c2, za, mul_zero_l s2, za, lim1_zero]; exact Z
    · rw [mul_zero_r o, mul_zero_l n2, za, mul_zero_l c2, za, lim1_zero]; exact Z
    · rw [mul_zero_l o, mul_zero_r c1, za, mul_zero_r n1, za, lim1_zero]; exact Z
    · rw [zz, add_zero_l (valid_mul _ _), e1]; exact C
    · rw [zz, add_zero_l (valid_mul _ _), e3]; exact N
    · rw [mul_zero_l o, mul_zero_r s1, za, mul_zero_r c1, za, lim1_zero]; exact Z
    · rw [zz, add_zero_l (valid_mul _ _)]; exact S
    · rw [zz, add_zero_l (valid_mul _ _), e2]; exact C
  · subst h
    rw [if_neg (by decide), if_pos rfl, if_neg (by decide), if_pos rfl, if_neg (by decide), if_pos rfl]
    unfold comM rowM dotV traM
    dsimp only
    refine ⟨⟨?_, ?_, ?_⟩, ⟨?_, ?_, ?_⟩, ?_, ?_, ?_⟩
    all_goals dsimp only
    · rw [zz, add_zero_r (valid_mul _ _), e5]; exact C
    · rw [mul_zero_r c1, mul_zero_l o, za, mul_zero_r s1, za, lim1_zero]; exact Z
    · rw [zz, add_zero_r (valid_mul _ _), e6]; exact S
    · rw [mul_zero_l c2, mul_zero_r o, za, mul_zero_l n2, za, lim1_zero]; exact Z
    · rw [zz, one_one, add_zero_l o, add_zero_r o, lim1_one]; exact O
    · rw [mul_zero_l s2, mul_zero_r o, za, mul_zero_l c2, za, lim1_zero]; exact Z
    · rw [zz, add_zero_r (valid_mul _ _), e7]; exact N
    · rw [mul_zero_r n1, mul_zero_l o, za, mul_zero_r c1, za, lim1_zero]; exact Z
    · rw [zz, add_zero_r (valid_mul _ _), e8]; exact C
  · subst h
    rw [if_neg (by decide), if_neg (by decide), if_pos rfl, if_neg (by decide), if_neg (by decide), if_pos rfl, if_neg (by decide), if_neg (by decide), if_pos rfl]
    unfold comM rowM dotV traM
    dsimp only
    refine ⟨⟨?_, ?_, ?_⟩, ⟨?_, ?_, ?_⟩, ?_, ?_, ?_⟩
    all_goals dsimp only
    · rw [zz, add_zero_r (valid_add _ _), e1]; exact C
    · rw [zz, add_zero_r (valid_add _ _), e3]; exact N
    · rw [mul_zero_r c1, mul_zero_r n1, za, mul_zero_l o, za, lim1_zero]; exact Z
    · rw [zz, add_zero_r (valid_add _ _)]; exact S
    · rw [zz, add_zero_r (valid_add _ _), e2]; exact C
    · rw [mul_zero_r s1, mul_zero_r c1, za, mul_zero_l o, za, lim1_zero]; exact Z
    · rw [mul_zero_l c2, mul_zero_l s2, za, mul_zero_r o, za, lim1_zero]; exact Z
    · rw [mul_zero_l n2, mul_zero_l c2, za, mul_zero_r o, za, lim1_zero]; exact Z
    · rw [zz, za, one_one, add_zero_l o, lim1_one]; exact O
/-! Quarters of a turn. -/
def minusI : Iv := ⟨-65536, -65536⟩
theorem minus_valid : Valid minusI := by decide
theorem minus_neg : minusI = negI oneI := by unfold oneI minusI; rw [of_one]; rfl
theorem mul_minus {a : Iv} (h : Valid a) : mulI minusI a = negI a := by rw [minus_neg, mul_neg_l one_valid h]; congr 1; exact mul_one_l h
theorem sin_quarter : sinA 16384 = oneI := by rw [sin_q0 (by decide) (by decide), q_top]; unfold oneI; rw [of_one]
theorem cos_quarter : cosA 16384 = zeroI := by rw [cosA_eq, sin_q1 (by decide) (by decide), show (32768 : Int) - (16384 + 16384) = 0 by decide, q_zero]; rfl
theorem sin_halfturn : sinA 32768 = zeroI := by rw [sin_q1 (by decide) (by decide), show (32768 : Int) - 32768 = 0 by decide, q_zero]; rfl
theorem cos_halfturn : cosA 32768 = minusI := by rw [cosA_eq, sin_q2 (by decide) (by decide), show (32768 : Int) + 16384 - 32768 = 16384 by decide, q_top]; rfl
theorem quarter_eq (k : Int) : trnM k (ofI 16384) = rotM k zeroI oneI := by rw [trn_point (by decide) (by decide), cos_quarter, sin_quarter]
theorem half_eq (k : Int) : trnM k (ofI 32768) = rotM k minusI zeroI := by rw [trn_point (by decide) (by decide), cos_halfturn, sin_halfturn]
theorem quarters {k : Int} (hk : k = 0 ∨ k = 1 ∨ k = 2) : comM (rotM k zeroI oneI) (rotM k zeroI oneI) = rotM k minusI zeroI ∧ comM (rotM k minusI zeroI) (rotM k minusI zeroI) = unitM := by
  rcases hk with h | h | h <;> subst h <;> exact ⟨by kernel_rfl, by kernel_rfl⟩
set_option linter.unusedSimpArgs false in
theorem half_half {k : Int} (hk : k = 0 ∨ k = 1 ∨ k = 2) {v : V3} (hv : VV v) : appM (rotM k minusI zeroI) (appM (rotM k minusI zeroI) v) = v := by
  have z := zero_valid
  have nz : negI zeroI = zeroI := rfl
  obtain ⟨h1, h2, h3⟩ := hv
  have nx := valid_neg v.x
  have ny := valid_neg v.y
  have nz3 := valid_neg v.z
  have m1 : ∀ a : Iv, Valid a → mulI oneI a = a := fun a h => mul_one_l h
  unfold rotM appM dotV
  rcases hk with h | h | h
  · subst h
    rw [if_pos rfl]
    simp only [nz, m1 _ h1, m1 _ h2, m1 _ h3, mul_zero_l h1, mul_zero_l h2, mul_zero_l h3, mul_zero_l nx, mul_zero_l ny, mul_zero_l nz3, mul_minus h1, mul_minus h2, mul_minus h3, mul_minus nx, mul_minus ny, mul_minus nz3, neg_neg_I h1, neg_neg_I h2, neg_neg_I h3, add_zero_l z, add_zero_l h1, add_zero_l h2, add_zero_l h3, add_zero_r h1, add_zero_r h2, add_zero_r h3, add_zero_l nx, add_zero_l ny, add_zero_l nz3, add_zero_r nx, add_zero_r ny, add_zero_r nz3]
  · subst h
    rw [if_neg (by decide), if_pos rfl]
    simp only [nz, m1 _ h1, m1 _ h2, m1 _ h3, mul_zero_l h1, mul_zero_l h2, mul_zero_l h3, mul_zero_l nx, mul_zero_l ny, mul_zero_l nz3, mul_minus h1, mul_minus h2, mul_minus h3, mul_minus nx, mul_minus ny, mul_minus nz3, neg_neg_I h1, neg_neg_I h2, neg_neg_I h3, add_zero_l z, add_zero_l h1, add_zero_l h2, add_zero_l h3, add_zero_r h1, add_zero_r h2, add_zero_r h3, add_zero_l nx, add_zero_l ny, add_zero_l nz3, add_zero_r nx, add_zero_r ny, add_zero_r nz3]
  · subst h
    rw [if_neg (by decide), if_neg (by decide), if_pos rfl]
    simp only [nz, m1 _ h1, m1 _ h2, m1 _ h3, mul_zero_l h1, mul_zero_l h2, mul_zero_l h3, mul_zero_l nx, mul_zero_l ny, mul_zero_l nz3, mul_minus h1, mul_minus h2, mul_minus h3, mul_minus nx, mul_minus ny, mul_minus nz3, neg_neg_I h1, neg_neg_I h2, neg_neg_I h3, add_zero_l z, add_zero_l h1, add_zero_l h2, add_zero_l h3, add_zero_r h1, add_zero_r h2, add_zero_r h3, add_zero_l nx, add_zero_l ny, add_zero_l nz3, add_zero_r nx, add_zero_r ny, add_zero_r nz3]
end Go.Proofs.Ytdaeacakgpjjgaa
