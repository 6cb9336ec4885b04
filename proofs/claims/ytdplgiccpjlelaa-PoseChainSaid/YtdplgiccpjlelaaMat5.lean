/- Proved: plain arithmetic of vectors and matrices of intervals: parts, quarters of a turn, sums of angles; plain arithmetic: a rotation by intervals and its transpose give a matrix that contains the identity; plain arithmetic of rotations by one angle: orthogonal, lengths, sums of angles, quarters of a turn; plain arithmetic: two rotations about an axis meet the one by the sum of the angles; quarters of a turn are exact. Conditions: as each theorem states. -/
import Derived.Test.YtdplgiccpjlelaaAng4
import Derived.Test.YtdplgiccpjlelaaAng7
import Derived.Test.YtdplgiccpjlelaaAng6
namespace Go.Proofs.Ytdplgiccpjlelaa
open Go.RowKit

structure V3 where
  x : Iv
  y : Iv
  z : Iv
structure M3 where
  x : V3
  y : V3
  z : V3
def lim1 (a : Iv) : Iv := ⟨max (-65536) (min a.lo 65536), max (-65536) (min a.hi 65536)⟩
def dotV (r v : V3) : Iv := addI (addI (mulI r.x v.x) (mulI r.y v.y)) (mulI r.z v.z)
def appM (m : M3) (v : V3) : V3 := ⟨dotV m.x v, dotV m.y v, dotV m.z v⟩
def traM (m : M3) : M3 := ⟨⟨m.x.x, m.y.x, m.z.x⟩, ⟨m.x.y, m.y.y, m.z.y⟩, ⟨m.x.z, m.y.z, m.z.z⟩⟩
/-- A row times the columns of a matrix, each within -1 and 1. -/
def rowM (r : V3) (b : M3) : V3 := ⟨lim1 (dotV r (traM b).x), lim1 (dotV r (traM b).y), lim1 (dotV r (traM b).z)⟩
def comM (a b : M3) : M3 := ⟨rowM a.x b, rowM a.y b, rowM a.z b⟩
def zeroV : V3 := ⟨zeroI, zeroI, zeroI⟩
def zeroM : M3 := ⟨zeroV, zeroV, zeroV⟩
def oneI : Iv := ofI 65536
def unitM : M3 := ⟨⟨oneI, zeroI, zeroI⟩, ⟨zeroI, oneI, zeroI⟩, ⟨zeroI, zeroI, oneI⟩⟩
def pntV (a b c : Int) : V3 := ⟨ofI a, ofI b, ofI c⟩
def addV (a b : V3) : V3 := ⟨addI a.x b.x, addI a.y b.y, addI a.z b.z⟩
def subV (a b : V3) : V3 := ⟨subI a.x b.x, subI a.y b.y, subI a.z b.z⟩
/-- The rotation about an axis whose cosine and sine are c and s. -/
def rotM (k : Int) (c s : Iv) : M3 :=
  if k = 0 then ⟨⟨oneI, zeroI, zeroI⟩, ⟨zeroI, c, negI s⟩, ⟨zeroI, s, c⟩⟩ else
  if k = 1 then ⟨⟨c, zeroI, s⟩, ⟨zeroI, oneI, zeroI⟩, ⟨negI s, zeroI, c⟩⟩ else
  if k = 2 then ⟨⟨c, negI s, zeroI⟩, ⟨s, c, zeroI⟩, ⟨zeroI, zeroI, oneI⟩⟩ else zeroM
def trnM (k : Int) (a : Iv) : M3 := if Valid a then rotM k (cosO a) (sinO a) else zeroM
def WV (a b : V3) : Prop := Within a.x b.x ∧ Within a.y b.y ∧ Within a.z b.z
def WM (a b : M3) : Prop := WV a.x b.x ∧ WV a.y b.y ∧ WV a.z b.z
/-! Parts. -/
theorem one_valid : Valid oneI := by unfold oneI; rw [of_one]; decide
theorem zero_valid : Valid zeroI := by decide
theorem within_self {a : Iv} (h : Valid a) : Within a a := ⟨⟨h, h⟩, Int.le_refl _, Int.le_refl _⟩
theorem lim1_within {a b : Iv} (h : Within a b) : Within (lim1 a) (lim1 b) := by
  obtain ⟨⟨⟨_, _, _⟩, ⟨_, _, _⟩⟩, _, _⟩ := h
  unfold Within Valid lim1
  dsimp only
  omega
theorem dot_within {r s u v : V3} (h : WV r s) (k : WV u v) : Within (dotV r u) (dotV s v) :=
  add_within (add_within (mul_within h.1 k.1) (mul_within h.2.1 k.2.1)) (mul_within h.2.2 k.2.2)
theorem app_within {m n : M3} {u v : V3} (h : WM m n) (k : WV u v) : WV (appM m u) (appM n v) := ⟨dot_within h.1 k, dot_within h.2.1 k, dot_within h.2.2 k⟩
theorem tra_within {m n : M3} (h : WM m n) : WM (traM m) (traM n) := ⟨⟨h.1.1, h.2.1.1, h.2.2.1⟩, ⟨h.1.2.1, h.2.1.2.1, h.2.2.2.1⟩, ⟨h.1.2.2, h.2.1.2.2, h.2.2.2.2⟩⟩
theorem row_within {r s : V3} {m n : M3} (h : WV r s) (k : WM m n) : WV (rowM r m) (rowM s n) :=
  ⟨lim1_within (dot_within h (tra_within k).1), lim1_within (dot_within h (tra_within k).2.1), lim1_within (dot_within h (tra_within k).2.2)⟩
theorem com_within {a b c d : M3} (h : WM a b) (k : WM c d) : WM (comM a c) (comM b d) := ⟨row_within h.1 k, row_within h.2.1 k, row_within h.2.2 k⟩
theorem addV_within {a b c d : V3} (h : WV a b) (k : WV c d) : WV (addV a c) (addV b d) := ⟨add_within h.1 k.1, add_within h.2.1 k.2.1, add_within h.2.2 k.2.2⟩
theorem subV_within {a b c d : V3} (h : WV a b) (k : WV c d) : WV (subV a c) (subV b d) := ⟨sub_within h.1 k.1, sub_within h.2.1 k.2.1, sub_within h.2.2 k.2.2⟩
theorem rot_within {k : Int} {c s c' s' : Iv} (hc : Within c c') (hs : Within s s') : WM (rotM k c s) (rotM k c' s') := by
  have o := within_self one_valid
  have z := within_self zero_valid
  have n := neg_within hs
  unfold rotM
  by_cases h0 : k = 0
  · rw [if_pos h0, if_pos h0]; exact ⟨⟨o, z, z⟩, ⟨z, hc, n⟩, ⟨z, hs, hc⟩⟩
  · rw [if_neg h0, if_neg h0]
    by_cases h1 : k = 1
    · rw [if_pos h1, if_pos h1]; exact ⟨⟨hc, z, hs⟩, ⟨z, o, z⟩, ⟨n, z, hc⟩⟩
    · rw [if_neg h1, if_neg h1]
      by_cases h2 : k = 2
      · rw [if_pos h2, if_pos h2]; exact ⟨⟨hc, n, z⟩, ⟨hs, hc, z⟩, ⟨z, z, o⟩⟩
      · rw [if_neg h2, if_neg h2]; exact ⟨⟨z, z, z⟩, ⟨z, z, z⟩, ⟨z, z, z⟩⟩
theorem sinO_within {a b : Iv} (h : Within b a) : Within (sinO b) (sinO a) := by have := over_nested (s := 0) h; rwa [← sinO_eq, ← sinO_eq] at this
theorem cosO_within {a b : Iv} (h : Within b a) : Within (cosO b) (cosO a) := by have := over_nested (s := 16384) h; rwa [← cosO_eq, ← cosO_eq] at this
theorem trn_within {k : Int} {a b : Iv} (h : Within b a) : WM (trnM k b) (trnM k a) := by
  unfold trnM
  rw [if_pos h.1.1, if_pos h.1.2]
  exact rot_within (cosO_within h) (sinO_within h)
/-- The entries of a matrix are valid intervals. -/
def VV (v : V3) : Prop := Valid v.x ∧ Valid v.y ∧ Valid v.z
def VM (m : M3) : Prop := VV m.x ∧ VV m.y ∧ VV m.z
theorem wm_self {m : M3} (h : VM m) : WM m m := ⟨⟨within_self h.1.1, within_self h.1.2.1, within_self h.1.2.2⟩, ⟨within_self h.2.1.1, within_self h.2.1.2.1, within_self h.2.1.2.2⟩, ⟨within_self h.2.2.1, within_self h.2.2.2.1, within_self h.2.2.2.2⟩⟩
theorem wv_self {v : V3} (h : VV v) : WV v v := ⟨within_self h.1, within_self h.2.1, within_self h.2.2⟩
theorem sinO_valid (a : Iv) : Valid (sinO a) := over_valid _ _ _ _ _
theorem cosO_valid (a : Iv) : Valid (cosO a) := over_valid _ _ _ _ _
theorem rot_valid {k : Int} {c s : Iv} (hc : Valid c) (hs : Valid s) : VM (rotM k c s) := by
  have h := rot_within (k := k) (within_self hc) (within_self hs)
  exact ⟨⟨h.1.1.1.1, h.1.2.1.1.1, h.1.2.2.1.1⟩, ⟨h.2.1.1.1.1, h.2.1.2.1.1.1, h.2.1.2.2.1.1⟩, ⟨h.2.2.1.1.1, h.2.2.2.1.1.1, h.2.2.2.2.1.1⟩⟩
theorem trn_valid (k : Int) (a : Iv) : VM (trnM k a) := by
  unfold trnM
  by_cases h : Valid a
  · rw [if_pos h]; exact rot_valid (cosO_valid a) (sinO_valid a)
  · rw [if_neg h]; exact ⟨⟨zero_valid, zero_valid, zero_valid⟩, ⟨zero_valid, zero_valid, zero_valid⟩, ⟨zero_valid, zero_valid, zero_valid⟩⟩
/-! A rotation by one angle. -/
theorem over_point {s n : Int} (h : Valid ⟨n, n⟩) : overS s ⟨n, n⟩ = sinA (n + s) := by
  have hv := sin_valid (n + s)
  have hr := sin_range (n + s)
  have hw := over_contains (s := s) (a := ⟨n, n⟩) (n := n) h (Int.le_refl _) (Int.le_refl _)
  have e := over_ends (t := 16384 - s) (b := 49152 - s) h (by dsimp only; omega) hv hv
  have top : Hits ⟨n, n⟩ (16384 - s) → sinA (n + s) = ⟨65536, 65536⟩ := fun ht => by
    obtain ⟨m, h1, h2, h3⟩ := hits_has ht
    dsimp only at h2 h3
    obtain rfl : m = n := by omega
    rw [sinA_of (a := m + s) (m := 16384) (by omega), turn_1 (by decide) (by decide)]
    exact q_top
  have bot : Hits ⟨n, n⟩ (49152 - s) → sinA (n + s) = ⟨-65536, -65536⟩ := fun ht => by
    obtain ⟨m, h1, h2, h3⟩ := hits_has ht
    dsimp only at h2 h3
    obtain rfl : m = n := by omega
    rw [sinA_of (a := m + s) (m := 49152) (by omega), turn_3 (by decide), show (65536 : Int) - 49152 = 16384 by decide, q_top]
    rfl
  obtain ⟨e1, e2⟩ := e
  unfold overS
  apply Iv.ext'
  · dsimp only at e1 ⊢
    rw [e1]
    by_cases h1 : Hits ⟨n, n⟩ (49152 - s)
    · rw [if_pos h1, bot h1]
      by_cases h2 : Hits ⟨n, n⟩ (16384 - s)
      · rw [if_pos h2]; decide
      · rw [if_neg h2]; decide
    · rw [if_neg h1]
      by_cases h2 : Hits ⟨n, n⟩ (16384 - s)
      · rw [if_pos h2, top h2]; decide
      · rw [if_neg h2]; omega
  · dsimp only at e2 ⊢
    rw [e2]
    by_cases h1 : Hits ⟨n, n⟩ (49152 - s)
    · rw [if_pos h1, bot h1]
      by_cases h2 : Hits ⟨n, n⟩ (16384 - s)
      · exfalso; have := top h2; rw [bot h1] at this; simp at this
      · rw [if_neg h2]; decide
    · rw [if_neg h1]
      by_cases h2 : Hits ⟨n, n⟩ (16384 - s)
      · rw [if_pos h2, top h2]; decide
      · rw [if_neg h2]; omega
theorem trn_point {k n : Int} (h1 : -2147483648 ≤ n) (h2 : n ≤ 2147483648) : trnM k (ofI n) = rotM k (cosA n) (sinA n) := by
  rw [ofI_id h1 h2]
  have hv : Valid ⟨n, n⟩ := ⟨h1, Int.le_refl _, h2⟩
  unfold trnM
  rw [if_pos hv, cosO_eq, sinO_eq, over_point hv, over_point hv, Int.add_zero, ← cosA_eq]
end Go.Proofs.Ytdplgiccpjlelaa
namespace Go.Proofs.Ytdplgiccpjlelaa
open Go.RowKit

/-! Numbers with a denominator, within intervals. -/
theorem clamp_le (x : Int) : clampI x ≤ max x (-2147483648) := by unfold clampI; omega
theorem clamp_ge (x : Int) : min x 2147483648 ≤ clampI x := by unfold clampI; omega
theorem lo_scale {x P F T : Int} (hF : 0 < F) (h : P * F ≤ T * 65536) (hb : -2147483648 * F ≤ T) (hx : x = P / 65536) : clampI x * F ≤ T := by
  have h1 := Int.mul_le_mul_of_nonneg_right (clamp_le x) (Int.le_of_lt hF)
  have h2 : x * 65536 ≤ P := by omega
  have h3 := Int.mul_le_mul_of_nonneg_right h2 (Int.le_of_lt hF)
  have h4 : x * 65536 * F = x * F * 65536 := by grind
  rcases Int.le_total x (-2147483648) with hc | hc
  · rw [Int.max_eq_right hc] at h1; omega
  · rw [Int.max_eq_left hc] at h1; omega
theorem hi_scale {x Q F T : Int} (hF : 0 < F) (h : T * 65536 ≤ Q * F) (hb : T ≤ 2147483648 * F) (hx : x = -(-Q / 65536)) : T ≤ clampI x * F := by
  have h1 := Int.mul_le_mul_of_nonneg_right (clamp_ge x) (Int.le_of_lt hF)
  have h2 : Q ≤ x * 65536 := by omega
  have h3 := Int.mul_le_mul_of_nonneg_right h2 (Int.le_of_lt hF)
  have h4 : x * 65536 * F = x * F * 65536 := by grind
  rcases Int.le_total x 2147483648 with hc | hc
  · rw [Int.min_eq_left hc] at h1; omega
  · rw [Int.min_eq_right hc] at h1; omega
theorem con_res {P Q T F : Int} (hF : 0 < F) (h1 : P * F ≤ T * 65536 * 65536) (h2 : T * 65536 * 65536 ≤ Q * F) (b1 : -32768 * F ≤ T) (b2 : T ≤ 32768 * F) : Con (resI P Q) T F :=
  ⟨lo_scale hF h1 (by omega) rfl, hi_scale hF h2 (by omega) rfl⟩
theorem con_mul {a b : Iv} {v u D E : Int} (ha : Valid a) (hb : Valid b) (hD : 0 < D) (hE : 0 < E) (h : Con a v D) (k : Con b u E) (b1 : -32768 * (D * E) ≤ v * u) (b2 : v * u ≤ 32768 * (D * E)) :
    Con (mulI a b) (v * u) (D * E) := by
  have hF : 0 < D * E := Int.mul_pos hD hE
  obtain ⟨c1, c2⟩ := corners h.1 h.2 k.1 k.2
  have s4 : ∀ p q : Int, p * D * (q * E) = p * q * (D * E) := fun p q => by grind
  rw [s4, s4, s4, s4] at c1 c2
  have e : v * 65536 * (u * 65536) = v * u * 65536 * 65536 := by grind
  rw [e] at c1 c2
  unfold min4 at c1
  unfold max4 at c2
  unfold mulI
  rw [when2_yes ha hb]
  have lo : ∀ p : Int, min4 (a.lo * b.lo) (a.lo * b.hi) (a.hi * b.lo) (a.hi * b.hi) ≤ p → min4 (a.lo * b.lo) (a.lo * b.hi) (a.hi * b.lo) (a.hi * b.hi) * (D * E) ≤ p * (D * E) := fun p hp => Int.mul_le_mul_of_nonneg_right hp (Int.le_of_lt hF)
  have hi : ∀ p : Int, p ≤ max4 (a.lo * b.lo) (a.lo * b.hi) (a.hi * b.lo) (a.hi * b.hi) → p * (D * E) ≤ max4 (a.lo * b.lo) (a.lo * b.hi) (a.hi * b.lo) (a.hi * b.hi) * (D * E) := fun p hp => Int.mul_le_mul_of_nonneg_right hp (Int.le_of_lt hF)
  refine con_res hF ?_ ?_ b1 b2
  · have l1 := lo (a.lo * b.lo) (by unfold min4; omega)
    have l2 := lo (a.lo * b.hi) (by unfold min4; omega)
    have l3 := lo (a.hi * b.lo) (by unfold min4; omega)
    have l4 := lo (a.hi * b.hi) (by unfold min4; omega)
    omega
  · have l1 := hi (a.lo * b.lo) (by unfold max4; omega)
    have l2 := hi (a.lo * b.hi) (by unfold max4; omega)
    have l3 := hi (a.hi * b.lo) (by unfold max4; omega)
    have l4 := hi (a.hi * b.hi) (by unfold max4; omega)
    omega
theorem con_lim {x y T F : Int} (hF : 0 < F) (h1 : x * F ≤ T) (h2 : T ≤ y * F) (b1 : -2147483648 * F ≤ T) (b2 : T ≤ 2147483648 * F) : clampI x * F ≤ T ∧ T ≤ clampI y * F := by
  have c1 := Int.mul_le_mul_of_nonneg_right (clamp_le x) (Int.le_of_lt hF)
  have c2 := Int.mul_le_mul_of_nonneg_right (clamp_ge y) (Int.le_of_lt hF)
  refine ⟨?_, ?_⟩
  · rcases Int.le_total x (-2147483648) with hc | hc
    · rw [Int.max_eq_right hc] at c1; omega
    · rw [Int.max_eq_left hc] at c1; omega
  · rcases Int.le_total y 2147483648 with hc | hc
    · rw [Int.min_eq_left hc] at c2; omega
    · rw [Int.min_eq_right hc] at c2; omega
theorem con_add {a b : Iv} {v u D : Int} (ha : Valid a) (hb : Valid b) (hD : 0 < D) (h : Con a v D) (k : Con b u D) (b1 : -32768 * D ≤ v + u) (b2 : v + u ≤ 32768 * D) : Con (addI a b) (v + u) D := by
  obtain ⟨h1, h2⟩ := h
  obtain ⟨k1, k2⟩ := k
  unfold addI
  rw [when2_yes ha hb]
  exact con_lim hD (by rw [Int.add_mul a.lo]; omega) (by rw [Int.add_mul a.hi]; omega) (by omega) (by omega)
theorem con_lim1 {a : Iv} {v D : Int} (hD : 0 < D) (h : Con a v D) (b1 : -D ≤ v) (b2 : v ≤ D) : Con (lim1 a) v D := by
  obtain ⟨h1, h2⟩ := h
  have m1 : max (-65536) (min a.lo 65536) ≤ max (-65536) a.lo := by omega
  have m2 : min 65536 a.hi ≤ max (-65536) (min a.hi 65536) := by omega
  have c1 := Int.mul_le_mul_of_nonneg_right m1 (Int.le_of_lt hD)
  have c2 := Int.mul_le_mul_of_nonneg_right m2 (Int.le_of_lt hD)
  refine ⟨?_, ?_⟩
  · show max (-65536) (min a.lo 65536) * D ≤ v * 65536
    rcases Int.le_total a.lo (-65536) with hc | hc
    · rw [Int.max_eq_left hc] at c1; omega
    · rw [Int.max_eq_right hc] at c1; omega
  · show v * 65536 ≤ max (-65536) (min a.hi 65536) * D
    rcases Int.le_total a.hi 65536 with hc | hc
    · rw [Int.min_eq_right hc] at c2; omega
    · rw [Int.min_eq_left hc] at c2; omega

/-! Vectors and matrices of numbers. -/
structure W3 where
  x : Int
  y : Int
  z : Int
structure R3 where
  x : W3
  y : W3
  z : W3
def dotN (r v : W3) : Int := r.x * v.x + r.y * v.y + r.z * v.z
def traN (m : R3) : R3 := ⟨⟨m.x.x, m.y.x, m.z.x⟩, ⟨m.x.y, m.y.y, m.z.y⟩, ⟨m.x.z, m.y.z, m.z.z⟩⟩
def appN (m : R3) (v : W3) : W3 := ⟨dotN m.x v, dotN m.y v, dotN m.z v⟩
def rowN (r : W3) (b : R3) : W3 := ⟨dotN r (traN b).x, dotN r (traN b).y, dotN r (traN b).z⟩
def comN (a b : R3) : R3 := ⟨rowN a.x b, rowN a.y b, rowN a.z b⟩
def ConV (a : V3) (v : W3) (D : Int) : Prop := Con a.x v.x D ∧ Con a.y v.y D ∧ Con a.z v.z D
def ConM (a : M3) (v : R3) (D : Int) : Prop := ConV a.x v.x D ∧ ConV a.y v.y D ∧ ConV a.z v.z D
/-- The entries are at most B. -/
def BdV (v : W3) (B : Int) : Prop := (-B ≤ v.x ∧ v.x ≤ B) ∧ (-B ≤ v.y ∧ v.y ≤ B) ∧ (-B ≤ v.z ∧ v.z ≤ B)
theorem con_dot {r v : V3} {p q : W3} {D E B C : Int} (hr : VV r) (hv : VV v) (hD : 0 < D) (hE : 0 < E) (h : ConV r p D) (k : ConV v q E) (hp : BdV p B) (hq : BdV q C) (hbc : 3 * (B * C) ≤ 32768 * (D * E)) :
    Con (dotV r v) (dotN p q) (D * E) := by
  have m1 := mul_bd hp.1.1 hp.1.2 hq.1.1 hq.1.2
  have m2 := mul_bd hp.2.1.1 hp.2.1.2 hq.2.1.1 hq.2.1.2
  have m3 := mul_bd hp.2.2.1 hp.2.2.2 hq.2.2.1 hq.2.2.2
  have hF : 0 < D * E := Int.mul_pos hD hE
  have c1 := con_mul hr.1 hv.1 hD hE h.1 k.1 (by omega) (by omega)
  have c2 := con_mul hr.2.1 hv.2.1 hD hE h.2.1 k.2.1 (by omega) (by omega)
  have c3 := con_mul hr.2.2 hv.2.2 hD hE h.2.2 k.2.2 (by omega) (by omega)
  exact con_add (valid_add _ _) (valid_mul _ _) hF (con_add (valid_mul _ _) (valid_mul _ _) hF c1 c2 (by omega) (by omega)) c3 (by omega) (by omega)
theorem VT {m : M3} (h : VM m) : VM (traM m) := ⟨⟨h.1.1, h.2.1.1, h.2.2.1⟩, ⟨h.1.2.1, h.2.1.2.1, h.2.2.2.1⟩, ⟨h.1.2.2, h.2.1.2.2, h.2.2.2.2⟩⟩
theorem con_tra {m : M3} {n : R3} {D : Int} (h : ConM m n D) : ConM (traM m) (traN n) D := ⟨⟨h.1.1, h.2.1.1, h.2.2.1⟩, ⟨h.1.2.1, h.2.1.2.1, h.2.2.2.1⟩, ⟨h.1.2.2, h.2.1.2.2, h.2.2.2.2⟩⟩
/-- A matrix of numbers whose rows are at right angles and of length D; so are its columns. -/
def OrthR (m : R3) (D : Int) : Prop := (dotN m.x m.x = D * D ∧ dotN m.y m.y = D * D ∧ dotN m.z m.z = D * D) ∧ (dotN m.x m.y = 0 ∧ dotN m.x m.z = 0 ∧ dotN m.y m.z = 0)
def Orth (m : R3) (D : Int) : Prop := OrthR m D ∧ OrthR (traN m) D
theorem dot_comm (a b : W3) : dotN a b = dotN b a := by unfold dotN; rw [Int.mul_comm a.x, Int.mul_comm a.y, Int.mul_comm a.z]
theorem sq_le_bd {x D : Int} (hD : 0 ≤ D) (h : x * x ≤ D * D) : -D ≤ x ∧ x ≤ D := by
  constructor
  · refine Int.not_lt.1 fun hc => ?_
    have := Int.mul_le_mul (a := D + 1) (b := D + 1) (c := -x) (d := -x) (by omega) (by omega) (by omega) (by omega)
    rw [Int.neg_mul_neg, Int.add_mul, Int.mul_add] at this
    omega
  · refine Int.not_lt.1 fun hc => ?_
    have := Int.mul_le_mul (a := D + 1) (b := D + 1) (c := x) (d := x) (by omega) (by omega) (by omega) (by omega)
    rw [Int.add_mul, Int.mul_add] at this
    omega
theorem dot_bd {r : W3} {D : Int} (hD : 0 ≤ D) (h : dotN r r = D * D) : BdV r D := by
  unfold dotN at h
  have a := sq_nonneg r.x
  have b := sq_nonneg r.y
  have c := sq_nonneg r.z
  exact ⟨sq_le_bd hD (by omega), sq_le_bd hD (by omega), sq_le_bd hD (by omega)⟩
/-- Rows times a matrix with orthogonal rows. -/
theorem dot_row (r s : W3) (b : R3) : dotN (rowN r b) (rowN s b) = r.x * s.x * dotN b.x b.x + r.y * s.y * dotN b.y b.y + r.z * s.z * dotN b.z b.z +
    ((r.x * s.y + r.y * s.x) * dotN b.x b.y + (r.x * s.z + r.z * s.x) * dotN b.x b.z + (r.y * s.z + r.z * s.y) * dotN b.y b.z) := by
  unfold rowN dotN traN
  dsimp only
  grind
theorem dot_orth {r s : W3} {b : R3} {E : Int} (h : OrthR b E) : dotN (rowN r b) (rowN s b) = dotN r s * (E * E) := by
  obtain ⟨⟨h1, h2, h3⟩, h4, h5, h6⟩ := h
  rw [dot_row, h1, h2, h3, h4, h5, h6]
  unfold dotN
  grind
theorem com_orthR {a b : R3} {D E : Int} (h : OrthR a D) (k : OrthR b E) : OrthR (comN a b) (D * E) := by
  obtain ⟨⟨h1, h2, h3⟩, h4, h5, h6⟩ := h
  have e : ∀ x : Int, x * x * (E * E) = x * E * (x * E) := fun x => by grind
  refine ⟨⟨?_, ?_, ?_⟩, ?_, ?_, ?_⟩
  · show dotN (rowN a.x b) (rowN a.x b) = _; rw [dot_orth k, h1, e]
  · show dotN (rowN a.y b) (rowN a.y b) = _; rw [dot_orth k, h2, e]
  · show dotN (rowN a.z b) (rowN a.z b) = _; rw [dot_orth k, h3, e]
  · show dotN (rowN a.x b) (rowN a.y b) = _; rw [dot_orth k, h4, Int.zero_mul]
  · show dotN (rowN a.x b) (rowN a.z b) = _; rw [dot_orth k, h5, Int.zero_mul]
  · show dotN (rowN a.y b) (rowN a.z b) = _; rw [dot_orth k, h6, Int.zero_mul]
theorem tra_com (a b : R3) : traN (comN a b) = comN (traN b) (traN a) := by
  unfold comN rowN
  simp only [traN, R3.mk.injEq, W3.mk.injEq]
  refine ⟨⟨?_, ?_, ?_⟩, ⟨?_, ?_, ?_⟩, ?_, ?_, ?_⟩ <;> exact dot_comm _ _
theorem com_orth {a b : R3} {D E : Int} (h : Orth a D) (k : Orth b E) : Orth (comN a b) (D * E) :=
  ⟨com_orthR h.1 k.1, by rw [tra_com, Int.mul_comm]; exact com_orthR k.2 h.2⟩
theorem com_valid (a b : M3) : VM (comM a b) := by
  have l : ∀ x : Iv, Valid x → Valid (lim1 x) := fun x h => (lim1_within (within_self h)).1.1
  have d : ∀ r v : V3, Valid (dotV r v) := fun r v => valid_add _ _
  exact ⟨⟨l _ (d _ _), l _ (d _ _), l _ (d _ _)⟩, ⟨l _ (d _ _), l _ (d _ _), l _ (d _ _)⟩, ⟨l _ (d _ _), l _ (d _ _), l _ (d _ _)⟩⟩
theorem orth_bd {m : R3} {D : Int} (hD : 0 < D) (h : OrthR m D) : BdV m.x D ∧ BdV m.y D ∧ BdV m.z D := ⟨dot_bd (Int.le_of_lt hD) h.1.1, dot_bd (Int.le_of_lt hD) h.1.2.1, dot_bd (Int.le_of_lt hD) h.1.2.2⟩
theorem con_row {r : V3} {b : M3} {p : W3} {q : R3} {D E : Int} (hr : VV r) (hb : VM b) (hD : 0 < D) (hE : 0 < E) (h : ConV r p D) (k : ConM b q E) (hp : dotN p p = D * D) (hq : OrthR q E) (hqt : OrthR (traN q) E) :
    ConV (rowM r b) (rowN p q) (D * E) := by
  have hF : 0 < D * E := Int.mul_pos hD hE
  have bp := dot_bd (Int.le_of_lt hD) hp
  obtain ⟨b1, b2, b3⟩ := orth_bd hE hqt
  have kt := con_tra k
  have vt := VT hb
  have bb : dotN (rowN p q) (rowN p q) = D * E * (D * E) := by rw [dot_orth hq, hp]; grind
  obtain ⟨⟨x1, x2⟩, ⟨y1, y2⟩, z1, z2⟩ := dot_bd (Int.le_of_lt hF) bb
  exact ⟨con_lim1 hF (con_dot hr vt.1 hD hE h kt.1 bp b1 (by omega)) x1 x2, con_lim1 hF (con_dot hr vt.2.1 hD hE h kt.2.1 bp b2 (by omega)) y1 y2, con_lim1 hF (con_dot hr vt.2.2 hD hE h kt.2.2 bp b3 (by omega)) z1 z2⟩
theorem con_com {a b : M3} {p q : R3} {D E : Int} (ha : VM a) (hb : VM b) (hD : 0 < D) (hE : 0 < E) (h : ConM a p D) (k : ConM b q E) (hp : Orth p D) (hq : Orth q E) : ConM (comM a b) (comN p q) (D * E) :=
  ⟨con_row ha.1 hb hD hE h.1 k hp.1.1.1 hq.1 hq.2, con_row ha.2.1 hb hD hE h.2.1 k hp.1.1.2.1 hq.1 hq.2, con_row ha.2.2 hb hD hE h.2.2 k hp.1.1.2.2 hq.1 hq.2⟩
theorem tra_tra (m : R3) : traN (traN m) = m := rfl
theorem orth_tra {m : R3} {D : Int} (h : Orth m D) : Orth (traN m) D := ⟨h.2, h.1⟩
theorem con_one {a : Iv} {D : Int} (ha : Valid a) (hD : 0 < D) (h : Con a D D) : Within oneI a := by
  obtain ⟨h1, h2⟩ := h
  have e : D * 65536 = 65536 * D := Int.mul_comm _ _
  rw [e] at h1 h2
  have l := Int.le_of_mul_le_mul_right h1 hD
  have r := Int.le_of_mul_le_mul_right h2 hD
  exact ⟨⟨one_valid, ha⟩, by unfold oneI; rw [of_one]; exact l, by unfold oneI; rw [of_one]; exact r⟩
theorem con_nil {a : Iv} {D : Int} (ha : Valid a) (hD : 0 < D) (h : Con a 0 D) : Within zeroI a := by
  obtain ⟨h1, h2⟩ := h
  have e : (0 : Int) * 65536 = 0 * D := by rw [Int.zero_mul, Int.zero_mul]
  rw [e] at h1 h2
  exact ⟨⟨zero_valid, ha⟩, Int.le_of_mul_le_mul_right h1 hD, Int.le_of_mul_le_mul_right h2 hD⟩
/-- A matrix of intervals that contains one with orthogonal rows, times its transpose. -/
theorem orth_unit {m : M3} {p : R3} {D : Int} (hm : VM m) (hD : 0 < D) (h : ConM m p D) (hp : Orth p D) : WM unitM (comM m (traM m)) := by
  have hF : 0 < D * D := Int.mul_pos hD hD
  have c := con_com hm (VT hm) hD hD h (con_tra h) hp (orth_tra hp)
  have v := com_valid m (traM m)
  obtain ⟨⟨h1, h2, h3⟩, h4, h5, h6⟩ := hp.1
  have e : ∀ r s : W3, ∀ x : Int, dotN r s = x → dotN s r = x := fun r s x h => by rw [dot_comm]; exact h
  obtain ⟨⟨c1, c2, c3⟩, ⟨c4, c5, c6⟩, c7, c8, c9⟩ := c
  replace c1 : Con _ (dotN p.x p.x) _ := c1
  replace c2 : Con _ (dotN p.x p.y) _ := c2
  replace c3 : Con _ (dotN p.x p.z) _ := c3
  replace c4 : Con _ (dotN p.y p.x) _ := c4
  replace c5 : Con _ (dotN p.y p.y) _ := c5
  replace c6 : Con _ (dotN p.y p.z) _ := c6
  replace c7 : Con _ (dotN p.z p.x) _ := c7
  replace c8 : Con _ (dotN p.z p.y) _ := c8
  replace c9 : Con _ (dotN p.z p.z) _ := c9
  rw [h1] at c1
  rw [h2] at c5
  rw [h3] at c9
  rw [h4] at c2
  rw [h5] at c3
  rw [h6] at c6
  rw [dot_comm, h4] at c4
  rw [dot_comm, h5] at c7
  rw [dot_comm, h6] at c8
  exact ⟨⟨con_one v.1.1 hF c1, con_nil v.1.2.1 hF c2, con_nil v.1.2.2 hF c3⟩, ⟨con_nil v.2.1.1 hF c4, con_one v.2.1.2.1 hF c5, con_nil v.2.1.2.2 hF c6⟩, ⟨con_nil v.2.2.1 hF c7, con_nil v.2.2.2.1 hF c8, con_one v.2.2.2.2 hF c9⟩⟩
end Go.Proofs.Ytdplgiccpjlelaa
namespace Go.Proofs.Ytdplgiccpjlelaa
open Go.RowKit

/-! A rotation about an axis, in numbers. -/
def rotN (k : Int) (C S D : Int) : R3 :=
  if k = 0 then ⟨⟨D, 0, 0⟩, ⟨0, C, -S⟩, ⟨0, S, C⟩⟩ else
  if k = 1 then ⟨⟨C, 0, S⟩, ⟨0, D, 0⟩, ⟨-S, 0, C⟩⟩ else ⟨⟨C, -S, 0⟩, ⟨S, C, 0⟩, ⟨0, 0, D⟩⟩
theorem con_oneI {D : Int} : Con oneI D D := by unfold Con oneI; rw [of_one]; dsimp only; omega
theorem con_zeroI {D : Int} : Con zeroI 0 D := by unfold Con zeroI; dsimp only; omega
theorem rot_orth {k C S D : Int} (h : C * C + S * S = D * D) : Orth (rotN k C S D) D := by
  unfold rotN
  by_cases h0 : k = 0
  · rw [if_pos h0]
    refine ⟨⟨⟨?_, ?_, ?_⟩, ?_, ?_, ?_⟩, ⟨⟨?_, ?_, ?_⟩, ?_, ?_, ?_⟩⟩ <;> (unfold dotN <;> simp only [traN] <;> grind)
  · rw [if_neg h0]
    by_cases h1 : k = 1
    · rw [if_pos h1]
      refine ⟨⟨⟨?_, ?_, ?_⟩, ?_, ?_, ?_⟩, ⟨⟨?_, ?_, ?_⟩, ?_, ?_, ?_⟩⟩ <;> (unfold dotN <;> simp only [traN] <;> grind)
    · rw [if_neg h1]
      refine ⟨⟨⟨?_, ?_, ?_⟩, ?_, ?_, ?_⟩, ⟨⟨?_, ?_, ?_⟩, ?_, ?_, ?_⟩⟩ <;> (unfold dotN <;> simp only [traN] <;> grind)
theorem con_rot {k : Int} {c s : Iv} {C S D : Int} (hk : k = 0 ∨ k = 1 ∨ k = 2) (hs : Valid s) (h : Con c C D) (h' : Con s S D) : ConM (rotM k c s) (rotN k C S D) D := by
  have n := con_neg hs h'
  unfold rotM rotN
  by_cases h0 : k = 0
  · rw [if_pos h0, if_pos h0]; exact ⟨⟨con_oneI, con_zeroI, con_zeroI⟩, ⟨con_zeroI, h, n⟩, ⟨con_zeroI, h', h⟩⟩
  · rw [if_neg h0, if_neg h0]
    by_cases h1 : k = 1
    · rw [if_pos h1, if_pos h1]; exact ⟨⟨h, con_zeroI, h'⟩, ⟨con_zeroI, con_oneI, con_zeroI⟩, ⟨n, con_zeroI, h⟩⟩
    · rw [if_neg h1, if_neg h1, if_pos (by omega)]; exact ⟨⟨h, n, con_zeroI⟩, ⟨h', h, con_zeroI⟩, ⟨con_zeroI, con_zeroI, con_oneI⟩⟩
/-- A rotation by intervals contains an orthogonal matrix of numbers. -/
theorem trn_con {k n : Int} (hk : k = 0 ∨ k = 1 ∨ k = 2) (h1 : -2147483648 ≤ n) (h2 : n ≤ 2147483648) : ∃ p D, 0 < D ∧ Orth p D ∧ ConM (trnM k (ofI n)) p D := by
  obtain ⟨C, S, D, hD, e, hc, hs⟩ := rot_all n
  rw [trn_point h1 h2]
  exact ⟨rotN k C S D, D, hD, rot_orth e, con_rot hk (sin_valid _) hc hs⟩
theorem orthogonal {j k m n : Int} (hj : j = 0 ∨ j = 1 ∨ j = 2) (hk : k = 0 ∨ k = 1 ∨ k = 2) (m1 : -2147483648 ≤ m) (m2 : m ≤ 2147483648) (n1 : -2147483648 ≤ n) (n2 : n ≤ 2147483648) :
    WM unitM (comM (comM (trnM j (ofI m)) (trnM k (ofI n))) (traM (comM (trnM j (ofI m)) (trnM k (ofI n))))) ∧
    WM unitM (comM (traM (comM (trnM j (ofI m)) (trnM k (ofI n)))) (comM (trnM j (ofI m)) (trnM k (ofI n)))) := by
  obtain ⟨p, D, hD, hp, cp⟩ := trn_con (k := j) hj m1 m2
  obtain ⟨q, E, hE, hq, cq⟩ := trn_con (k := k) hk n1 n2
  have c := con_com (trn_valid _ _) (trn_valid _ _) hD hE cp cq hp hq
  have o := com_orth hp hq
  have v := com_valid (trnM j (ofI m)) (trnM k (ofI n))
  have hF := Int.mul_pos hD hE
  refine ⟨orth_unit v hF c o, ?_⟩
  have h := orth_unit (m := traM (comM (trnM j (ofI m)) (trnM k (ofI n)))) (VT v) hF (con_tra c) (orth_tra o)
  exact h
/-! Lengths. -/
theorem con_sqr {a : Iv} {v D : Int} (ha : Valid a) (hD : 0 < D) (h : Con a v D) (b : v * v ≤ 32768 * (D * D)) : Con (sqrI a) (v * v) (D * D) := by
  have hF : 0 < D * D := Int.mul_pos hD hD
  have hv := sq_nonneg v
  have hs := sq_bounds (a := ⟨a.lo * D, a.hi * D⟩) h.1 h.2
  have e : v * 65536 * (v * 65536) = v * v * 65536 * 65536 := by grind
  have s2 : ∀ p : Int, p * D * (p * D) = p * p * (D * D) := fun p => by grind
  rw [sqrI_eq ha]
  rw [e] at hs
  unfold sqLo sqHi at hs ⊢
  dsimp only at hs
  rw [s2, s2] at hs
  have pos : ∀ p : Int, (p * D ≤ 0 ↔ p ≤ 0) ∧ (0 ≤ p * D ↔ 0 ≤ p) := fun p => by
    refine ⟨⟨fun h => ?_, fun h => ?_⟩, ⟨fun h => ?_, fun h => ?_⟩⟩
    · have e0 : (0 : Int) * D = 0 := Int.zero_mul _
      exact Int.le_of_mul_le_mul_right (by rw [e0]; exact h) hD
    · exact Int.mul_nonpos_of_nonpos_of_nonneg h (Int.le_of_lt hD)
    · have e0 : (0 : Int) * D = 0 := Int.zero_mul _
      exact Int.le_of_mul_le_mul_right (by rw [e0]; exact h) hD
    · exact Int.mul_nonneg h (Int.le_of_lt hD)
  have mn : ∀ x y z : Int, x ≤ y → x ≤ z → min y z * (D * D) = min (y * (D * D)) (z * (D * D)) := fun x y z _ _ => by
    rcases Int.le_total y z with hc | hc
    · rw [Int.min_eq_left hc, Int.min_eq_left (Int.mul_le_mul_of_nonneg_right hc (Int.le_of_lt hF))]
    · rw [Int.min_eq_right hc, Int.min_eq_right (Int.mul_le_mul_of_nonneg_right hc (Int.le_of_lt hF))]
  have mx : ∀ y z : Int, max y z * (D * D) = max (y * (D * D)) (z * (D * D)) := fun y z => by
    rcases Int.le_total y z with hc | hc
    · rw [Int.max_eq_right hc, Int.max_eq_right (Int.mul_le_mul_of_nonneg_right hc (Int.le_of_lt hF))]
    · rw [Int.max_eq_left hc, Int.max_eq_left (Int.mul_le_mul_of_nonneg_right hc (Int.le_of_lt hF))]
  refine con_res hF ?_ ?_ (by omega) b
  · by_cases hc : a.lo ≤ 0 ∧ 0 ≤ a.hi
    · rw [if_pos hc, Int.zero_mul]; omega
    · rw [if_neg hc, mn (min (a.lo * a.lo) (a.hi * a.hi)) _ _ (Int.min_le_left _ _) (Int.min_le_right _ _)]
      rw [if_neg (fun h => hc ⟨(pos _).1.1 h.1, (pos _).2.1 h.2⟩)] at hs
      exact hs.1
  · rw [mx]; exact hs.2
def sqrV (v : V3) : Iv := addI (addI (sqrI v.x) (sqrI v.y)) (sqrI v.z)
theorem con_sqrV {v : V3} {p : W3} {D B : Int} (hv : VV v) (hD : 0 < D) (h : ConV v p D) (hb : BdV p B) (hB : 3 * (B * B) ≤ 32768 * (D * D)) : Con (sqrV v) (dotN p p) (D * D) := by
  have hF : 0 < D * D := Int.mul_pos hD hD
  have a := sq_nonneg p.x
  have b := sq_nonneg p.y
  have c := sq_nonneg p.z
  have a' := (mul_bd hb.1.1 hb.1.2 hb.1.1 hb.1.2).2
  have b' := (mul_bd hb.2.1.1 hb.2.1.2 hb.2.1.1 hb.2.1.2).2
  have c' := (mul_bd hb.2.2.1 hb.2.2.2 hb.2.2.1 hb.2.2.2).2
  exact con_add (valid_add _ _) (valid_sqr _) hF (con_add (valid_sqr _) (valid_sqr _) hF (con_sqr hv.1 hD h.1 (by omega)) (con_sqr hv.2.1 hD h.2.1 (by omega)) (by omega) (by omega)) (con_sqr hv.2.2 hD h.2.2 (by omega)) (by omega) (by omega)
theorem con_ofI {x : Int} (h1 : -2147483648 ≤ x) (h2 : x ≤ 2147483648) : Con (ofI x) x 65536 := by
  rw [ofI_id h1 h2]; exact ⟨Int.le_refl _, Int.le_refl _⟩
theorem con_scale {a : Iv} {v D F : Int} (hF : 0 < F) (h : Con a (v * F) (D * F)) : Con a v D := by
  obtain ⟨h1, h2⟩ := h
  have e1 : ∀ x : Int, x * (D * F) = x * D * F := fun x => by grind
  have e2 : v * F * 65536 = v * 65536 * F := by grind
  rw [e1, e2] at h1 h2
  exact ⟨Int.le_of_mul_le_mul_right h1 hF, Int.le_of_mul_le_mul_right h2 hF⟩
theorem con_meets {a b : Iv} {v D : Int} (ha : Valid a) (hb : Valid b) (hD : 0 < D) (h : Con a v D) (k : Con b v D) : meets a b := by
  have h1 := Int.le_of_mul_le_mul_right (Int.le_trans h.1 k.2) hD
  have h2 := Int.le_of_mul_le_mul_right (Int.le_trans k.1 h.2) hD
  obtain ⟨_, ha2, _⟩ := id ha
  obtain ⟨_, hb2, _⟩ := id hb
  exact ⟨⟨ha, hb⟩, by omega⟩
theorem app_dot (m : R3) (v : W3) : dotN (appN m v) (appN m v) = v.x * v.x * dotN (traN m).x (traN m).x + v.y * v.y * dotN (traN m).y (traN m).y + v.z * v.z * dotN (traN m).z (traN m).z +
    (2 * (v.x * v.y) * dotN (traN m).x (traN m).y + 2 * (v.x * v.z) * dotN (traN m).x (traN m).z + 2 * (v.y * v.z) * dotN (traN m).y (traN m).z) := by
  unfold appN dotN traN
  dsimp only
  grind
theorem app_orth {m : R3} {v : W3} {D : Int} (h : Orth m D) : dotN (appN m v) (appN m v) = dotN v v * (D * D) := by
  obtain ⟨⟨h1, h2, h3⟩, h4, h5, h6⟩ := h.2
  rw [app_dot, h1, h2, h3, h4, h5, h6]
  unfold dotN
  grind
theorem length_same {k n x y z : Int} (hk : k = 0 ∨ k = 1 ∨ k = 2) (n1 : -2147483648 ≤ n) (n2 : n ≤ 2147483648)
    (x1 : -327680 ≤ x) (x2 : x ≤ 327680) (y1 : -327680 ≤ y) (y2 : y ≤ 327680) (z1 : -327680 ≤ z) (z2 : z ≤ 327680) :
    meets (sqrV (pntV x y z)) (sqrV (appM (trnM k (ofI n)) (pntV x y z))) := by
  obtain ⟨p, D, hD, hp, cp⟩ := trn_con (k := k) hk n1 n2
  have vm := trn_valid k (ofI n)
  have ox : ∀ t : Int, -327680 ≤ t → t ≤ 327680 → Valid (ofI t) := fun t h1 h2 => by rw [ofI_id (by omega) (by omega)]; exact ⟨by dsimp only; omega, Int.le_refl _, by dsimp only; omega⟩
  have vv : VV (pntV x y z) := ⟨ox x x1 x2, ox y y1 y2, ox z z1 z2⟩
  have cv : ConV (pntV x y z) ⟨x, y, z⟩ 65536 := ⟨con_ofI (by omega) (by omega), con_ofI (by omega) (by omega), con_ofI (by omega) (by omega)⟩
  have bv : BdV ⟨x, y, z⟩ 327680 := ⟨⟨x1, x2⟩, ⟨y1, y2⟩, ⟨z1, z2⟩⟩
  obtain ⟨b1, b2, b3⟩ := orth_bd hD hp.1
  have six : (0 : Int) < 65536 := by decide
  have cw : ConV (appM (trnM k (ofI n)) (pntV x y z)) (appN p ⟨x, y, z⟩) (D * 65536) :=
    ⟨con_dot vm.1 vv hD six cp.1 cv b1 bv (by omega), con_dot vm.2.1 vv hD six cp.2.1 cv b2 bv (by omega), con_dot vm.2.2 vv hD six cp.2.2 cv b3 bv (by omega)⟩
  have vw : VV (appM (trnM k (ofI n)) (pntV x y z)) := ⟨valid_add _ _, valid_add _ _, valid_add _ _⟩
  have d3 : ∀ q : W3, BdV q D → -(983040 * D) ≤ dotN q ⟨x, y, z⟩ ∧ dotN q ⟨x, y, z⟩ ≤ 983040 * D := fun q hq => by
    have m1 := mul_bd hq.1.1 hq.1.2 x1 x2
    have m2 := mul_bd hq.2.1.1 hq.2.1.2 y1 y2
    have m3 := mul_bd hq.2.2.1 hq.2.2.2 z1 z2
    unfold dotN
    dsimp only
    omega
  have bw : BdV (appN p ⟨x, y, z⟩) (983040 * D) := ⟨d3 _ b1, d3 _ b2, d3 _ b3⟩
  have hq := Int.mul_pos hD hD
  have s1 := con_sqrV vv six cv bv (by decide)
  have s2 := con_sqrV vw (Int.mul_pos hD six) cw bw (by
    have e : 983040 * D * (983040 * D) = 966367641600 * (D * D) := by grind
    have f : D * 65536 * (D * 65536) = 4294967296 * (D * D) := by grind
    rw [e, f]
    omega)
  rw [app_orth hp] at s2
  have f : D * 65536 * (D * 65536) = 65536 * 65536 * (D * D) := by grind
  rw [f] at s2
  have s3 := con_scale hq s2
  exact con_meets (valid_add _ _) (valid_add _ _) (by decide) s1 s3
end Go.Proofs.Ytdplgiccpjlelaa
namespace Go.Proofs.Ytdplgiccpjlelaa
open Go.RowKit

/-! Units, zeros and signs. -/
theorem zero_of : zeroI = ofI 0 := by rw [ofI_id (by decide) (by decide)]; rfl
theorem add_zero_r {a : Iv} (h : Valid a) : addI a zeroI = a := by rw [zero_of]; exact add_zero_I h
theorem add_comm_I (a b : Iv) : addI a b = addI b a := by
  unfold addI when2
  by_cases h : Valid a ∧ Valid b
  · rw [if_pos h, if_pos ⟨h.2, h.1⟩, Int.add_comm a.lo, Int.add_comm a.hi]
  · rw [if_neg h, if_neg (fun k => h ⟨k.2, k.1⟩)]
theorem add_zero_l {a : Iv} (h : Valid a) : addI zeroI a = a := by rw [add_comm_I, add_zero_r h]
theorem mul_zero_r {a : Iv} (h : Valid a) : mulI a zeroI = zeroI := by
  unfold mulI
  rw [when2_yes h zero_valid]
  show resI (min4 (a.lo * 0) (a.lo * 0) (a.hi * 0) (a.hi * 0)) (max4 (a.lo * 0) (a.lo * 0) (a.hi * 0) (a.hi * 0)) = zeroI
  rw [Int.mul_zero, Int.mul_zero]
  rfl
theorem mul_zero_l {a : Iv} (h : Valid a) : mulI zeroI a = zeroI := by rw [mul_comm_I, mul_zero_r h]
theorem lim1_zero : lim1 zeroI = zeroI := rfl
theorem lim1_one : lim1 oneI = oneI := by unfold oneI; rw [of_one]; rfl
theorem one_one : mulI oneI oneI = oneI := mul_one_r one_valid
theorem clamp_negI (x : Int) : clampI (-x) = -clampI x := by unfold clampI; omega
theorem res_neg (x y : Int) : resI (-y) (-x) = ⟨-(resI x y).hi, -(resI x y).lo⟩ := by
  unfold resI limI
  dsimp only
  rw [← clamp_negI, ← clamp_negI, Int.neg_neg, Int.neg_neg]
theorem mul_neg_l {a b : Iv} (ha : Valid a) (hb : Valid b) : mulI (negI a) b = negI (mulI a b) := by
  have hv := valid_mul a b
  apply Iv.ext'
  · rw [neg_lo hv]
    unfold mulI
    rw [when2_yes (valid_neg a) hb, when2_yes ha hb, neg_lo ha, neg_hi ha]
    have h := res_neg (min4 (a.lo * b.lo) (a.lo * b.hi) (a.hi * b.lo) (a.hi * b.hi)) (max4 (a.lo * b.lo) (a.lo * b.hi) (a.hi * b.lo) (a.hi * b.hi))
    have e1 : min4 (-a.hi * b.lo) (-a.hi * b.hi) (-a.lo * b.lo) (-a.lo * b.hi) = -max4 (a.lo * b.lo) (a.lo * b.hi) (a.hi * b.lo) (a.hi * b.hi) := by
      rw [Int.neg_mul, Int.neg_mul, Int.neg_mul, Int.neg_mul]; unfold min4 max4; omega
    have e2 : max4 (-a.hi * b.lo) (-a.hi * b.hi) (-a.lo * b.lo) (-a.lo * b.hi) = -min4 (a.lo * b.lo) (a.lo * b.hi) (a.hi * b.lo) (a.hi * b.hi) := by
      rw [Int.neg_mul, Int.neg_mul, Int.neg_mul, Int.neg_mul]; unfold min4 max4; omega
    rw [e1, e2, h]
  · rw [neg_hi hv]
    unfold mulI
    rw [when2_yes (valid_neg a) hb, when2_yes ha hb, neg_lo ha, neg_hi ha]
    have h := res_neg (min4 (a.lo * b.lo) (a.lo * b.hi) (a.hi * b.lo) (a.hi * b.hi)) (max4 (a.lo * b.lo) (a.lo * b.hi) (a.hi * b.lo) (a.hi * b.hi))
    have e1 : min4 (-a.hi * b.lo) (-a.hi * b.hi) (-a.lo * b.lo) (-a.lo * b.hi) = -max4 (a.lo * b.lo) (a.lo * b.hi) (a.hi * b.lo) (a.hi * b.hi) := by
      rw [Int.neg_mul, Int.neg_mul, Int.neg_mul, Int.neg_mul]; unfold min4 max4; omega
    have e2 : max4 (-a.hi * b.lo) (-a.hi * b.hi) (-a.lo * b.lo) (-a.lo * b.hi) = -min4 (a.lo * b.lo) (a.lo * b.hi) (a.hi * b.lo) (a.hi * b.hi) := by
      rw [Int.neg_mul, Int.neg_mul, Int.neg_mul, Int.neg_mul]; unfold min4 max4; omega
    rw [e1, e2, h]
theorem mul_neg_r {a b : Iv} (ha : Valid a) (hb : Valid b) : mulI a (negI b) = negI (mulI a b) := by rw [mul_comm_I, mul_neg_l hb ha, mul_comm_I]
theorem add_neg_r {a b : Iv} (ha : Valid a) (hb : Valid b) : addI a (negI b) = subI a b := by
  unfold addI subI
  rw [when2_yes ha (valid_neg b), when2_yes ha hb, neg_lo hb, neg_hi hb, Int.sub_eq_add_neg, Int.sub_eq_add_neg]
theorem add_negs {a b : Iv} (ha : Valid a) (hb : Valid b) : addI (negI a) (negI b) = negI (addI a b) := by
  have hv := valid_add a b
  have e : addI (negI a) (negI b) = limI (-(a.hi + b.hi)) (-(a.lo + b.lo)) := by
    unfold addI
    rw [when2_yes (valid_neg a) (valid_neg b), neg_lo ha, neg_lo hb, neg_hi ha, neg_hi hb, Int.neg_add, Int.neg_add]
  rw [e]
  apply Iv.ext'
  · rw [neg_lo hv]
    unfold addI limI
    rw [when2_yes ha hb]
    exact clamp_negI _
  · rw [neg_hi hv]
    unfold addI limI
    rw [when2_yes ha hb]
    exact clamp_negI _
/-! Meeting. -/
theorem meets_neg {a b : Iv} (h : meets a b) : meets (negI a) (negI b) := by
  obtain ⟨⟨ha, hb⟩, h⟩ := h
  refine ⟨⟨valid_neg a, valid_neg b⟩, ?_⟩
  rw [neg_lo ha, neg_lo hb, neg_hi ha, neg_hi hb]
  omega
theorem meets_lim1 {x y : Iv} (h : meets x y) (h1 : -65536 ≤ x.lo) (h2 : x.hi ≤ 65536) : meets (lim1 y) x := by
  obtain ⟨⟨⟨hx1, hx2, hx3⟩, ⟨hy1, hy2, hy3⟩⟩, h⟩ := h
  unfold meets Valid lim1
  dsimp only
  omega
theorem meets_self {x : Iv} (h : Valid x) : meets x x := by
  obtain ⟨_, h2, _⟩ := id h
  exact ⟨⟨h, h⟩, by omega⟩
/-- All entries meet. -/
def MV (a b : V3) : Prop := meets a.x b.x ∧ meets a.y b.y ∧ meets a.z b.z
def MM (a b : M3) : Prop := MV a.x b.x ∧ MV a.y b.y ∧ MV a.z b.z
theorem rot_adds {k : Int} (hk : k = 0 ∨ k = 1 ∨ k = 2) (a b : Int) : MM (comM (rotM k (cosA a) (sinA a)) (rotM k (cosA b) (sinA b))) (rotM k (cosA (a + b)) (sinA (a + b))) := by
  have c1 := cos_valid a
  have c2 := cos_valid b
  have s1 := sin_valid a
  have s2 := sin_valid b
  have n1 := valid_neg (sinA a)
  have n2 := valid_neg (sinA b)
  have o := one_valid
  have z := zero_valid
  obtain ⟨r1, _, r2, _⟩ := cos_range (a + b)
  obtain ⟨r3, _, r4, _⟩ := sin_range (a + b)
  have sv := sin_valid (a + b)
  have mc := cos_adds a b
  have ms := sin_adds a b
  have r5 : -65536 ≤ (negI (sinA (a + b))).lo := by rw [neg_lo sv]; omega
  have r6 : (negI (sinA (a + b))).hi ≤ 65536 := by rw [neg_hi sv]; omega
  have mn := meets_neg ms
  -- cos cos + (-sin) sin, (-sin) sin + cos cos, and so on
  have e1 : addI (mulI (cosA a) (cosA b)) (mulI (negI (sinA a)) (sinA b)) = subI (mulI (cosA a) (cosA b)) (mulI (sinA a) (sinA b)) := by rw [mul_neg_l s1 s2, add_neg_r (valid_mul _ _) (valid_mul _ _)]
  have e2 : addI (mulI (sinA a) (negI (sinA b))) (mulI (cosA a) (cosA b)) = subI (mulI (cosA a) (cosA b)) (mulI (sinA a) (sinA b)) := by rw [mul_neg_r s1 s2, add_comm_I, add_neg_r (valid_mul _ _) (valid_mul _ _)]
  have e3 : addI (mulI (cosA a) (negI (sinA b))) (mulI (negI (sinA a)) (cosA b)) = negI (addI (mulI (sinA a) (cosA b)) (mulI (cosA a) (sinA b))) := by rw [mul_neg_r c1 s2, mul_neg_l s1 c2, add_negs (valid_mul _ _) (valid_mul _ _), add_comm_I]
  have e4 : addI (mulI (sinA a) (cosA b)) (mulI (cosA a) (sinA b)) = addI (mulI (sinA a) (cosA b)) (mulI (cosA a) (sinA b)) := rfl
  have e5 : addI (mulI (cosA a) (cosA b)) (mulI (sinA a) (negI (sinA b))) = subI (mulI (cosA a) (cosA b)) (mulI (sinA a) (sinA b)) := by rw [mul_neg_r s1 s2, add_neg_r (valid_mul _ _) (valid_mul _ _)]
  have e6 : addI (mulI (cosA a) (sinA b)) (mulI (sinA a) (cosA b)) = addI (mulI (sinA a) (cosA b)) (mulI (cosA a) (sinA b)) := add_comm_I _ _
  have e7 : addI (mulI (negI (sinA a)) (cosA b)) (mulI (cosA a) (negI (sinA b))) = negI (addI (mulI (sinA a) (cosA b)) (mulI (cosA a) (sinA b))) := by rw [mul_neg_r c1 s2, mul_neg_l s1 c2, add_negs (valid_mul _ _) (valid_mul _ _)]
  have e8 : addI (mulI (negI (sinA a)) (sinA b)) (mulI (cosA a) (cosA b)) = subI (mulI (cosA a) (cosA b)) (mulI (sinA a) (sinA b)) := by rw [mul_neg_l s1 s2, add_comm_I, add_neg_r (valid_mul _ _) (valid_mul _ _)]
  have C := meets_lim1 mc r1 r2
  have S := meets_lim1 ms r3 r4
  have N := meets_lim1 mn r5 r6
  have O := meets_self o
  have Z := meets_self z
  have zz := mul_zero_r z
  have za := add_zero_l z
  unfold rotM
  rcases hk with h | h | h
  · subst h
    rw [if_pos rfl, if_pos rfl, if_pos rfl]
    unfold comM rowM dotV traM
    dsimp only
    refine ⟨⟨?_, ?_, ?_⟩, ⟨?_, ?_, ?_⟩, ?_, ?_, ?_⟩
    all_goals dsimp only
    · rw [one_one, zz, add_zero_r o, add_zero_r o, lim1_one]; exact O
    · rw [mul_zero_r o, mul_zero_l c2, za, mul_zero_l s2, za, lim1_zero]; exact Z
    · rw [mul_zero_r o, mul_zero_l n2, za, mul_zero_l c2, za, lim1_zero]; exact Z
    · rw [mul_zero_l o, mul_zero_r c1, za, mul_zero_r n1, za, lim1_zero]; exact Z
    · rw [zz, add_zero_l (valid_mul _ _), e1]; exact C
    · rw [zz, add_zero_l (valid_mul _ _), e3]; exact N
    · rw [mul_zero_l o, mul_zero_r s1, za, mul_zero_r c1, za, lim1_zero]; exact Z
    · rw [zz, add_zero_l (valid_mul _ _)]; exact S
    · rw [zz, add_zero_l (valid_mul _ _), e2]; exact C
  · subst h
    rw [if_neg (by decide), if_pos rfl, if_neg (by decide), if_pos rfl, if_neg (by decide), if_pos rfl]
    unfold comM rowM dotV traM
    dsimp only
    refine ⟨⟨?_, ?_, ?_⟩, ⟨?_, ?_, ?_⟩, ?_, ?_, ?_⟩
    all_goals dsimp only
    · rw [zz, add_zero_r (valid_mul _ _), e5]; exact C
    · rw [mul_zero_r c1, mul_zero_l o, za, mul_zero_r s1, za, lim1_zero]; exact Z
    · rw [zz, add_zero_r (valid_mul _ _), e6]; exact S
    · rw [mul_zero_l c2, mul_zero_r o, za, mul_zero_l n2, za, lim1_zero]; exact Z
    · rw [zz, one_one, add_zero_l o, add_zero_r o, lim1_one]; exact O
    · rw [mul_zero_l s2, mul_zero_r o, za, mul_zero_l c2, za, lim1_zero]; exact Z
    · rw [zz, add_zero_r (valid_mul _ _), e7]; exact N
    · rw [mul_zero_r n1, mul_zero_l o, za, mul_zero_r c1, za, lim1_zero]; exact Z
    · rw [zz, add_zero_r (valid_mul _ _), e8]; exact C
  · subst h
    rw [if_neg (by decide), if_neg (by decide), if_pos rfl, if_neg (by decide), if_neg (by decide), if_pos rfl, if_neg (by decide), if_neg (by decide), if_pos rfl]
    unfold comM rowM dotV traM
    dsimp only
    refine ⟨⟨?_, ?_, ?_⟩, ⟨?_, ?_, ?_⟩, ?_, ?_, ?_⟩
    all_goals dsimp only
    · rw [zz, add_zero_r (valid_add _ _), e1]; exact C
    · rw [zz, add_zero_r (valid_add _ _), e3]; exact N
    · rw [mul_zero_r c1, mul_zero_r n1, za, mul_zero_l o, za, lim1_zero]; exact Z
    · rw [zz, add_zero_r (valid_add _ _)]; exact S
    · rw [zz, add_zero_r (valid_add _ _), e2]; exact C
    · rw [mul_zero_r s1, mul_zero_r c1, za, mul_zero_l o, za, lim1_zero]; exact Z
    · rw [mul_zero_l c2, mul_zero_l s2, za, mul_zero_r o, za, lim1_zero]; exact Z
    · rw [mul_zero_l n2, mul_zero_l c2, za, mul_zero_r o, za, lim1_zero]; exact Z
    · rw [zz, za, one_one, add_zero_l o, lim1_one]; exact O
/-! Quarters of a turn. -/
def minusI : Iv := ⟨-65536, -65536⟩
theorem minus_valid : Valid minusI := by decide
theorem minus_neg : minusI = negI oneI := by unfold oneI minusI; rw [of_one]; rfl
theorem mul_minus {a : Iv} (h : Valid a) : mulI minusI a = negI a := by rw [minus_neg, mul_neg_l one_valid h]; congr 1; exact mul_one_l h
theorem sin_quarter : sinA 16384 = oneI := by rw [sin_q0 (by decide) (by decide), q_top]; unfold oneI; rw [of_one]
theorem cos_quarter : cosA 16384 = zeroI := by rw [cosA_eq, sin_q1 (by decide) (by decide), show (32768 : Int) - (16384 + 16384) = 0 by decide, q_zero]; rfl
theorem sin_halfturn : sinA 32768 = zeroI := by rw [sin_q1 (by decide) (by decide), show (32768 : Int) - 32768 = 0 by decide, q_zero]; rfl
theorem cos_halfturn : cosA 32768 = minusI := by rw [cosA_eq, sin_q2 (by decide) (by decide), show (32768 : Int) + 16384 - 32768 = 16384 by decide, q_top]; rfl
theorem quarter_eq (k : Int) : trnM k (ofI 16384) = rotM k zeroI oneI := by rw [trn_point (by decide) (by decide), cos_quarter, sin_quarter]
theorem half_eq (k : Int) : trnM k (ofI 32768) = rotM k minusI zeroI := by rw [trn_point (by decide) (by decide), cos_halfturn, sin_halfturn]
theorem quarters {k : Int} (hk : k = 0 ∨ k = 1 ∨ k = 2) : comM (rotM k zeroI oneI) (rotM k zeroI oneI) = rotM k minusI zeroI ∧ comM (rotM k minusI zeroI) (rotM k minusI zeroI) = unitM := by
  rcases hk with h | h | h <;> subst h <;> exact ⟨by kernel_rfl, by kernel_rfl⟩
set_option linter.unusedSimpArgs false in
theorem half_half {k : Int} (hk : k = 0 ∨ k = 1 ∨ k = 2) {v : V3} (hv : VV v) : appM (rotM k minusI zeroI) (appM (rotM k minusI zeroI) v) = v := by
  have z := zero_valid
  have nz : negI zeroI = zeroI := rfl
  obtain ⟨h1, h2, h3⟩ := hv
  have nx := valid_neg v.x
  have ny := valid_neg v.y
  have nz3 := valid_neg v.z
  have m1 : ∀ a : Iv, Valid a → mulI oneI a = a := fun a h => mul_one_l h
  unfold rotM appM dotV
  rcases hk with h | h | h
  · subst h
    rw [if_pos rfl]
    simp only [nz, m1 _ h1, m1 _ h2, m1 _ h3, mul_zero_l h1, mul_zero_l h2, mul_zero_l h3, mul_zero_l nx, mul_zero_l ny, mul_zero_l nz3, mul_minus h1, mul_minus h2, mul_minus h3, mul_minus nx, mul_minus ny, mul_minus nz3, neg_neg_I h1, neg_neg_I h2, neg_neg_I h3, add_zero_l z, add_zero_l h1, add_zero_l h2, add_zero_l h3, add_zero_r h1, add_zero_r h2, add_zero_r h3, add_zero_l nx, add_zero_l ny, add_zero_l nz3, add_zero_r nx, add_zero_r ny, add_zero_r nz3]
  · subst h
    rw [if_neg (by decide), if_pos rfl]
    simp only [nz, m1 _ h1, m1 _ h2, m1 _ h3, mul_zero_l h1, mul_zero_l h2, mul_zero_l h3, mul_zero_l nx, mul_zero_l ny, mul_zero_l nz3, mul_minus h1, mul_minus h2, mul_minus h3, mul_minus nx, mul_minus ny, mul_minus nz3, neg_neg_I h1, neg_neg_I h2, neg_neg_I h3, add_zero_l z, add_zero_l h1, add_zero_l h2, add_zero_l h3, add_zero_r h1, add_zero_r h2, add_zero_r h3, add_zero_l nx, add_zero_l ny, add_zero_l nz3, add_zero_r nx, add_zero_r ny, add_zero_r nz3]
  · subst h
    rw [if_neg (by decide), if_neg (by decide), if_pos rfl]
    simp only [nz, m1 _ h1, m1 _ h2, m1 _ h3, mul_zero_l h1, mul_zero_l h2, mul_zero_l h3, mul_zero_l nx, mul_zero_l ny, mul_zero_l nz3, mul_minus h1, mul_minus h2, mul_minus h3, mul_minus nx, mul_minus ny, mul_minus nz3, neg_neg_I h1, neg_neg_I h2, neg_neg_I h3, add_zero_l z, add_zero_l h1, add_zero_l h2, add_zero_l h3, add_zero_r h1, add_zero_r h2, add_zero_r h3, add_zero_l nx, add_zero_l ny, add_zero_l nz3, add_zero_r nx, add_zero_r ny, add_zero_r nz3]
end Go.Proofs.Ytdplgiccpjlelaa
