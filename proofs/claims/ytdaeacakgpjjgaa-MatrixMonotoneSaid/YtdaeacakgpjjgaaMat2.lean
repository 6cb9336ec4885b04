/- Proved: plain arithmetic: a rotation by intervals and its transpose give a matrix that contains the identity. Conditions: as each theorem states. Nothing of the program is used. -/
import Derived.Test.YtdaeacakgpjjgaaMat1
import Derived.Test.YtdaeacakgpjjgaaAng7
namespace Go.Proofs.Ytdaeacakgpjjgaa
open Go.RowKit

/-! Numbers with a denominator, within intervals. -/
theorem clamp_le (x : Int) : clampI x ≤ max x (-2147483648) := by unfold clampI; omega
theorem clamp_ge (x : Int) : min x 2147483648 ≤ clampI x := by unfold clampI; omega
theorem lo_scale {x P F T : Int} (hF : 0 < F) (h : P * F ≤ T * 65536) (hb : -2147483648 * F ≤ T) (hx : x = P / 65536) : clampI x * F ≤ T := by
  have h1 := Int.mul_le_mul_of_nonneg_right (clamp_le x) (Int.le_of_lt hF)
  have h2 : x * 65536 ≤ P := by omega
  have h3 := Int.mul_le_mul_of_nonneg_right h2 (Int.le_of_lt hF)
  have h4 : x * 65536 * F = x * F * 65536 := by grind
  rcases Int.le_total x (-2147483648) with hc | hc
  · rw [Int.max_eq_right hc] at h1; omega
  · rw [Int.max_eq_left hc] at h1; omega
theorem hi_scale {x Q F T : Int} (hF : 0 < F) (h : T * 65536 ≤ Q * F) (hb : T ≤ 2147483648 * F) (hx : x = -(-Q / 65536)) : T ≤ clampI x * F := by
  have h1 := Int.mul_le_mul_of_nonneg_right (clamp_ge x) (Int.le_of_lt hF)
  have h2 : Q ≤ x * 65536 := by omega
  have h3 := Int.mul_le_mul_of_nonneg_right h2 (Int.le_of_lt hF)
  have h4 : x * 65536 * F = x * F * 65536 := by grind
  rcases Int.le_total x 2147483648 with hc | hc
  · rw [Int.min_eq_left hc] at h1; omega
  · rw [Int.min_eq_right hc] at h1; omega
theorem con_res {P Q T F : Int} (hF : 0 < F) (h1 : P * F ≤ T * 65536 * 65536) (h2 : T * 65536 * 65536 ≤ Q * F) (b1 : -32768 * F ≤ T) (b2 : T ≤ 32768 * F) : Con (resI P Q) T F :=
  ⟨lo_scale hF h1 (by omega) rfl, hi_scale hF h2 (by omega) rfl⟩
theorem con_mul {a b : Iv} {v u D E : Int} (ha : Valid a) (hb : Valid b) (hD : 0 < D) (hE : 0 < E) (h : Con a v D) (k : Con b u E) (b1 : -32768 * (D * E) ≤ v * u) (b2 : v * u ≤ 32768 * (D * E)) :
    Con (mulI a b) (v * u) (D * E) := by
  have hF : 0 < D * E := Int.mul_pos hD hE
  obtain ⟨c1, c2⟩ := corners h.1 h.2 k.1 k.2
  have s4 : ∀ p q : Int, p * D * (q * E) = p * q * (D * E) := fun p q => by grind
  rw [s4, s4, s4, s4] at c1 c2
  have e : v * 65536 * (u * 65536) = v * u * 65536 * 65536 := by grind
  rw [e] at c1 c2
  unfold min4 at c1
  unfold max4 at c2
  unfold mulI
  rw [when2_yes ha hb]
  have lo : ∀ p : Int, min4 (a.lo * b.lo) (a.lo * b.hi) (a.hi * b.lo) (a.hi * b.hi) ≤ p → min4 (a.lo * b.lo) (a.lo * b.hi) (a.hi * b.lo) (a.hi * b.hi) * (D * E) ≤ p * (D * E) := fun p hp => Int.mul_le_mul_of_nonneg_right hp (Int.le_of_lt hF)
  have hi : ∀ p : Int, p ≤ max4 (a.lo * b.lo) (a.lo * b.hi) (a.hi * b.lo) (a.hi * b.hi) → p * (D * E) ≤ max4 (a.lo * b.lo) (a.lo * b.hi) (a.hi * b.lo) (a.hi * b.hi) * (D * E) := fun p hp => Int.mul_le_mul_of_nonneg_right hp (Int.le_of_lt hF)
  refine con_res hF ?_ ?_ b1 b2
  · have l1 := lo (a.lo * b.lo) (by unfold min4; omega)
    have l2 := lo (a.lo * b.hi) (by unfold min4; omega)
    have l3 := lo (a.hi * b.lo) (by unfold min4; omega)
    have l4 := lo (a.hi * b.hi) (by unfold min4; omega)
    omega
  · have l1 := hi (a.lo * b.lo) (by unfold max4; omega)
    have l2 := hi (a.lo * b.hi) (by unfold max4; omega)
    have l3 := hi (a.hi * b.lo) (by unfold max4; omega)
    have l4 := hi (a.hi * b.hi) (by unfold max4; omega)
    omega
theorem con_lim {x y T F : Int} (hF : 0 < F) (h1 : x * F ≤ T) (h2 : T ≤ y * F) (b1 : -2147483648 * F ≤ T) (b2 : T ≤ 2147483648 * F) : clampI x * F ≤ T ∧ T ≤ clampI y * F := by
  have c1 := Int.mul_le_mul_of_nonneg_right (clamp_le x) (Int.le_of_lt hF)
  have c2 := Int.mul_le_mul_of_nonneg_right (clamp_ge y) (Int.le_of_lt hF)
  refine ⟨?_, ?_⟩
  · rcases Int.le_total x (-2147483648) with hc | hc
    · rw [Int.max_eq_right hc] at c1; omega
    · rw [Int.max_eq_left hc] at c1; omega
  · rcases Int.le_total y 2147483648 with hc | hc
    · rw [Int.min_eq_left hc] at c2; omega
    · rw [Int.min_eq_right hc] at c2; omega
theorem con_add {a b : Iv} {v u D : Int} (ha : Valid a) (hb : Valid b) (hD : 0 < D) (h : Con a v D) (k : Con b u D) (b1 : -32768 * D ≤ v + u) (b2 : v + u ≤ 32768 * D) : Con (addI a b) (v + u) D := by
  obtain ⟨h1, h2⟩ := h
  obtain ⟨k1, k2⟩ := k
  unfold addI
  rw [when2_yes ha hb]
  exact con_lim hD (by rw [Int.add_mul a.lo]; omega) (by rw [Int.add_mul a.hi]; omega) (by omega) (by omega)
theorem con_lim1 {a : Iv} {v D : Int} (hD : 0 < D) (h : Con a v D) (b1 : -D ≤ v) (b2 : v ≤ D) : Con (lim1 a) v D := by
  obtain ⟨h1, h2⟩ := h
  have m1 : max (-65536) (min a.lo 65536) ≤ max (-65536) a.lo := by omega
  have m2 : min 65536 a.hi ≤ max (-65536) (min a.hi 65536) := by omega
  have c1 := Int.mul_le_mul_of_nonneg_right m1 (Int.le_of_lt hD)
  have c2 := Int.mul_le_mul_of_nonneg_right m2 (Int.le_of_lt hD)
  refine ⟨?_, ?_⟩
  · show max (-65536) (min a.lo 65536) * D ≤ v * 65536
    rcases Int.le_total a.lo (-65536) with hc | hc
    · rw [Int.max_eq_left hc] at c1; omega
    · rw [Int.max_eq_right hc] at c1; omega
  · show v * 65536 ≤ max (-65536) (min a.hi 65536) * D
    rcases Int.le_total a.hi 65536 with hc | hc
    · rw [Int.min_eq_right hc] at c2; omega
    · rw [Int.min_eq_left hc] at c2; omega

/-! Vectors and matrices of numbers. -/
structure W3 where
  x : Int
  y : Int
  z : Int
structure R3 where
  x : W3
  y : W3
  z : W3
def dotN (r v : W3) : Int := r.x * v.x + r.y * v.y + r.z * v.z
def traN (m : R3) : R3 := ⟨⟨m.x.x, m.y.x, m.z.x⟩, ⟨m.x.y, m.y.y, m.z.y⟩, ⟨m.x.z, m.y.z, m.z.z⟩⟩
def appN (m : R3) (v : W3) : W3 := ⟨dotN m.x v, dotN m.y v, dotN m.z v⟩
def rowN (r : W3) (b : R3) : W3 := ⟨dotN r (traN b).x, dotN r (traN b).y, dotN r (traN b).z⟩
def comN (a b : R3) : R3 := ⟨rowN a.x b, rowN a.y b, rowN a.z b⟩
def ConV (a : V3) (v : W3) (D : Int) : Prop := Con a.x v.x D ∧ Con a.y v.y D ∧ Con a.z v.z D
def ConM (a : M3) (v : R3) (D : Int) : Prop := ConV a.x v.x D ∧ ConV a.y v.y D ∧ ConV a.z v.z D
/-- The entries are at most B. -/
def BdV (v : W3) (B : Int) : Prop := (-B ≤ v.x ∧ v.x ≤ B) ∧ (-B ≤ v.y ∧ v.y ≤ B) ∧ (-B ≤ v.z ∧ v.z ≤ B)
theorem con_dot {r v : V3} {p q : W3} {D E B C : Int} (hr : VV r) (hv : VV v) (hD : 0 < D) (hE : 0 < E) (h : ConV r p D) (k : ConV v q E) (hp : BdV p B) (hq : BdV q C) (hbc : 3 * (B * C) ≤ 32768 * (D * E)) :
    Con (dotV r v) (dotN p q) (D * E) := by
  have m1 := mul_bd hp.1.1 hp.1.2 hq.1.1 hq.1.2
  have m2 := mul_bd hp.2.1.1 hp.2.1.2 hq.2.1.1 hq.2.1.2
  have m3 := mul_bd hp.2.2.1 hp.2.2.2 hq.2.2.1 hq.2.2.2
  have hF : 0 < D * E := Int.mul_pos hD hE
  have c1 := con_mul hr.1 hv.1 hD hE h.1 k.1 (by omega) (by omega)
  have c2 := con_mul hr.2.1 hv.2.1 hD hE h.2.1 k.2.1 (by omega) (by omega)
  have c3 := con_mul hr.2.2 hv.2.2 hD hE h.2.2 k.2.2 (by omega) (by omega)
  exact con_add (valid_add _ _) (valid_mul _ _) hF (con_add (valid_mul _ _) (valid_mul _ _) hF c1 c2 (by omega) (by omega)) c3 (by omega) (by omega)
theorem VT {m : M3} (h : VM m) : VM (traM m) := ⟨⟨h.1.1, h.2.1.1, h.2.2.1⟩, ⟨h.1.2.1, h.2.1.2.1, h.2.2.2.1⟩, ⟨h.1.2.2, h.2.1.2.2, h.2.2.2.2⟩⟩
theorem con_tra {m : M3} {n : R3} {D : Int} (h : ConM m n D) : ConM (traM m) (traN n) D := ⟨⟨h.1.1, h.2.1.1, h.2.2.1⟩, ⟨h.1.2.1, h.2.1.2.1, h.2.2.2.1⟩, ⟨h.1.2.2, h.2.1.2.2, h.2.2.2.2⟩⟩
/-- A matrix of numbers whose rows are at right angles and of length D; so are its columns. -/
def OrthR (m : R3) (D : Int) : Prop := (dotN m.x m.x = D * D ∧ dotN m.y m.y = D * D ∧ dotN m.z m.z = D * D) ∧ (dotN m.x m.y = 0 ∧ dotN m.x m.z = 0 ∧ dotN m.y m.z = 0)
def Orth (m : R3) (D : Int) : Prop := OrthR m D ∧ OrthR (traN m) D
theorem dot_comm (a b : W3) : dotN a b = dotN b a := by unfold dotN; rw [Int.mul_comm a.x, Int.mul_comm a.y, Int.mul_comm a.z]
theorem sq_le_bd {x D : Int} (hD : 0 ≤ D) (h : x * x ≤ D * D) : -D ≤ x ∧ x ≤ D := by
  constructor
  · refine Int.not_lt.1 fun hc => ?_
    have := Int.mul_le_mul (a := D + 1) (b := D + 1) (c := -x) (d := -x) (by omega) (by omega) (by omega) (by omega)
    rw [Int.neg_mul_neg, Int.add_mul, Int.mul_add] at this
    omega
  · refine Int.not_lt.1 fun hc => ?_
    have := Int.mul_le_mul (a := D + 1) (b := D + 1) (c := x) (d := x) (by omega) (by omega) (by omega) (by omega)
    rw [Int.add_mul, Int.mul_add] at this
    omega
theorem dot_bd {r : W3} {D : Int} (hD : 0 ≤ D) (h : dotN r r = D * D) : BdV r D := by
  unfold dotN at h
  have a := sq_nonneg r.x
  have b := sq_nonneg r.y
  have c := sq_nonneg r.z
  exact ⟨sq_le_bd hD (by omega), sq_le_bd hD (by omega), sq_le_bd hD (by omega)⟩
/-- Rows times a matrix with orthogonal rows. -/
theorem dot_row (r s : W3) (b : R3) : dotN (rowN r b) (rowN s b) = r.x * s.x * dotN b.x b.x + r.y * s.y * dotN b.y b.y + r.z * s.z * dotN b.z b.z +
    ((r.x * s.y + r.y * s.x) * dotN b.x b.y + (r.x * s.z + r.z * s.x) * dotN b.x b.z + (r.y * s.z + r.z * s.y) * dotN b.y b.z) := by
  unfold rowN dotN traN
  dsimp only
  grind
theorem dot_orth {r s : W3} {b : R3} {E : Int} (h : OrthR b E) : dotN (rowN r b) (rowN s b) = dotN r s * (E * E) := by
  obtain ⟨⟨h1, h2, h3⟩, h4, h5, h6⟩ := h
  rw [dot_row, h1, h2, h3, h4, h5, h6]
  unfold dotN
  grind
theorem com_orthR {a b : R3} {D E : Int} (h : OrthR a D) (k : OrthR b E) : OrthR (comN a b) (D * E) := by
  obtain ⟨⟨h1, h2, h3⟩, h4, h5, h6⟩ := h
  have e : ∀ x : Int, x * x * (E * E) = x * E * (x * E) := fun x => by grind
  refine ⟨⟨?_, ?_, ?_⟩, ?_, ?_, ?_⟩
  · show dotN (rowN a.x b) (rowN a.x b) = _; rw [dot_orth k, h1, e]
  · show dotN (rowN a.y b) (rowN a.y b) = _; rw [dot_orth k, h2, e]
  · show dotN (rowN a.z b) (rowN a.z b) = _; rw [dot_orth k, h3, e]
  · show dotN (rowN a.x b) (rowN a.y b) = _; rw [dot_orth k, h4, Int.zero_mul]
  · show dotN (rowN a.x b) (rowN a.z b) = _; rw [dot_orth k, h5, Int.zero_mul]
  · show dotN (rowN a.y b) (rowN a.z b) = _; rw [dot_orth k, h6, Int.zero_mul]
theorem tra_com (a b : R3) : traN (comN a b) = comN (traN b) (traN a) := by
  unfold comN rowN
  simp only [traN, R3.mk.injEq, W3.mk.injEq]
  refine ⟨⟨?_, ?_, ?_⟩, ⟨?_, ?_, ?_⟩, ?_, ?_, ?_⟩ <;> exact dot_comm _ _
theorem com_orth {a b : R3} {D E : Int} (h : Orth a D) (k : Orth b E) : Orth (comN a b) (D * E) :=
  ⟨com_orthR h.1 k.1, by rw [tra_com, Int.mul_comm]; exact com_orthR k.2 h.2⟩
theorem com_valid (a b : M3) : VM (comM a b) := by
  have l : ∀ x : Iv, Valid x → Valid (lim1 x) := fun x h => (lim1_within (within_self h)).1.1
  have d : ∀ r v : V3, Valid (dotV r v) := fun r v => valid_add _ _
  exact ⟨⟨l _ (d _ _), l _ (d _ _), l _ (d _ _)⟩, ⟨l _ (d _ _), l _ (d _ _), l _ (d _ _)⟩, ⟨l _ (d _ _), l _ (d _ _), l _ (d _ _)⟩⟩
theorem orth_bd {m : R3} {D : Int} (hD : 0 < D) (h : OrthR m D) : BdV m.x D ∧ BdV m.y D ∧ BdV m.z D := ⟨dot_bd (Int.le_of_lt hD) h.1.1, dot_bd (Int.le_of_lt hD) h.1.2.1, dot_bd (Int.le_of_lt hD) h.1.2.2⟩
theorem con_row {r : V3} {b : M3} {p : W3} {q : R3} {D E : Int} (hr : VV r) (hb : VM b) (hD : 0 < D) (hE : 0 < E) (h : ConV r p D) (k : ConM b q E) (hp : dotN p p = D * D) (hq : OrthR q E) (hqt : OrthR (traN q) E) :
    ConV (rowM r b) (rowN p q) (D * E) := by
  have hF : 0 < D * E := Int.mul_pos hD hE
  have bp := dot_bd (Int.le_of_lt hD) hp
  obtain ⟨b1, b2, b3⟩ := orth_bd hE hqt
  have kt := con_tra k
  have vt := VT hb
  have bb : dotN (rowN p q) (rowN p q) = D * E * (D * E) := by rw [dot_orth hq, hp]; grind
  obtain ⟨⟨x1, x2⟩, ⟨y1, y2⟩, z1, z2⟩ := dot_bd (Int.le_of_lt hF) bb
  exact ⟨con_lim1 hF (con_dot hr vt.1 hD hE h kt.1 bp b1 (by omega)) x1 x2, con_lim1 hF (con_dot hr vt.2.1 hD hE h kt.2.1 bp b2 (by omega)) y1 y2, con_lim1 hF (con_dot hr vt.2.2 hD hE h kt.2.2 bp b3 (by omega)) z1 z2⟩
theorem con_com {a b : M3} {p q : R3} {D E : Int} (ha : VM a) (hb : VM b) (hD : 0 < D) (hE : 0 < E) (h : ConM a p D) (k : ConM b q E) (hp : Orth p D) (hq : Orth q E) : ConM (comM a b) (comN p q) (D * E) :=
  ⟨con_row ha.1 hb hD hE h.1 k hp.1.1.1 hq.1 hq.2, con_row ha.2.1 hb hD hE h.2.1 k hp.1.1.2.1 hq.1 hq.2, con_row ha.2.2 hb hD hE h.2.2 k hp.1.1.2.2 hq.1 hq.2⟩
theorem tra_tra (m : R3) : traN (traN m) = m := rfl
theorem orth_tra {m : R3} {D : Int} (h : Orth m D) : Orth (traN m) D := ⟨h.2, h.1⟩
theorem con_one {a : Iv} {D : Int} (ha : Valid a) (hD : 0 < D) (h : Con a D D) : Within oneI a := by
  obtain ⟨h1, h2⟩ := h
  have e : D * 65536 = 65536 * D := Int.mul_comm _ _
  rw [e] at h1 h2
  have l := Int.le_of_mul_le_mul_right h1 hD
  have r := Int.le_of_mul_le_mul_right h2 hD
  exact ⟨⟨one_valid, ha⟩, by unfold oneI; rw [of_one]; exact l, by unfold oneI; rw [of_one]; exact r⟩
theorem con_nil {a : Iv} {D : Int} (ha : Valid a) (hD : 0 < D) (h : Con a 0 D) : Within zeroI a := by
  obtain ⟨h1, h2⟩ := h
  have e : (0 : Int) * 65536 = 0 * D := by rw [Int.zero_mul, Int.zero_mul]
  rw [e] at h1 h2
  exact ⟨⟨zero_valid, ha⟩, Int.le_of_mul_le_mul_right h1 hD, Int.le_of_mul_le_mul_right h2 hD⟩
/-- A matrix of intervals that contains one with orthogonal rows, times its transpose. -/
theorem orth_unit {m : M3} {p : R3} {D : Int} (hm : VM m) (hD : 0 < D) (h : ConM m p D) (hp : Orth p D) : WM unitM (comM m (traM m)) := by
  have hF : 0 < D * D := Int.mul_pos hD hD
  have c := con_com hm (VT hm) hD hD h (con_tra h) hp (orth_tra hp)
  have v := com_valid m (traM m)
  obtain ⟨⟨h1, h2, h3⟩, h4, h5, h6⟩ := hp.1
  have e : ∀ r s : W3, ∀ x : Int, dotN r s = x → dotN s r = x := fun r s x h => by rw [dot_comm]; exact h
  obtain ⟨⟨c1, c2, c3⟩, ⟨c4, c5, c6⟩, c7, c8, c9⟩ := c
  replace c1 : Con _ (dotN p.x p.x) _ := c1
  replace c2 : Con _ (dotN p.x p.y) _ := c2
  replace c3 : Con _ (dotN p.x p.z) _ := c3
  replace c4 : Con _ (dotN p.y p.x) _ := c4
  replace c5 : Con _ (dotN p.y p.y) _ := c5
  replace c6 : Con _ (dotN p.y p.z) _ := c6
  replace c7 : Con _ (dotN p.z p.x) _ := c7
  replace c8 : Con _ (dotN p.z p.y) _ := c8
  replace c9 : Con _ (dotN p.z p.z) _ := c9
  rw [h1] at c1
  rw [h2] at c5
  rw [h3] at c9
  rw [h4] at c2
  rw [h5] at c3
  rw [h6] at c6
  rw [dot_comm, h4] at c4
  rw [dot_comm, h5] at c7
  rw [dot_comm, h6] at c8
  exact ⟨⟨con_one v.1.1 hF c1, con_nil v.1.2.1 hF c2, con_nil v.1.2.2 hF c3⟩, ⟨con_nil v.2.1.1 hF c4, con_one v.2.1.2.1 hF c5, con_nil v.2.1.2.2 hF c6⟩, ⟨con_nil v.2.2.1 hF c7, con_nil v.2.2.2.1 hF c8, con_one v.2.2.2.2 hF c9⟩⟩
end Go.Proofs.Ytdaeacakgpjjgaa
