/- Proved: plain arithmetic of rotations by one angle: orthogonal, lengths, sums of angles, quarters of a turn. Conditions: as each theorem states. Nothing of the program is used. -/
import Derived.Test.YtdaeacakgpjjgaaMat2
namespace Go.Proofs.Ytdaeacakgpjjgaa
open Go.RowKit

/-! A rotation about an axis, in numbers. -/
def rotN (k : Int) (C S D : Int) : R3 :=
  if k = 0 then ⟨⟨D, 0, 0⟩, ⟨0, C, -S⟩, ⟨0, S, C⟩⟩ else
  if k = 1 then ⟨⟨C, 0, S⟩, ⟨0, D, 0⟩, ⟨-S, 0, C⟩⟩ else ⟨⟨C, -S, 0⟩, ⟨S, C, 0⟩, ⟨0, 0, D⟩⟩
theorem con_oneI {D : Int} : Con oneI D D := by unfold Con oneI; rw [of_one]; dsimp only; omega
theorem con_zeroI {D : Int} : Con zeroI 0 D := by unfold Con zeroI; dsimp only; omega
theorem rot_orth {k C S D : Int} (h : C * C + S * S = D * D) : Orth (rotN k C S D) D := by
  unfold rotN
  by_cases h0 : k = 0
  · rw [if_pos h0]
    refine ⟨⟨⟨?_, ?_, ?_⟩, ?_, ?_, ?_⟩, ⟨⟨?_, ?_, ?_⟩, ?_, ?_, ?_⟩⟩ <;> (unfold dotN <;> simp only [traN] <;> grind)
  · rw [if_neg h0]
    by_cases h1 : k = 1
    · rw [if_pos h1]
      refine ⟨⟨⟨?_, ?_, ?_⟩, ?_, ?_, ?_⟩, ⟨⟨?_, ?_, ?_⟩, ?_, ?_, ?_⟩⟩ <;> (unfold dotN <;> simp only [traN] <;> grind)
    · rw [if_neg h1]
      refine ⟨⟨⟨?_, ?_, ?_⟩, ?_, ?_, ?_⟩, ⟨⟨?_, ?_, ?_⟩, ?_, ?_, ?_⟩⟩ <;> (unfold dotN <;> simp only [traN] <;> grind)
theorem con_rot {k : Int} {c s : Iv} {C S D : Int} (hk : k = 0 ∨ k = 1 ∨ k = 2) (hs : Valid s) (h : Con c C D) (h' : Con s S D) : ConM (rotM k c s) (rotN k C S D) D := by
  have n := con_neg hs h'
  unfold rotM rotN
  by_cases h0 : k = 0
  · rw [if_pos h0, if_pos h0]; exact ⟨⟨con_oneI, con_zeroI, con_zeroI⟩, ⟨con_zeroI, h, n⟩, ⟨con_zeroI, h', h⟩⟩
  · rw [if_neg h0, if_neg h0]
    by_cases h1 : k = 1
    · rw [if_pos h1, if_pos h1]; exact ⟨⟨h, con_zeroI, h'⟩, ⟨con_zeroI, con_oneI, con_zeroI⟩, ⟨n, con_zeroI, h⟩⟩
    · rw [if_neg h1, if_neg h1, if_pos (by omega)]; exact ⟨⟨h, n, con_zeroI⟩, ⟨h', h, con_zeroI⟩, ⟨con_zeroI, con_zeroI, con_oneI⟩⟩
/-- A rotation by intervals contains an orthogonal matrix of numbers. -/
theorem trn_con {k n : Int} (hk : k = 0 ∨ k = 1 ∨ k = 2) (h1 : -2147483648 ≤ n) (h2 : n ≤ 2147483648) : ∃ p D, 0 < D ∧ Orth p D ∧ ConM (trnM k (ofI n)) p D := by
  obtain ⟨C, S, D, hD, e, hc, hs⟩ := rot_all n
  rw [trn_point h1 h2]
  exact ⟨rotN k C S D, D, hD, rot_orth e, con_rot hk (sin_valid _) hc hs⟩
theorem orthogonal {j k m n : Int} (hj : j = 0 ∨ j = 1 ∨ j = 2) (hk : k = 0 ∨ k = 1 ∨ k = 2) (m1 : -2147483648 ≤ m) (m2 : m ≤ 2147483648) (n1 : -2147483648 ≤ n) (n2 : n ≤ 2147483648) :
    WM unitM (comM (comM (trnM j (ofI m)) (trnM k (ofI n))) (traM (comM (trnM j (ofI m)) (trnM k (ofI n))))) ∧
    WM unitM (comM (traM (comM (trnM j (ofI m)) (trnM k (ofI n)))) (comM (trnM j (ofI m)) (trnM k (ofI n)))) := by
  obtain ⟨p, D, hD, hp, cp⟩ := trn_con (k := j) hj m1 m2
  obtain ⟨q, E, hE, hq, cq⟩ := trn_con (k := k) hk n1 n2
  have c := con_com (trn_valid _ _) (trn_valid _ _) hD hE cp cq hp hq
  have o := com_orth hp hq
  have v := com_valid (trnM j (ofI m)) (trnM k (ofI n))
  have hF := Int.mul_pos hD hE
  refine ⟨orth_unit v hF c o, ?_⟩
  have h := orth_unit (m := traM (comM (trnM j (ofI m)) (trnM k (ofI n)))) (VT v) hF (con_tra c) (orth_tra o)
  exact h
/-! Lengths. -/
theorem con_sqr {a : Iv} {v D : Int} (ha : Valid a) (hD : 0 < D) (h : Con a v D) (b : v * v ≤ 32768 * (D * D)) : Con (sqrI a) (v * v) (D * D) := by
  have hF : 0 < D * D := Int.mul_pos hD hD
  have hv := sq_nonneg v
  have hs := sq_bounds (a := ⟨a.lo * D, a.hi * D⟩) h.1 h.2
  have e : v * 65536 * (v * 65536) = v * v * 65536 * 65536 := by grind
  have s2 : ∀ p : Int, p * D * (p * D) = p * p * (D * D) := fun p => by grind
  rw [sqrI_eq ha]
  rw [e] at hs
  unfold sqLo sqHi at hs ⊢
  dsimp only at hs
  rw [s2, s2] at hs
  have pos : ∀ p : Int, (p * D ≤ 0 ↔ p ≤ 0) ∧ (0 ≤ p * D ↔ 0 ≤ p) := fun p => by
    refine ⟨⟨fun h => ?_, fun h => ?_⟩, ⟨fun h => ?_, fun h => ?_⟩⟩
    · have e0 : (0 : Int) * D = 0 := Int.zero_mul _
      exact Int.le_of_mul_le_mul_right (by rw [e0]; exact h) hD
    · exact Int.mul_nonpos_of_nonpos_of_nonneg h (Int.le_of_lt hD)
    · have e0 : (0 : Int) * D = 0 := Int.zero_mul _
      exact Int.le_of_mul_le_mul_right (by rw [e0]; exact h) hD
    · exact Int.mul_nonneg h (Int.le_of_lt hD)
  have mn : ∀ x y z : Int, x ≤ y → x ≤ z → min y z * (D * D) = min (y * (D * D)) (z * (D * D)) := fun x y z _ _ => by
    rcases Int.le_total y z with hc | hc
    · rw [Int.min_eq_left hc, Int.min_eq_left (Int.mul_le_mul_of_nonneg_right hc (Int.le_of_lt hF))]
    · rw [Int.min_eq_right hc, Int.min_eq_right (Int.mul_le_mul_of_nonneg_right hc (Int.le_of_lt hF))]
  have mx : ∀ y z : Int, max y z * (D * D) = max (y * (D * D)) (z * (D * D)) := fun y z => by
    rcases Int.le_total y z with hc | hc
    · rw [Int.max_eq_right hc, Int.max_eq_right (Int.mul_le_mul_of_nonneg_right hc (Int.le_of_lt hF))]
    · rw [Int.max_eq_left hc, Int.max_eq_left (Int.mul_le_mul_of_nonneg_right hc (Int.le_of_lt hF))]
  refine con_res hF ?_ ?_ (by omega) b
  · by_cases hc : a.lo ≤ 0 ∧ 0 ≤ a.hi
    · rw [if_pos hc, Int.zero_mul]; omega
    · rw [if_neg hc, mn (min (a.lo * a.lo) (a.hi * a.hi)) _ _ (Int.min_le_left _ _) (Int.min_le_right _ _)]
      rw [if_neg (fun h => hc ⟨(pos _).1.1 h.1, (pos _).2.1 h.2⟩)] at hs
      exact hs.1
  · rw [mx]; exact hs.2
def sqrV (v : V3) : Iv := addI (addI (sqrI v.x) (sqrI v.y)) (sqrI v.z)
theorem con_sqrV {v : V3} {p : W3} {D B : Int} (hv : VV v) (hD : 0 < D) (h : ConV v p D) (hb : BdV p B) (hB : 3 * (B * B) ≤ 32768 * (D * D)) : Con (sqrV v) (dotN p p) (D * D) := by
  have hF : 0 < D * D := Int.mul_pos hD hD
  have a := sq_nonneg p.x
  have b := sq_nonneg p.y
  have c := sq_nonneg p.z
  have a' := (mul_bd hb.1.1 hb.1.2 hb.1.1 hb.1.2).2
  have b' := (mul_bd hb.2.1.1 hb.2.1.2 hb.2.1.1 hb.2.1.2).2
  have c' := (mul_bd hb.2.2.1 hb.2.2.2 hb.2.2.1 hb.2.2.2).2
  exact con_add (valid_add _ _) (valid_sqr _) hF (con_add (valid_sqr _) (valid_sqr _) hF (con_sqr hv.1 hD h.1 (by omega)) (con_sqr hv.2.1 hD h.2.1 (by omega)) (by omega) (by omega)) (con_sqr hv.2.2 hD h.2.2 (by omega)) (by omega) (by omega)
theorem con_ofI {x : Int} (h1 : -2147483648 ≤ x) (h2 : x ≤ 2147483648) : Con (ofI x) x 65536 := by
  rw [ofI_id h1 h2]; exact ⟨Int.le_refl _, Int.le_refl _⟩
theorem con_scale {a : Iv} {v D F : Int} (hF : 0 < F) (h : Con a (v * F) (D * F)) : Con a v D := by
  obtain ⟨h1, h2⟩ := h
  have e1 : ∀ x : Int, x * (D * F) = x * D * F := fun x => by grind
  have e2 : v * F * 65536 = v * 65536 * F := by grind
  rw [e1, e2] at h1 h2
  exact ⟨Int.le_of_mul_le_mul_right h1 hF, Int.le_of_mul_le_mul_right h2 hF⟩
theorem con_meets {a b : Iv} {v D : Int} (ha : Valid a) (hb : Valid b) (hD : 0 < D) (h : Con a v D) (k : Con b v D) : meets a b := by
  have h1 := Int.le_of_mul_le_mul_right (Int.le_trans h.1 k.2) hD
  have h2 := Int.le_of_mul_le_mul_right (Int.le_trans k.1 h.2) hD
  obtain ⟨_, ha2, _⟩ := id ha
  obtain ⟨_, hb2, _⟩ := id hb
  exact ⟨⟨ha, hb⟩, by omega⟩
theorem app_dot (m : R3) (v : W3) : dotN (appN m v) (appN m v) = v.x * v.x * dotN (traN m).x (traN m).x + v.y * v.y * dotN (traN m).y (traN m).y + v.z * v.z * dotN (traN m).z (traN m).z +
    (2 * (v.x * v.y) * dotN (traN m).x (traN m).y + 2 * (v.x * v.z) * dotN (traN m).x (traN m).z + 2 * (v.y * v.z) * dotN (traN m).y (traN m).z) := by
  unfold appN dotN traN
  dsimp only
  grind
theorem app_orth {m : R3} {v : W3} {D : Int} (h : Orth m D) : dotN (appN m v) (appN m v) = dotN v v * (D * D) := by
  obtain ⟨⟨h1, h2, h3⟩, h4, h5, h6⟩ := h.2
  rw [app_dot, h1, h2, h3, h4, h5, h6]
  unfold dotN
  grind
theorem length_same {k n x y z : Int} (hk : k = 0 ∨ k = 1 ∨ k = 2) (n1 : -2147483648 ≤ n) (n2 : n ≤ 2147483648)
    (x1 : -327680 ≤ x) (x2 : x ≤ 327680) (y1 : -327680 ≤ y) (y2 : y ≤ 327680) (z1 : -327680 ≤ z) (z2 : z ≤ 327680) :
    meets (sqrV (pntV x y z)) (sqrV (appM (trnM k (ofI n)) (pntV x y z))) := by
  obtain ⟨p, D, hD, hp, cp⟩ := trn_con (k := k) hk n1 n2
  have vm := trn_valid k (ofI n)
  have ox : ∀ t : Int, -327680 ≤ t → t ≤ 327680 → Valid (ofI t) := fun t h1 h2 => by rw [ofI_id (by omega) (by omega)]; exact ⟨by dsimp only; omega, Int.le_refl _, by dsimp only; omega⟩
  have vv : VV (pntV x y z) := ⟨ox x x1 x2, ox y y1 y2, ox z z1 z2⟩
  have cv : ConV (pntV x y z) ⟨x, y, z⟩ 65536 := ⟨con_ofI (by omega) (by omega), con_ofI (by omega) (by omega), con_ofI (by omega) (by omega)⟩
  have bv : BdV ⟨x, y, z⟩ 327680 := ⟨⟨x1, x2⟩, ⟨y1, y2⟩, ⟨z1, z2⟩⟩
  obtain ⟨b1, b2, b3⟩ := orth_bd hD hp.1
  have six : (0 : Int) < 65536 := by decide
  have cw : ConV (appM (trnM k (ofI n)) (pntV x y z)) (appN p ⟨x, y, z⟩) (D * 65536) :=
    ⟨con_dot vm.1 vv hD six cp.1 cv b1 bv (by omega), con_dot vm.2.1 vv hD six cp.2.1 cv b2 bv (by omega), con_dot vm.2.2 vv hD six cp.2.2 cv b3 bv (by omega)⟩
  have vw : VV (appM (trnM k (ofI n)) (pntV x y z)) := ⟨valid_add _ _, valid_add _ _, valid_add _ _⟩
  have d3 : ∀ q : W3, BdV q D → -(983040 * D) ≤ dotN q ⟨x, y, z⟩ ∧ dotN q ⟨x, y, z⟩ ≤ 983040 * D := fun q hq => by
    have m1 := mul_bd hq.1.1 hq.1.2 x1 x2
    have m2 := mul_bd hq.2.1.1 hq.2.1.2 y1 y2
    have m3 := mul_bd hq.2.2.1 hq.2.2.2 z1 z2
    unfold dotN
    dsimp only
    omega
  have bw : BdV (appN p ⟨x, y, z⟩) (983040 * D) := ⟨d3 _ b1, d3 _ b2, d3 _ b3⟩
  have hq := Int.mul_pos hD hD
  have s1 := con_sqrV vv six cv bv (by decide)
  have s2 := con_sqrV vw (Int.mul_pos hD six) cw bw (by
    have e : 983040 * D * (983040 * D) = 966367641600 * (D * D) := by grind
    have f : D * 65536 * (D * 65536) = 4294967296 * (D * D) := by grind
    rw [e, f]
    omega)
  rw [app_orth hp] at s2
  have f : D * 65536 * (D * 65536) = 65536 * 65536 * (D * D) := by grind
  rw [f] at s2
  have s3 := con_scale hq s2
  exact con_meets (valid_add _ _) (valid_add _ _) (by decide) s1 s3
end Go.Proofs.Ytdaeacakgpjjgaa
