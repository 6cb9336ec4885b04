/- Proved: plain arithmetic of sets of rigid motions: the identity on either side, parts, two shifts; plain facts on sets of rigid motions: a motion and its inverse, chains: what they contain; a motion followed by its inverse leads back to a set that contains the point; the image of an image and the image under a composition have common points. Conditions: as each theorem states. -/
import Derived.Test.YtdplgiccpjlelaaMat5
namespace Go.Proofs.Ytdplgiccpjlelaa
open Go.RowKit

structure Mo where
  r : M3
  t : V3
def negV (v : V3) : V3 := ⟨negI v.x, negI v.y, negI v.z⟩
def restP : Mo := ⟨unitM, zeroV⟩
def shiP (v : V3) : Mo := ⟨unitM, v⟩
def trnP (k : Int) (a : Iv) : Mo := ⟨trnM k a, zeroV⟩
def comP (a b : Mo) : Mo := ⟨comM a.r b.r, addV a.t (appM a.r b.t)⟩
def appP (p : Mo) (v : V3) : V3 := addV p.t (appM p.r v)
def invP (p : Mo) : Mo := ⟨traM p.r, negV (appM (traM p.r) p.t)⟩
def WP (a b : Mo) : Prop := WM a.r b.r ∧ WV a.t b.t
def VP (p : Mo) : Prop := VM p.r ∧ VV p.t
/-- The ends are from -1 to 1, in order. -/
def RI (x : Iv) : Prop := -65536 ≤ x.lo ∧ x.lo ≤ x.hi ∧ x.hi ≤ 65536
def RV (v : V3) : Prop := RI v.x ∧ RI v.y ∧ RI v.z
def RM (m : M3) : Prop := RV m.x ∧ RV m.y ∧ RV m.z
theorem RI.valid {x : Iv} (h : RI x) : Valid x := by obtain ⟨h1, h2, h3⟩ := h; exact ⟨by omega, h2, by omega⟩
theorem RV.valid {v : V3} (h : RV v) : VV v := ⟨h.1.valid, h.2.1.valid, h.2.2.valid⟩
theorem RM.valid {m : M3} (h : RM m) : VM m := ⟨h.1.valid, h.2.1.valid, h.2.2.valid⟩
theorem ri_lim1 {x : Iv} (h : Valid x) : RI (lim1 x) := by
  obtain ⟨h1, h2, h3⟩ := h
  unfold RI lim1
  dsimp only
  omega
theorem lim1_id {x : Iv} (h : RI x) : lim1 x = x := by
  obtain ⟨h1, h2, h3⟩ := h
  unfold lim1
  exact Iv.ext' (by dsimp only; omega) (by dsimp only; omega)
theorem ri_one : RI oneI := by unfold oneI; rw [of_one]; exact ⟨by decide, by decide, by decide⟩
theorem ri_zero : RI zeroI := ⟨by decide, by decide, by decide⟩
theorem ri_neg {x : Iv} (h : RI x) : RI (negI x) := by
  have v := h.valid
  obtain ⟨h1, h2, h3⟩ := h
  unfold negI
  rw [when1_yes v]
  exact ⟨by dsimp only; omega, by dsimp only; omega, by dsimp only; omega⟩
theorem ri_hul {a b : Iv} (h : RI a) (k : RI b) : RI (hulI a b) := by
  have v := h.valid
  have u := k.valid
  obtain ⟨h1, h2, h3⟩ := h
  obtain ⟨k1, k2, k3⟩ := k
  unfold hulI
  rw [when2_yes v u]
  exact ⟨by dsimp only; omega, by dsimp only; omega, by dsimp only; omega⟩
theorem ri_minus : RI (ofI (-65536)) := by rw [ofI_id (by decide) (by decide)]; exact ⟨by decide, by decide, by decide⟩
theorem ri_plus : RI (ofI 65536) := ri_one
theorem ri_over {a l h : Iv} {t b : Int} (hl : RI l) (hh : RI h) : RI (overI a l h t b) := by
  unfold overI
  split
  · split
    · exact ⟨by decide, by decide, by decide⟩
    · have h1 : RI (withTop a (hulI l h) t) := by unfold withTop; split; exact ri_hul (ri_hul hl hh) ri_plus; exact ri_hul hl hh
      unfold withBottom
      split
      · exact ri_hul h1 ri_minus
      · exact h1
  · exact ri_zero
theorem ri_sin (a : Int) : RI (sinA a) := ⟨(sin_range a).1, (sin_range a).2.1, (sin_range a).2.2.1⟩
theorem ri_cos (a : Int) : RI (cosA a) := by rw [cosA_eq]; exact ri_sin _
theorem ri_sinO (a : Iv) : RI (sinO a) := ri_over (ri_sin _) (ri_sin _)
theorem ri_cosO (a : Iv) : RI (cosO a) := ri_over (ri_cos _) (ri_cos _)
theorem rm_unit : RM unitM := ⟨⟨ri_one, ri_zero, ri_zero⟩, ⟨ri_zero, ri_one, ri_zero⟩, ⟨ri_zero, ri_zero, ri_one⟩⟩
theorem rm_zero : RM zeroM := ⟨⟨ri_zero, ri_zero, ri_zero⟩, ⟨ri_zero, ri_zero, ri_zero⟩, ⟨ri_zero, ri_zero, ri_zero⟩⟩
theorem rm_rot {k : Int} {c s : Iv} (hc : RI c) (hs : RI s) : RM (rotM k c s) := by
  have o := ri_one
  have z := ri_zero
  have n := ri_neg hs
  unfold rotM
  by_cases h0 : k = 0
  · rw [if_pos h0]; exact ⟨⟨o, z, z⟩, ⟨z, hc, n⟩, ⟨z, hs, hc⟩⟩
  · rw [if_neg h0]
    by_cases h1 : k = 1
    · rw [if_pos h1]; exact ⟨⟨hc, z, hs⟩, ⟨z, o, z⟩, ⟨n, z, hc⟩⟩
    · rw [if_neg h1]
      by_cases h2 : k = 2
      · rw [if_pos h2]; exact ⟨⟨hc, n, z⟩, ⟨hs, hc, z⟩, ⟨z, z, o⟩⟩
      · rw [if_neg h2]; exact rm_zero
theorem rm_trn (k : Int) (a : Iv) : RM (trnM k a) := by
  unfold trnM
  split
  · exact rm_rot (ri_cosO a) (ri_sinO a)
  · exact rm_zero
theorem dot_valid (r v : V3) : Valid (dotV r v) := valid_add _ _
theorem rm_com (a b : M3) : RM (comM a b) :=
  ⟨⟨ri_lim1 (dot_valid _ _), ri_lim1 (dot_valid _ _), ri_lim1 (dot_valid _ _)⟩, ⟨ri_lim1 (dot_valid _ _), ri_lim1 (dot_valid _ _), ri_lim1 (dot_valid _ _)⟩, ⟨ri_lim1 (dot_valid _ _), ri_lim1 (dot_valid _ _), ri_lim1 (dot_valid _ _)⟩⟩
/-! The identity. -/
theorem dot_e0 {r : V3} (h : VV r) : dotV r ⟨oneI, zeroI, zeroI⟩ = r.x := by
  show addI (addI (mulI r.x oneI) (mulI r.y zeroI)) (mulI r.z zeroI) = r.x
  rw [show mulI r.x oneI = r.x from mul_one_r h.1, mul_zero_r h.2.1, mul_zero_r h.2.2, add_zero_r h.1, add_zero_r h.1]
theorem dot_e1 {r : V3} (h : VV r) : dotV r ⟨zeroI, oneI, zeroI⟩ = r.y := by
  show addI (addI (mulI r.x zeroI) (mulI r.y oneI)) (mulI r.z zeroI) = r.y
  rw [show mulI r.y oneI = r.y from mul_one_r h.2.1, mul_zero_r h.1, mul_zero_r h.2.2, add_zero_l h.2.1, add_zero_r h.2.1]
theorem dot_e2 {r : V3} (h : VV r) : dotV r ⟨zeroI, zeroI, oneI⟩ = r.z := by
  show addI (addI (mulI r.x zeroI) (mulI r.y zeroI)) (mulI r.z oneI) = r.z
  rw [show mulI r.z oneI = r.z from mul_one_r h.2.2, mul_zero_r h.1, mul_zero_r h.2.1, add_zero_l zero_valid, add_zero_l h.2.2]
theorem dot_comm_I (a b : V3) : dotV a b = dotV b a := by unfold dotV; rw [mul_comm_I a.x, mul_comm_I a.y, mul_comm_I a.z]
theorem app_unit {v : V3} (h : VV v) : appM unitM v = v := by
  show (⟨dotV ⟨oneI, zeroI, zeroI⟩ v, dotV ⟨zeroI, oneI, zeroI⟩ v, dotV ⟨zeroI, zeroI, oneI⟩ v⟩ : V3) = v
  rw [dot_comm_I _ v, dot_comm_I _ v, dot_comm_I _ v, dot_e0 h, dot_e1 h, dot_e2 h]
theorem row_unit {r : V3} (h : RV r) : rowM r unitM = r := by
  show (⟨lim1 (dotV r ⟨oneI, zeroI, zeroI⟩), lim1 (dotV r ⟨zeroI, oneI, zeroI⟩), lim1 (dotV r ⟨zeroI, zeroI, oneI⟩)⟩ : V3) = r
  rw [dot_e0 h.valid, dot_e1 h.valid, dot_e2 h.valid, lim1_id h.1, lim1_id h.2.1, lim1_id h.2.2]
theorem com_unit_r {m : M3} (h : RM m) : comM m unitM = m := by
  show (⟨rowM m.x unitM, rowM m.y unitM, rowM m.z unitM⟩ : M3) = m
  rw [row_unit h.1, row_unit h.2.1, row_unit h.2.2]
theorem com_unit_l {m : M3} (h : RM m) : comM unitM m = m := by
  have t := VT h.valid
  show (⟨⟨lim1 (dotV ⟨oneI, zeroI, zeroI⟩ (traM m).x), lim1 (dotV ⟨oneI, zeroI, zeroI⟩ (traM m).y), lim1 (dotV ⟨oneI, zeroI, zeroI⟩ (traM m).z)⟩,
    ⟨lim1 (dotV ⟨zeroI, oneI, zeroI⟩ (traM m).x), lim1 (dotV ⟨zeroI, oneI, zeroI⟩ (traM m).y), lim1 (dotV ⟨zeroI, oneI, zeroI⟩ (traM m).z)⟩,
    ⟨lim1 (dotV ⟨zeroI, zeroI, oneI⟩ (traM m).x), lim1 (dotV ⟨zeroI, zeroI, oneI⟩ (traM m).y), lim1 (dotV ⟨zeroI, zeroI, oneI⟩ (traM m).z)⟩⟩ : M3) = m
  rw [dot_comm_I ⟨oneI, zeroI, zeroI⟩ (traM m).x, dot_comm_I ⟨oneI, zeroI, zeroI⟩ (traM m).y, dot_comm_I ⟨oneI, zeroI, zeroI⟩ (traM m).z, dot_e0 t.1, dot_e0 t.2.1, dot_e0 t.2.2,
    dot_comm_I ⟨zeroI, oneI, zeroI⟩ (traM m).x, dot_comm_I ⟨zeroI, oneI, zeroI⟩ (traM m).y, dot_comm_I ⟨zeroI, oneI, zeroI⟩ (traM m).z, dot_e1 t.1, dot_e1 t.2.1, dot_e1 t.2.2,
    dot_comm_I ⟨zeroI, zeroI, oneI⟩ (traM m).x, dot_comm_I ⟨zeroI, zeroI, oneI⟩ (traM m).y, dot_comm_I ⟨zeroI, zeroI, oneI⟩ (traM m).z, dot_e2 t.1, dot_e2 t.2.1, dot_e2 t.2.2]
  show (⟨⟨lim1 m.x.x, lim1 m.x.y, lim1 m.x.z⟩, ⟨lim1 m.y.x, lim1 m.y.y, lim1 m.y.z⟩, ⟨lim1 m.z.x, lim1 m.z.y, lim1 m.z.z⟩⟩ : M3) = m
  rw [lim1_id h.1.1, lim1_id h.1.2.1, lim1_id h.1.2.2, lim1_id h.2.1.1, lim1_id h.2.1.2.1, lim1_id h.2.1.2.2, lim1_id h.2.2.1, lim1_id h.2.2.2.1, lim1_id h.2.2.2.2]
theorem dot_zero {r : V3} (h : VV r) : dotV r zeroV = zeroI := by
  show addI (addI (mulI r.x zeroI) (mulI r.y zeroI)) (mulI r.z zeroI) = zeroI
  rw [mul_zero_r h.1, mul_zero_r h.2.1, mul_zero_r h.2.2, add_zero_r zero_valid, add_zero_r zero_valid]
theorem app_zero {m : M3} (h : VM m) : appM m zeroV = zeroV := by
  show (⟨dotV m.x zeroV, dotV m.y zeroV, dotV m.z zeroV⟩ : V3) = zeroV
  rw [dot_zero h.1, dot_zero h.2.1, dot_zero h.2.2]; rfl
theorem addV_zero_r {v : V3} (h : VV v) : addV v zeroV = v := by
  show (⟨addI v.x zeroI, addI v.y zeroI, addI v.z zeroI⟩ : V3) = v
  rw [add_zero_r h.1, add_zero_r h.2.1, add_zero_r h.2.2]
theorem addV_zero_l {v : V3} (h : VV v) : addV zeroV v = v := by
  show (⟨addI zeroI v.x, addI zeroI v.y, addI zeroI v.z⟩ : V3) = v
  rw [add_zero_l h.1, add_zero_l h.2.1, add_zero_l h.2.2]
def RP (p : Mo) : Prop := RM p.r ∧ VV p.t
theorem com_rest_r {p : Mo} (h : RP p) : comP p restP = p := by
  show (⟨comM p.r unitM, addV p.t (appM p.r zeroV)⟩ : Mo) = p
  rw [com_unit_r h.1, app_zero h.1.valid, addV_zero_r h.2]
theorem com_rest_l {p : Mo} (h : RP p) : comP restP p = p := by
  show (⟨comM unitM p.r, addV zeroV (appM unitM p.t)⟩ : Mo) = p
  rw [com_unit_l h.1, app_unit h.2, addV_zero_l h.2]
theorem app_rest {v : V3} (h : VV v) : appP restP v = v := by
  show addV zeroV (appM unitM v) = v
  rw [app_unit h, addV_zero_l h]
theorem addV_valid (a b : V3) : VV (addV a b) := ⟨valid_add _ _, valid_add _ _, valid_add _ _⟩
theorem appM_valid (m : M3) (v : V3) : VV (appM m v) := ⟨valid_add _ _, valid_add _ _, valid_add _ _⟩
theorem rp_com (a b : Mo) : RP (comP a b) := ⟨rm_com _ _, addV_valid _ _⟩
theorem rp_shi {v : V3} (h : VV v) : RP (shiP v) := ⟨rm_unit, h⟩
theorem shi_shi {x y : V3} (hy : VV y) : comP (shiP x) (shiP y) = shiP (addV x y) := by
  show (⟨comM unitM unitM, addV x (appM unitM y)⟩ : Mo) = ⟨unitM, addV x y⟩
  rw [com_unit_r rm_unit, app_unit hy]
theorem shi_com {x : V3} {p : Mo} (h : RP p) : comP (shiP x) p = ⟨p.r, addV x p.t⟩ := by
  show (⟨comM unitM p.r, addV x (appM unitM p.t)⟩ : Mo) = _
  rw [com_unit_l h.1, app_unit h.2]
/-- A turn behind a shift, or behind such: the shift stays. -/
theorem com_trn {p : Mo} {k : Int} {a : Iv} (h : RP p) : comP p (trnP k a) = ⟨comM p.r (trnM k a), p.t⟩ := by
  show (⟨comM p.r (trnM k a), addV p.t (appM p.r zeroV)⟩ : Mo) = _
  rw [app_zero h.1.valid, addV_zero_r h.2]
/-! Parts. -/
theorem negV_within {a b : V3} (h : WV a b) : WV (negV a) (negV b) := ⟨neg_within h.1, neg_within h.2.1, neg_within h.2.2⟩
theorem comP_within {a b c d : Mo} (h : WP a b) (k : WP c d) : WP (comP a c) (comP b d) := ⟨com_within h.1 k.1, addV_within h.2 (app_within h.1 k.2)⟩
theorem appP_within {a b : Mo} {u v : V3} (h : WP a b) (k : WV u v) : WV (appP a u) (appP b v) := addV_within h.2 (app_within h.1 k)
theorem invP_within {a b : Mo} (h : WP a b) : WP (invP a) (invP b) := ⟨tra_within h.1, negV_within (app_within (tra_within h.1) h.2)⟩
theorem wp_self {p : Mo} (h : VP p) : WP p p := ⟨wm_self h.1, wv_self h.2⟩
theorem RP.valid {p : Mo} (h : RP p) : VP p := ⟨h.1.valid, h.2⟩
end Go.Proofs.Ytdplgiccpjlelaa
namespace Go.Proofs.Ytdplgiccpjlelaa
open Go.RowKit

def addN (u v : W3) : W3 := ⟨u.x + v.x, u.y + v.y, u.z + v.z⟩
def sclN (u : W3) (c : Int) : W3 := ⟨u.x * c, u.y * c, u.z * c⟩
def negN (u : W3) : W3 := ⟨-u.x, -u.y, -u.z⟩
def idN : R3 := ⟨⟨1, 0, 0⟩, ⟨0, 1, 0⟩, ⟨0, 0, 1⟩⟩
theorem W3.ext' {a b : W3} (h1 : a.x = b.x) (h2 : a.y = b.y) (h3 : a.z = b.z) : a = b := by cases a; cases b; simp_all
theorem con_up {a : Iv} {v D F : Int} (hF : 0 < F) (h : Con a v D) : Con a (v * F) (D * F) := by
  obtain ⟨h1, h2⟩ := h
  have e1 : ∀ x : Int, x * (D * F) = x * D * F := fun x => by grind
  have e2 : v * F * 65536 = v * 65536 * F := by grind
  unfold Con
  rw [e1, e1, e2]
  exact ⟨Int.mul_le_mul_of_nonneg_right h1 (by omega), Int.mul_le_mul_of_nonneg_right h2 (by omega)⟩
theorem conV_up {a : V3} {v : W3} {D F : Int} (hF : 0 < F) (h : ConV a v D) : ConV a (sclN v F) (D * F) := ⟨con_up hF h.1, con_up hF h.2.1, con_up hF h.2.2⟩
theorem conV_neg {a : V3} {v : W3} {D : Int} (ha : VV a) (h : ConV a v D) : ConV (negV a) (negN v) D := ⟨con_neg ha.1 h.1, con_neg ha.2.1 h.2.1, con_neg ha.2.2 h.2.2⟩
theorem conV_add {a b : V3} {u v : W3} {D B C : Int} (ha : VV a) (hb : VV b) (hD : 0 < D) (h : ConV a u D) (k : ConV b v D) (hu : BdV u B) (hv : BdV v C) (hB : B + C ≤ 32768 * D) : ConV (addV a b) (addN u v) D :=
  ⟨con_add ha.1 hb.1 hD h.1 k.1 (by have := hu.1; have := hv.1; omega) (by have := hu.1; have := hv.1; omega),
   con_add ha.2.1 hb.2.1 hD h.2.1 k.2.1 (by have := hu.2.1; have := hv.2.1; omega) (by have := hu.2.1; have := hv.2.1; omega),
   con_add ha.2.2 hb.2.2 hD h.2.2 k.2.2 (by have := hu.2.2; have := hv.2.2; omega) (by have := hu.2.2; have := hv.2.2; omega)⟩
theorem conV_app {R : M3} {v : V3} {r : R3} {x : W3} {D F B : Int} (hR : VM R) (hv : VV v) (hD : 0 < D) (hF : 0 < F) (h : ConM R r D) (k : ConV v x F) (o : Orth r D) (hx : BdV x B) (hB : 3 * (D * B) ≤ 32768 * (D * F)) : ConV (appM R v) (appN r x) (D * F) :=
  ⟨con_dot hR.1 hv hD hF h.1 k (orth_bd hD o.1).1 hx hB, con_dot hR.2.1 hv hD hF h.2.1 k (orth_bd hD o.1).2.1 hx hB, con_dot hR.2.2 hv hD hF h.2.2 k (orth_bd hD o.1).2.2 hx hB⟩
theorem dot_bd3 {q x : W3} {D B : Int} (hq : BdV q D) (hx : BdV x B) : -(3 * (D * B)) ≤ dotN q x ∧ dotN q x ≤ 3 * (D * B) := by
  have m1 := mul_bd hq.1.1 hq.1.2 hx.1.1 hx.1.2
  have m2 := mul_bd hq.2.1.1 hq.2.1.2 hx.2.1.1 hx.2.1.2
  have m3 := mul_bd hq.2.2.1 hq.2.2.2 hx.2.2.1 hx.2.2.2
  unfold dotN
  omega
theorem app_bd {r : R3} {x : W3} {D B : Int} (hD : 0 < D) (o : Orth r D) (hx : BdV x B) : BdV (appN r x) (3 * (D * B)) :=
  ⟨dot_bd3 (orth_bd hD o.1).1 hx, dot_bd3 (orth_bd hD o.1).2.1 hx, dot_bd3 (orth_bd hD o.1).2.2 hx⟩
theorem add_bd {u v : W3} {B C : Int} (hu : BdV u B) (hv : BdV v C) : BdV (addN u v) (B + C) := by
  unfold BdV addN at *
  dsimp only
  omega
theorem scl_bd {u : W3} {B c : Int} (hc : 0 ≤ c) (hu : BdV u B) : BdV (sclN u c) (B * c) := by
  have f : ∀ x : Int, -B ≤ x ∧ x ≤ B → -(B * c) ≤ x * c ∧ x * c ≤ B * c := fun x h => by
    have h1 := Int.mul_le_mul_of_nonneg_right h.1 hc
    have h2 := Int.mul_le_mul_of_nonneg_right h.2 hc
    rw [Int.neg_mul] at h1
    exact ⟨h1, h2⟩
  exact ⟨f _ hu.1, f _ hu.2.1, f _ hu.2.2⟩
theorem neg_bd {u : W3} {B : Int} (hu : BdV u B) : BdV (negN u) B := by
  unfold BdV negN at *
  dsimp only
  omega
theorem bd_mono {u : W3} {B C : Int} (hu : BdV u B) (h : B ≤ C) : BdV u C := by
  unfold BdV at *
  omega
/-! Elements. -/
theorem id_orth : Orth idN 1 := by unfold Orth OrthR; exact ⟨⟨⟨by decide, by decide, by decide⟩, by decide, by decide, by decide⟩, ⟨by decide, by decide, by decide⟩, by decide, by decide, by decide⟩
theorem con_unit : ConM unitM idN 1 := ⟨⟨con_oneI, con_zeroI, con_zeroI⟩, ⟨con_zeroI, con_oneI, con_zeroI⟩, ⟨con_zeroI, con_zeroI, con_oneI⟩⟩
theorem con_within {a b : Iv} {v D : Int} (hD : 0 < D) (h : Con a v D) (k : Within a b) : Con b v D := by
  have h1 := Int.mul_le_mul_of_nonneg_right k.2.1 (Int.le_of_lt hD)
  have h2 := Int.mul_le_mul_of_nonneg_right k.2.2 (Int.le_of_lt hD)
  exact ⟨Int.le_trans h1 h.1, Int.le_trans h.2 h2⟩
theorem conM_within {a b : M3} {v : R3} {D : Int} (hD : 0 < D) (h : ConM a v D) (k : WM a b) : ConM b v D :=
  ⟨⟨con_within hD h.1.1 k.1.1, con_within hD h.1.2.1 k.1.2.1, con_within hD h.1.2.2 k.1.2.2⟩, ⟨con_within hD h.2.1.1 k.2.1.1, con_within hD h.2.1.2.1 k.2.1.2.1, con_within hD h.2.1.2.2 k.2.1.2.2⟩,
    ⟨con_within hD h.2.2.1 k.2.2.1, con_within hD h.2.2.2.1 k.2.2.2.1, con_within hD h.2.2.2.2 k.2.2.2.2⟩⟩
/-- A rotation by an interval of angles contains an orthogonal matrix of numbers. -/
theorem trn_con_any {k : Int} {a : Iv} (hk : k = 0 ∨ k = 1 ∨ k = 2) (ha : Valid a) : ∃ p D, 0 < D ∧ Orth p D ∧ ConM (trnM k a) p D := by
  obtain ⟨h1, h2, h3⟩ := id ha
  obtain ⟨p, D, hD, o, c⟩ := trn_con (k := k) (n := a.lo) hk h1 (by omega)
  refine ⟨p, D, hD, o, conM_within hD c (trn_within ?_)⟩
  rw [ofI_id h1 (by omega)]
  exact ⟨⟨⟨h1, Int.le_refl _, by dsimp only; omega⟩, ha⟩, Int.le_refl _, h2⟩
/-- A motion of the statements: rotations that contain an orthogonal matrix, and a shift by a point. -/
def MotI (p : Mo) (t : W3) : Prop := RM p.r ∧ p.t = pntV t.x t.y t.z ∧ BdV t 196608 ∧ ∃ r D, 0 < D ∧ Orth r D ∧ ConM p.r r D
theorem mot_shift {t : W3} (h : BdV t 196608) : MotI (shiP (pntV t.x t.y t.z)) t := ⟨rm_unit, rfl, h, idN, 1, by decide, id_orth, con_unit⟩
theorem pnt_vv (x y z : Int) : VV (pntV x y z) := ⟨valid_lim (Int.le_refl _), valid_lim (Int.le_refl _), valid_lim (Int.le_refl _)⟩
theorem MotI.rp {p : Mo} {t : W3} (h : MotI p t) : RP p := ⟨h.1, by rw [h.2.1]; exact pnt_vv _ _ _⟩
theorem mot_turn {p : Mo} {t : W3} {k : Int} {a : Iv} (h : MotI p t) (hk : k = 0 ∨ k = 1 ∨ k = 2) (ha : Valid a) : MotI (comP p (trnP k a)) t := by
  rw [com_trn h.rp]
  obtain ⟨h1, h2, h3, r, D, hD, o, c⟩ := h
  obtain ⟨q, E, hE, o2, c2⟩ := trn_con_any hk ha
  exact ⟨rm_com _ _, h2, h3, comN r q, D * E, Int.mul_pos hD hE, com_orth o o2, con_com h1.valid (trn_valid _ _) hD hE c c2 o o2⟩
theorem con_pnt {x : W3} {B : Int} (h : BdV x B) (hB : B ≤ 2147483648) : ConV (pntV x.x x.y x.z) x 65536 := by
  obtain ⟨h1, h2, h3⟩ := h
  exact ⟨con_ofI (by omega) (by omega), con_ofI (by omega) (by omega), con_ofI (by omega) (by omega)⟩
/-- What contains a point of the grid, contains its interval. -/
theorem within_con {a : Iv} {x : Int} (ha : Valid a) (x1 : -2147483648 ≤ x) (x2 : x ≤ 2147483648) (h : Con a x 65536) : Within (ofI x) a := by
  obtain ⟨h1, h2⟩ := h
  rw [ofI_id x1 x2]
  exact ⟨⟨⟨x1, Int.le_refl _, x2⟩, ha⟩, by dsimp only; omega, by dsimp only; omega⟩
theorem withinV_con {a : V3} {x : W3} {B : Int} (ha : VV a) (hx : BdV x B) (hB : B ≤ 2147483648) (h : ConV a x 65536) : WV (pntV x.x x.y x.z) a := by
  obtain ⟨h1, h2, h3⟩ := hx
  exact ⟨within_con ha.1 (by omega) (by omega) h.1, within_con ha.2.1 (by omega) (by omega) h.2.1, within_con ha.2.2 (by omega) (by omega) h.2.2⟩
theorem conV_scale {a : V3} {v : W3} {D F : Int} (hF : 0 < F) (h : ConV a (sclN v F) (D * F)) : ConV a v D := ⟨con_scale hF h.1, con_scale hF h.2.1, con_scale hF h.2.2⟩
/-! The identities of numbers. -/
theorem tra_app {r : R3} {D : Int} (o : Orth r D) (u : W3) : appN (traN r) (appN r u) = sclN u (D * D) := by
  obtain ⟨⟨h1, h2, h3⟩, h4, h5, h6⟩ := o.2
  unfold dotN traN at h1 h2 h3 h4 h5 h6
  dsimp only at h1 h2 h3 h4 h5 h6
  refine W3.ext' ?_ ?_ ?_
  · show r.x.x * (r.x.x * u.x + r.x.y * u.y + r.x.z * u.z) + r.y.x * (r.y.x * u.x + r.y.y * u.y + r.y.z * u.z) + r.z.x * (r.z.x * u.x + r.z.y * u.y + r.z.z * u.z) = u.x * (D * D)
    have e : r.x.x * (r.x.x * u.x + r.x.y * u.y + r.x.z * u.z) + r.y.x * (r.y.x * u.x + r.y.y * u.y + r.y.z * u.z) + r.z.x * (r.z.x * u.x + r.z.y * u.y + r.z.z * u.z) = (r.x.x * r.x.x + r.y.x * r.y.x + r.z.x * r.z.x) * u.x + (r.x.x * r.x.y + r.y.x * r.y.y + r.z.x * r.z.y) * u.y + (r.x.x * r.x.z + r.y.x * r.y.z + r.z.x * r.z.z) * u.z := by grind
    rw [e, h1, h4, h5]; grind
  · show r.x.y * (r.x.x * u.x + r.x.y * u.y + r.x.z * u.z) + r.y.y * (r.y.x * u.x + r.y.y * u.y + r.y.z * u.z) + r.z.y * (r.z.x * u.x + r.z.y * u.y + r.z.z * u.z) = u.y * (D * D)
    have e : r.x.y * (r.x.x * u.x + r.x.y * u.y + r.x.z * u.z) + r.y.y * (r.y.x * u.x + r.y.y * u.y + r.y.z * u.z) + r.z.y * (r.z.x * u.x + r.z.y * u.y + r.z.z * u.z) = (r.x.x * r.x.y + r.y.x * r.y.y + r.z.x * r.z.y) * u.x + (r.x.y * r.x.y + r.y.y * r.y.y + r.z.y * r.z.y) * u.y + (r.x.y * r.x.z + r.y.y * r.y.z + r.z.y * r.z.z) * u.z := by grind
    rw [e, h4, h2, h6]; grind
  · show r.x.z * (r.x.x * u.x + r.x.y * u.y + r.x.z * u.z) + r.y.z * (r.y.x * u.x + r.y.y * u.y + r.y.z * u.z) + r.z.z * (r.z.x * u.x + r.z.y * u.y + r.z.z * u.z) = u.z * (D * D)
    have e : r.x.z * (r.x.x * u.x + r.x.y * u.y + r.x.z * u.z) + r.y.z * (r.y.x * u.x + r.y.y * u.y + r.y.z * u.z) + r.z.z * (r.z.x * u.x + r.z.y * u.y + r.z.z * u.z) = (r.x.x * r.x.z + r.y.x * r.y.z + r.z.x * r.z.z) * u.x + (r.x.y * r.x.z + r.y.y * r.y.z + r.z.y * r.z.z) * u.y + (r.x.z * r.x.z + r.y.z * r.y.z + r.z.z * r.z.z) * u.z := by grind
    rw [e, h5, h6, h3]; grind
theorem app_tra {r : R3} {D : Int} (o : Orth r D) (u : W3) : appN r (appN (traN r) u) = sclN u (D * D) := by
  have := tra_app (orth_tra o) u
  rwa [tra_tra] at this
theorem app_add (r : R3) (u v : W3) : appN r (addN u v) = addN (appN r u) (appN r v) := by
  refine W3.ext' ?_ ?_ ?_ <;> (unfold appN dotN addN; dsimp only; grind)
theorem app_scl (r : R3) (u : W3) (c : Int) : appN r (sclN u c) = sclN (appN r u) c := by
  refine W3.ext' ?_ ?_ ?_ <;> (unfold appN dotN sclN; dsimp only; grind)
theorem app_neg (r : R3) (u : W3) : appN r (negN u) = negN (appN r u) := by
  refine W3.ext' ?_ ?_ ?_ <;> (unfold appN dotN negN; dsimp only; grind)
theorem com_app (r s : R3) (u : W3) : appN (comN r s) u = appN r (appN s u) := by
  refine W3.ext' ?_ ?_ ?_ <;> (unfold appN comN rowN dotN traN; dsimp only; grind)
end Go.Proofs.Ytdplgiccpjlelaa
namespace Go.Proofs.Ytdplgiccpjlelaa
open Go.RowKit

theorem conV_den {a : V3} {v u : W3} {D E : Int} (h : ConV a v D) (e : D = E) (f : v = u) : ConV a u E := by subst e; subst f; exact h
theorem bd_den {u : W3} {B C : Int} (h : BdV u B) (e : B = C) : BdV u C := by subst e; exact h
/-- An element: an orthogonal matrix r / D within the rotations, a shift s / (65536 D) within the shifts. -/
structure El (p : Mo) (r : R3) (D : Int) (s : W3) (C : Int) : Prop where
  vr : VM p.r
  vt : VV p.t
  pos : 0 < D
  orth : Orth r D
  cr : ConM p.r r D
  ct : ConV p.t s (65536 * D)
  bd : BdV s (C * D)
theorem el_app {p : Mo} {r : R3} {D C F B : Int} {s u : W3} {v : V3} (h : El p r D s C) (hv : VV v) (hF : 0 < F) (hu : ConV v u (65536 * F)) (hb : BdV u (B * F)) (hB : 3 * B ≤ 2147483648) (hBC : C + 3 * B ≤ 2147483648) :
    VV (appP p v) ∧ ConV (appP p v) (addN (sclN s F) (appN r u)) (65536 * (D * F)) ∧ BdV (addN (sclN s F) (appN r u)) ((C + 3 * B) * (D * F)) := by
  have hG := Int.mul_pos h.pos hF
  have c1 := conV_app h.vr hv h.pos (by omega : 0 < 65536 * F) h.cr hu h.orth hb (by
    have e1 : 3 * (D * (B * F)) = 3 * B * (D * F) := by grind
    have e2 : 32768 * (D * (65536 * F)) = 2147483648 * (D * F) := by grind
    rw [e1, e2]; exact Int.mul_le_mul_of_nonneg_right hB (Int.le_of_lt hG))
  have b1 := app_bd h.pos h.orth hb
  have c2 := conV_up hF h.ct
  have b2 := scl_bd (Int.le_of_lt hF) h.bd
  refine ⟨addV_valid _ _, ?_, ?_⟩
  · refine conV_add h.vt (appM_valid _ _) (by omega) (conV_den c2 (by grind) rfl) (conV_den c1 (by grind) rfl) b2 b1 ?_
    have e1 : C * D * F + 3 * (D * (B * F)) = (C + 3 * B) * (D * F) := by grind
    have e2 : 32768 * (65536 * (D * F)) = 2147483648 * (D * F) := by grind
    rw [e1, e2]; exact Int.mul_le_mul_of_nonneg_right hBC (Int.le_of_lt hG)
  · exact bd_den (add_bd b2 b1) (by grind)
theorem el_com {p q : Mo} {r s : R3} {D E C C' : Int} {a b : W3} (h : El p r D a C) (k : El q s E b C') (hB : 3 * C' ≤ 2147483648) (hBC : C + 3 * C' ≤ 2147483648) :
    El (comP p q) (comN r s) (D * E) (addN (sclN a E) (appN r b)) (C + 3 * C') := by
  obtain ⟨e1, e2, e3⟩ := el_app h k.vt k.pos k.ct k.bd hB hBC
  exact ⟨com_valid _ _, e1, Int.mul_pos h.pos k.pos, com_orth h.orth k.orth, con_com h.vr k.vr h.pos k.pos h.cr k.cr h.orth k.orth, e2, e3⟩
theorem mot_el {p : Mo} {t : W3} (h : MotI p t) : ∃ r D, El p r D (sclN t D) 196608 := by
  have rp := h.rp
  obtain ⟨h1, h2, h3, r, D, hD, o, c⟩ := h
  refine ⟨r, D, h1.valid, rp.2, hD, o, c, ?_, scl_bd (Int.le_of_lt hD) h3⟩
  rw [h2]
  exact conV_up hD (con_pnt h3 (by decide))
theorem negV_valid (v : V3) : VV (negV v) := ⟨valid_neg _, valid_neg _, valid_neg _⟩
theorem inv_el {p : Mo} {t : W3} {r : R3} {D : Int} (h : MotI p t) (k : El p r D (sclN t D) 196608) : El (invP p) (traN r) D (negN (appN (traN r) t)) 589824 := by
  have c1 := conV_app (VT k.vr) k.vt k.pos (by decide : (0 : Int) < 65536) (con_tra k.cr) (by rw [h.2.1]; exact con_pnt h.2.2.1 (by decide)) (orth_tra k.orth) h.2.2.1 (by have := k.pos; omega)
  have b1 := app_bd k.pos (orth_tra k.orth) h.2.2.1
  exact ⟨VT k.vr, negV_valid _, k.pos, orth_tra k.orth, con_tra k.cr, conV_den (conV_neg (appM_valid _ _) c1) (by grind) rfl, bd_den (neg_bd b1) (by grind)⟩
theorem pnt_start {x : W3} (h : BdV x 200000) : ConV (pntV x.x x.y x.z) x (65536 * 1) ∧ BdV x (200000 * 1) := ⟨con_pnt h (by decide), h⟩
theorem one_pos : (0 : Int) < 1 := by decide
/-- The way back. -/
theorem inverse_leads {p : Mo} {t x : W3} (h : MotI p t) (hx : BdV x 200000) :
    WV (pntV x.x x.y x.z) (appP (invP p) (appP p (pntV x.x x.y x.z))) ∧ WV (pntV x.x x.y x.z) (appP p (appP (invP p) (pntV x.x x.y x.z))) ∧
    WV (pntV x.x x.y x.z) (appP (comP p (invP p)) (pntV x.x x.y x.z)) := by
  obtain ⟨r, D, k⟩ := mot_el h
  have m := inv_el h k
  have hD := k.pos
  obtain ⟨cx, bx⟩ := pnt_start hx
  have vx := pnt_vv x.x x.y x.z
  have hG := Int.mul_pos hD hD
  have i1 := tra_app k.orth x
  have i2 := app_tra k.orth x
  have i3 := app_tra k.orth t
  refine ⟨?_, ?_, ?_⟩
  · obtain ⟨e1, e2, e3⟩ := el_app k vx one_pos cx bx (by decide) (by decide)
    obtain ⟨f1, f2, f3⟩ := el_app m e1 (by omega) e2 e3 (by decide) (by decide)
    refine withinV_con f1 hx (by decide) (conV_scale hG (conV_den f2 (by grind) ?_))
    rw [app_add, i1, app_scl, app_scl]
    refine W3.ext' ?_ ?_ ?_ <;> (unfold addN sclN negN; dsimp only; grind)
  · obtain ⟨e1, e2, e3⟩ := el_app m vx one_pos cx bx (by decide) (by decide)
    obtain ⟨f1, f2, f3⟩ := el_app k e1 (by omega) e2 e3 (by decide) (by decide)
    refine withinV_con f1 hx (by decide) (conV_scale hG (conV_den f2 (by grind) ?_))
    rw [app_add, i2, app_scl, app_neg, i3]
    refine W3.ext' ?_ ?_ ?_ <;> (unfold addN sclN negN; dsimp only; grind)
  · have g := el_com k m (by decide) (by decide)
    obtain ⟨f1, f2, f3⟩ := el_app g vx one_pos cx bx (by decide) (by decide)
    refine withinV_con f1 hx (by decide) (conV_scale hG (conV_den f2 (by grind) ?_))
    rw [com_app, i2, app_neg, i3]
    refine W3.ext' ?_ ?_ ?_ <;> (unfold addN sclN negN; dsimp only; grind)
theorem inverse_twice {p : Mo} {t : W3} (h : MotI p t) : WP p (invP (invP p)) := by
  obtain ⟨r, D, k⟩ := mot_el h
  have m := inv_el h k
  have hD := k.pos
  refine ⟨wm_self h.1.valid, ?_⟩
  have c1 := conV_app k.vr m.vt hD (by omega : (0 : Int) < 65536 * D) k.cr m.ct k.orth m.bd (by
    have e1 : 3 * (D * (589824 * D)) = 1769472 * (D * D) := by grind
    have e2 : 32768 * (D * (65536 * D)) = 2147483648 * (D * D) := by grind
    have := Int.mul_pos hD hD
    rw [e1, e2]; omega)
  have c2 := conV_neg (appM_valid _ _) c1
  have hG := Int.mul_pos hD hD
  have i3 := app_tra k.orth t
  have c3 : ConV (negV (appM p.r (invP p).t)) t 65536 := conV_scale hG (conV_den c2 (by grind) (by
    rw [app_neg, i3]
    refine W3.ext' ?_ ?_ ?_ <;> (unfold sclN negN; dsimp only; grind)))
  have := withinV_con (x := t) (negV_valid _) h.2.2.1 (by decide) c3
  rw [← h.2.1] at this
  exact this
def MV3 (a b : V3) : Prop := meets a.x b.x ∧ meets a.y b.y ∧ meets a.z b.z
/-- The image under a composition and the image of the image have common points. -/
theorem chain_meets {p q : Mo} {t u x : W3} (h : MotI p t) (h' : MotI q u) (hx : BdV x 200000) : MV3 (appP (comP p q) (pntV x.x x.y x.z)) (appP p (appP q (pntV x.x x.y x.z))) := by
  obtain ⟨r, D, k⟩ := mot_el h
  obtain ⟨s, E, m⟩ := mot_el h'
  obtain ⟨cx, bx⟩ := pnt_start hx
  have vx := pnt_vv x.x x.y x.z
  have g := el_com k m (by decide) (by decide)
  obtain ⟨f1, f2, f3⟩ := el_app g vx one_pos cx bx (by decide) (by decide)
  obtain ⟨e1, e2, e3⟩ := el_app m vx one_pos cx bx (by decide) (by decide)
  have hE := m.pos
  obtain ⟨g1, g2, g3⟩ := el_app k e1 (by omega) e2 e3 (by decide) (by decide)
  have hG := Int.mul_pos k.pos m.pos
  have g2' := conV_den (E := 65536 * (D * E * 1)) (u := addN (sclN (addN (sclN (sclN t D) E) (appN r (sclN u E))) 1) (appN (comN r s) x)) g2 (by grind) (by
    rw [app_add, com_app, app_scl, app_scl]
    refine W3.ext' ?_ ?_ ?_ <;> (unfold addN sclN; dsimp only; grind))
  exact ⟨con_meets f1.1 g1.1 (by omega) f2.1 g2'.1, con_meets f1.2.1 g1.2.1 (by omega) f2.2.1 g2'.2.1, con_meets f1.2.2 g1.2.2 (by omega) f2.2.2 g2'.2.2⟩
end Go.Proofs.Ytdplgiccpjlelaa
