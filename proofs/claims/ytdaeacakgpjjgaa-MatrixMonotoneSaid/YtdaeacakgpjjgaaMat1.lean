/- Proved: plain arithmetic of vectors and matrices of intervals: parts, quarters of a turn, sums of angles. Conditions: as each theorem states. Nothing of the program is used. -/
import Derived.Test.YtdaeacakgpjjgaaAng4
namespace Go.Proofs.Ytdaeacakgpjjgaa
open Go.RowKit

structure V3 where
  x : Iv
  y : Iv
  z : Iv
structure M3 where
  x : V3
  y : V3
  z : V3
def lim1 (a : Iv) : Iv := ⟨max (-65536) (min a.lo 65536), max (-65536) (min a.hi 65536)⟩
def dotV (r v : V3) : Iv := addI (addI (mulI r.x v.x) (mulI r.y v.y)) (mulI r.z v.z)
def appM (m : M3) (v : V3) : V3 := ⟨dotV m.x v, dotV m.y v, dotV m.z v⟩
def traM (m : M3) : M3 := ⟨⟨m.x.x, m.y.x, m.z.x⟩, ⟨m.x.y, m.y.y, m.z.y⟩, ⟨m.x.z, m.y.z, m.z.z⟩⟩
/-- A row times the columns of a matrix, each within -1 and 1. -/
def rowM (r : V3) (b : M3) : V3 := ⟨lim1 (dotV r (traM b).x), lim1 (dotV r (traM b).y), lim1 (dotV r (traM b).z)⟩
def comM (a b : M3) : M3 := ⟨rowM a.x b, rowM a.y b, rowM a.z b⟩
def zeroV : V3 := ⟨zeroI, zeroI, zeroI⟩
def zeroM : M3 := ⟨zeroV, zeroV, zeroV⟩
def oneI : Iv := ofI 65536
def unitM : M3 := ⟨⟨oneI, zeroI, zeroI⟩, ⟨zeroI, oneI, zeroI⟩, ⟨zeroI, zeroI, oneI⟩⟩
def pntV (a b c : Int) : V3 := ⟨ofI a, ofI b, ofI c⟩
def addV (a b : V3) : V3 := ⟨addI a.x b.x, addI a.y b.y, addI a.z b.z⟩
def subV (a b : V3) : V3 := ⟨subI a.x b.x, subI a.y b.y, subI a.z b.z⟩
/-- The rotation about an axis whose cosine and sine are c and s. -/
def rotM (k : Int) (c s : Iv) : M3 :=
  if k = 0 then ⟨⟨oneI, zeroI, zeroI⟩, ⟨zeroI, c, negI s⟩, ⟨zeroI, s, c⟩⟩ else
  if k = 1 then ⟨⟨c, zeroI, s⟩, ⟨zeroI, oneI, zeroI⟩, ⟨negI s, zeroI, c⟩⟩ else
  if k = 2 then ⟨⟨c, negI s, zeroI⟩, ⟨s, c, zeroI⟩, ⟨zeroI, zeroI, oneI⟩⟩ else zeroM
def trnM (k : Int) (a : Iv) : M3 := if Valid a then rotM k (cosO a) (sinO a) else zeroM
def WV (a b : V3) : Prop := Within a.x b.x ∧ Within a.y b.y ∧ Within a.z b.z
def WM (a b : M3) : Prop := WV a.x b.x ∧ WV a.y b.y ∧ WV a.z b.z
/-! Parts. -/
theorem one_valid : Valid oneI := by unfold oneI; rw [of_one]; decide
theorem zero_valid : Valid zeroI := by decide
theorem within_self {a : Iv} (h : Valid a) : Within a a := ⟨⟨h, h⟩, Int.le_refl _, Int.le_refl _⟩
theorem lim1_within {a b : Iv} (h : Within a b) : Within (lim1 a) (lim1 b) := by
  obtain ⟨⟨⟨_, _, _⟩, ⟨_, _, _⟩⟩, _, _⟩ := h
  unfold Within Valid lim1
  dsimp only
  omega
theorem dot_within {r s u v : V3} (h : WV r s) (k : WV u v) : Within (dotV r u) (dotV s v) :=
  add_within (add_within (mul_within h.1 k.1) (mul_within h.2.1 k.2.1)) (mul_within h.2.2 k.2.2)
theorem app_within {m n : M3} {u v : V3} (h : WM m n) (k : WV u v) : WV (appM m u) (appM n v) := ⟨dot_within h.1 k, dot_within h.2.1 k, dot_within h.2.2 k⟩
theorem tra_within {m n : M3} (h : WM m n) : WM (traM m) (traM n) := ⟨⟨h.1.1, h.2.1.1, h.2.2.1⟩, ⟨h.1.2.1, h.2.1.2.1, h.2.2.2.1⟩, ⟨h.1.2.2, h.2.1.2.2, h.2.2.2.2⟩⟩
theorem row_within {r s : V3} {m n : M3} (h : WV r s) (k : WM m n) : WV (rowM r m) (rowM s n) :=
  ⟨lim1_within (dot_within h (tra_within k).1), lim1_within (dot_within h (tra_within k).2.1), lim1_within (dot_within h (tra_within k).2.2)⟩
theorem com_within {a b c d : M3} (h : WM a b) (k : WM c d) : WM (comM a c) (comM b d) := ⟨row_within h.1 k, row_within h.2.1 k, row_within h.2.2 k⟩
theorem addV_within {a b c d : V3} (h : WV a b) (k : WV c d) : WV (addV a c) (addV b d) := ⟨add_within h.1 k.1, add_within h.2.1 k.2.1, add_within h.2.2 k.2.2⟩
theorem subV_within {a b c d : V3} (h : WV a b) (k : WV c d) : WV (subV a c) (subV b d) := ⟨sub_within h.1 k.1, sub_within h.2.1 k.2.1, sub_within h.2.2 k.2.2⟩
theorem rot_within {k : Int} {c s c' s' : Iv} (hc : Within c c') (hs : Within s s') : WM (rotM k c s) (rotM k c' s') := by
  have o := within_self one_valid
  have z := within_self zero_valid
  have n := neg_within hs
  unfold rotM
  by_cases h0 : k = 0
  · rw [if_pos h0, if_pos h0]; exact ⟨⟨o, z, z⟩, ⟨z, hc, n⟩, ⟨z, hs, hc⟩⟩
  · rw [if_neg h0, if_neg h0]
    by_cases h1 : k = 1
    · rw [if_pos h1, if_pos h1]; exact ⟨⟨hc, z, hs⟩, ⟨z, o, z⟩, ⟨n, z, hc⟩⟩
    · rw [if_neg h1, if_neg h1]
      by_cases h2 : k = 2
      · rw [if_pos h2, if_pos h2]; exact ⟨⟨hc, n, z⟩, ⟨hs, hc, z⟩, ⟨z, z, o⟩⟩
      · rw [if_neg h2, if_neg h2]; exact ⟨⟨z, z, z⟩, ⟨z, z, z⟩, ⟨z, z, z⟩⟩
theorem sinO_within {a b : Iv} (h : Within b a) : Within (sinO b) (sinO a) := by have := over_nested (s := 0) h; rwa [← sinO_eq, ← sinO_eq] at this
theorem cosO_within {a b : Iv} (h : Within b a) : Within (cosO b) (cosO a) := by have := over_nested (s := 16384) h; rwa [← cosO_eq, ← cosO_eq] at this
theorem trn_within {k : Int} {a b : Iv} (h : Within b a) : WM (trnM k b) (trnM k a) := by
  unfold trnM
  rw [if_pos h.1.1, if_pos h.1.2]
  exact rot_within (cosO_within h) (sinO_within h)
/-- The entries of a matrix are valid intervals. -/
def VV (v : V3) : Prop := Valid v.x ∧ Valid v.y ∧ Valid v.z
def VM (m : M3) : Prop := VV m.x ∧ VV m.y ∧ VV m.z
theorem wm_self {m : M3} (h : VM m) : WM m m := ⟨⟨within_self h.1.1, within_self h.1.2.1, within_self h.1.2.2⟩, ⟨within_self h.2.1.1, within_self h.2.1.2.1, within_self h.2.1.2.2⟩, ⟨within_self h.2.2.1, within_self h.2.2.2.1, within_self h.2.2.2.2⟩⟩
theorem wv_self {v : V3} (h : VV v) : WV v v := ⟨within_self h.1, within_self h.2.1, within_self h.2.2⟩
theorem sinO_valid (a : Iv) : Valid (sinO a) := over_valid _ _ _ _ _
theorem cosO_valid (a : Iv) : Valid (cosO a) := over_valid _ _ _ _ _
theorem rot_valid {k : Int} {c s : Iv} (hc : Valid c) (hs : Valid s) : VM (rotM k c s) := by
  have h := rot_within (k := k) (within_self hc) (within_self hs)
  exact ⟨⟨h.1.1.1.1, h.1.2.1.1.1, h.1.2.2.1.1⟩, ⟨h.2.1.1.1.1, h.2.1.2.1.1.1, h.2.1.2.2.1.1⟩, ⟨h.2.2.1.1.1, h.2.2.2.1.1.1, h.2.2.2.2.1.1⟩⟩
theorem trn_valid (k : Int) (a : Iv) : VM (trnM k a) := by
  unfold trnM
  by_cases h : Valid a
  · rw [if_pos h]; exact rot_valid (cosO_valid a) (sinO_valid a)
  · rw [if_neg h]; exact ⟨⟨zero_valid, zero_valid, zero_valid⟩, ⟨zero_valid, zero_valid, zero_valid⟩, ⟨zero_valid, zero_valid, zero_valid⟩⟩
/-! A rotation by one angle. -/
theorem over_point {s n : Int} (h : Valid ⟨n, n⟩) : overS s ⟨n, n⟩ = sinA (n + s) := by
  have hv := sin_valid (n + s)
  have hr := sin_range (n + s)
  have hw := over_contains (s := s) (a := ⟨n, n⟩) (n := n) h (Int.le_refl _) (Int.le_refl _)
  have e := over_ends (t := 16384 - s) (b := 49152 - s) h (by dsimp only; omega) hv hv
  have top : Hits ⟨n, n⟩ (16384 - s) → sinA (n + s) = ⟨65536, 65536⟩ := fun ht => by
    obtain ⟨m, h1, h2, h3⟩ := hits_has ht
    dsimp only at h2 h3
    obtain rfl : m = n := by omega
    rw [sinA_of (a := m + s) (m := 16384) (by omega), turn_1 (by decide) (by decide)]
    exact q_top
  have bot : Hits ⟨n, n⟩ (49152 - s) → sinA (n + s) = ⟨-65536, -65536⟩ := fun ht => by
    obtain ⟨m, h1, h2, h3⟩ := hits_has ht
    dsimp only at h2 h3
    obtain rfl : m = n := by omega
    rw [sinA_of (a := m + s) (m := 49152) (by omega), turn_3 (by decide), show (65536 : Int) - 49152 = 16384 by decide, q_top]
    rfl
  obtain ⟨e1, e2⟩ := e
  unfold overS
  apply Iv.ext'
  · dsimp only at e1 ⊢
    rw [e1]
    by_cases h1 : Hits ⟨n, n⟩ (49152 - s)
    · rw [if_pos h1, bot h1]
      by_cases h2 : Hits ⟨n, n⟩ (16384 - s)
      · rw [if_pos h2]; decide
      · rw [if_neg h2]; decide
    · rw [if_neg h1]
      by_cases h2 : Hits ⟨n, n⟩ (16384 - s)
      · rw [if_pos h2, top h2]; decide
      · rw [if_neg h2]; omega
  · dsimp only at e2 ⊢
    rw [e2]
    by_cases h1 : Hits ⟨n, n⟩ (49152 - s)
    · rw [if_pos h1, bot h1]
      by_cases h2 : Hits ⟨n, n⟩ (16384 - s)
      · exfalso; have := top h2; rw [bot h1] at this; simp at this
      · rw [if_neg h2]; decide
    · rw [if_neg h1]
      by_cases h2 : Hits ⟨n, n⟩ (16384 - s)
      · rw [if_pos h2, top h2]; decide
      · rw [if_neg h2]; omega
theorem trn_point {k n : Int} (h1 : -2147483648 ≤ n) (h2 : n ≤ 2147483648) : trnM k (ofI n) = rotM k (cosA n) (sinA n) := by
  rw [ofI_id h1 h2]
  have hv : Valid ⟨n, n⟩ := ⟨h1, Int.le_refl _, h2⟩
  unfold trnM
  rw [if_pos hv, cosO_eq, sinO_eq, over_point hv, over_point hv, Int.add_zero, ← cosA_eq]
end Go.Proofs.Ytdaeacakgpjjgaa
