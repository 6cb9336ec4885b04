/- Proved: plain arithmetic of intervals: parts of intervals give parts of the results, and numbers of two intervals give numbers of the results. Conditions: as each theorem states. Nothing of the program is used. -/
import Derived.Test.YtdplgiccpjlelaaIvN
namespace Go.Proofs.Ytdplgiccpjlelaa
open Go.RowKit

theorem seg {l x h y : Int} (h1 : l ≤ x) (h2 : x ≤ h) : min (l * y) (h * y) ≤ x * y ∧ x * y ≤ max (l * y) (h * y) := by
  rcases Int.le_total 0 y with hy | hy
  · have := Int.mul_le_mul_of_nonneg_right h1 hy
    have := Int.mul_le_mul_of_nonneg_right h2 hy
    omega
  · have := Int.mul_le_mul_of_nonpos_right h1 hy
    have := Int.mul_le_mul_of_nonpos_right h2 hy
    omega
/-- A product of two numbers lies between the least and the greatest product of the ends. -/
theorem corners {a1 x a2 b1 y b2 : Int} (h1 : a1 ≤ x) (h2 : x ≤ a2) (h3 : b1 ≤ y) (h4 : y ≤ b2) :
    min4 (a1 * b1) (a1 * b2) (a2 * b1) (a2 * b2) ≤ x * y ∧ x * y ≤ max4 (a1 * b1) (a1 * b2) (a2 * b1) (a2 * b2) := by
  have s := seg (y := y) h1 h2
  have t1 := seg (y := a1) h3 h4
  have t2 := seg (y := a2) h3 h4
  rw [Int.mul_comm b1, Int.mul_comm b2, Int.mul_comm y] at t1 t2
  unfold min4 max4
  omega
theorem resI_within {x y u v : Int} (h1 : u ≤ x) (h2 : x ≤ y) (h3 : y ≤ v) : Within (resI x y) (resI u v) :=
  ⟨⟨valid_res h2, valid_res (Int.le_trans h1 (Int.le_trans h2 h3))⟩, clamp_mono (by omega), clamp_mono (by omega)⟩
theorem limI_within {x y u v : Int} (h1 : u ≤ x) (h2 : x ≤ y) (h3 : y ≤ v) : Within (limI x y) (limI u v) :=
  ⟨⟨valid_lim h2, valid_lim (Int.le_trans h1 (Int.le_trans h2 h3))⟩, clamp_mono h1, clamp_mono h3⟩
theorem Within.valid {a b : Iv} (h : Within a b) : Valid a := h.1.1
theorem add_within {a b c d : Iv} (h : Within a c) (k : Within b d) : Within (addI a b) (addI c d) := by
  unfold addI
  rw [when2_yes h.1.1 k.1.1, when2_yes h.1.2 k.1.2]
  obtain ⟨⟨⟨_, _, _⟩, _⟩, _, _⟩ := h
  obtain ⟨⟨⟨_, _, _⟩, _⟩, _, _⟩ := k
  exact limI_within (by omega) (by omega) (by omega)
theorem sub_within {a b c d : Iv} (h : Within a c) (k : Within b d) : Within (subI a b) (subI c d) := by
  unfold subI
  rw [when2_yes h.1.1 k.1.1, when2_yes h.1.2 k.1.2]
  obtain ⟨⟨⟨_, _, _⟩, _⟩, _, _⟩ := h
  obtain ⟨⟨⟨_, _, _⟩, _⟩, _, _⟩ := k
  exact limI_within (by omega) (by omega) (by omega)
theorem neg_within {a c : Iv} (h : Within a c) : Within (negI a) (negI c) := by
  refine ⟨⟨valid_neg a, valid_neg c⟩, ?_⟩
  unfold negI
  rw [when1_yes h.1.1, when1_yes h.1.2]
  have := h.2
  simp only
  omega
theorem mul_within {a b c d : Iv} (h : Within a c) (k : Within b d) : Within (mulI a b) (mulI c d) := by
  unfold mulI
  rw [when2_yes h.1.1 k.1.1, when2_yes h.1.2 k.1.2]
  obtain ⟨⟨⟨_, h1, _⟩, _⟩, h2, h3⟩ := h
  obtain ⟨⟨⟨_, k1, _⟩, _⟩, k2, k3⟩ := k
  have p1 := corners (x := a.lo) (y := b.lo) h2 (by omega) k2 (show b.lo ≤ d.hi by omega) (a2 := c.hi)
  have p2 := corners (x := a.lo) (y := b.hi) h2 (show a.lo ≤ c.hi by omega) (show d.lo ≤ b.hi by omega) k3
  have p3 := corners (x := a.hi) (y := b.lo) (show c.lo ≤ a.hi by omega) h3 k2 (show b.lo ≤ d.hi by omega)
  have p4 := corners (x := a.hi) (y := b.hi) (show c.lo ≤ a.hi by omega) h3 (show d.lo ≤ b.hi by omega) k3
  refine resI_within ?_ ?_ ?_
  · unfold min4 at *; omega
  · unfold min4 max4; omega
  · unfold max4 at *; omega
theorem hul_within {a b c d : Iv} (h : Within a c) (k : Within b d) : Within (hulI a b) (hulI c d) := by
  refine ⟨⟨valid_hul a b, valid_hul c d⟩, ?_⟩
  unfold hulI
  rw [when2_yes h.1.1 k.1.1, when2_yes h.1.2 k.1.2]
  have := h.2
  have := k.2
  simp only
  omega
/-- The least and the greatest square of the numbers of an interval. -/
def sqLo (a : Iv) : Int := if a.lo ≤ 0 ∧ 0 ≤ a.hi then 0 else min (a.lo * a.lo) (a.hi * a.hi)
def sqHi (a : Iv) : Int := max (a.lo * a.lo) (a.hi * a.hi)
theorem sqrI_eq {a : Iv} (h : Valid a) : sqrI a = resI (sqLo a) (sqHi a) := when1_yes h
theorem sq_neg_le {x y : Int} (h : x ≤ y) (hy : y ≤ 0) : y * y ≤ x * x := by
  have := sq_le (a := -y) (b := -x) (by omega) (by omega)
  rwa [Int.neg_mul_neg, Int.neg_mul_neg] at this
theorem sq_bounds {a : Iv} {x : Int} (h1 : a.lo ≤ x) (h2 : x ≤ a.hi) : sqLo a ≤ x * x ∧ x * x ≤ sqHi a := by
  unfold sqLo sqHi
  have s0 := sq_nonneg x
  constructor
  · split
    · exact s0
    · rename_i hn
      by_cases h0 : 0 ≤ a.lo
      · have := sq_le h0 h1; omega
      · have := sq_neg_le h2 (by omega); omega
  · rcases Int.le_total 0 x with hx | hx
    · have := sq_le hx h2; omega
    · have := sq_neg_le h1 hx; omega
theorem sqLo_le {a : Iv} (h : a.lo ≤ a.hi) : sqLo a ≤ sqHi a := Int.le_trans (sq_bounds (x := a.lo) (Int.le_refl _) h).1 (sq_bounds (x := a.lo) (Int.le_refl _) h).2
theorem sqr_within {a c : Iv} (h : Within a c) : Within (sqrI a) (sqrI c) := by
  rw [sqrI_eq h.1.1, sqrI_eq h.1.2]
  obtain ⟨⟨⟨_, h1, _⟩, _⟩, h2, h3⟩ := h
  refine resI_within ?_ (sqLo_le h1) ?_
  · have p1 := (sq_bounds (a := c) (x := a.lo) h2 (by omega)).1
    have p2 := (sq_bounds (a := c) (x := a.hi) (by omega) h3).1
    by_cases g : a.lo ≤ 0 ∧ 0 ≤ a.hi
    · have p0 := (sq_bounds (a := c) (x := 0) (by omega) (by omega)).1
      rw [show sqLo a = 0 from if_pos g]
      omega
    · rw [show sqLo a = min (a.lo * a.lo) (a.hi * a.hi) from if_neg g]
      omega
  · have p1 := (sq_bounds (a := c) (x := a.lo) h2 (by omega)).2
    have p2 := (sq_bounds (a := c) (x := a.hi) (by omega) h3).2
    show sqHi a ≤ _
    unfold sqHi at p1 p2 ⊢
    omega
theorem sqt_within {a c : Iv} (h : Within a c) : Within (sqtI a) (sqtI c) := by
  refine ⟨⟨valid_sqt a, valid_sqt c⟩, ?_⟩
  unfold sqtI
  rw [when1_yes h.1.1, when1_yes h.1.2]
  exact ⟨sqD_mono h.2.1, sqU_mono h.2.2⟩
theorem scl_within {a c : Iv} (k : Int) (h : Within a c) : Within (sclI a k) (sclI c k) := by
  unfold sclI
  rw [when1_yes h.1.1, when1_yes h.1.2]
  obtain ⟨⟨⟨_, h1, _⟩, _⟩, h2, h3⟩ := h
  have p1 := seg (x := a.lo) (y := clampI k) h2 (show a.lo ≤ c.hi by omega)
  have p2 := seg (x := a.hi) (y := clampI k) (show c.lo ≤ a.hi by omega) h3
  exact limI_within (by omega) (by omega) (by omega)

/-! Units. -/
theorem neg_neg_I {a : Iv} (h : Valid a) : negI (negI a) = a := by
  have h2 := valid_neg a
  unfold negI at *
  rw [when1_yes h] at *
  rw [when1_yes h2]
  simp only [Int.neg_neg]
theorem sub_self_I {a : Iv} (h : Valid a) : Has (subI a a) 0 := by
  refine ⟨valid_sub a a, ?_⟩
  unfold subI
  rw [when2_yes h h]
  obtain ⟨_, h2, _⟩ := h
  have h3 : clampI 0 = 0 := rfl
  have h4 := clamp_mono (show a.lo - a.hi ≤ 0 by omega)
  have h5 := clamp_mono (show 0 ≤ a.hi - a.lo by omega)
  unfold limI
  simp only
  omega
theorem sqr_in_mul {a : Iv} (h : Valid a) : Within (sqrI a) (mulI a a) := by
  rw [sqrI_eq h]
  unfold mulI
  rw [when2_yes h h]
  obtain ⟨_, h2, _⟩ := h
  have p1 := corners (Int.le_refl a.lo) h2 (Int.le_refl a.lo) h2
  have p2 := corners h2 (Int.le_refl a.hi) h2 (Int.le_refl a.hi)
  refine resI_within ?_ (sqLo_le h2) ?_
  · unfold sqLo
    split
    · rename_i h0
      have p0 := (corners h0.1 h0.2 h0.1 h0.2).1
      omega
    · omega
  · unfold sqHi
    omega
theorem scl_one_I {a : Iv} (h : Valid a) : sclI a 1 = a := by
  unfold sclI
  rw [when1_yes h]
  obtain ⟨h1, h2, h3⟩ := h
  have e : clampI 1 = 1 := rfl
  unfold limI
  rw [e, Int.mul_one, Int.mul_one, show min a.lo a.hi = a.lo by omega, show max a.lo a.hi = a.hi by omega, clamp_id h1 (by omega), clamp_id (by omega) h3]

/-! Numbers of intervals. -/
/-- x belongs to a, or is beyond the range. -/
def Holds (a : Iv) (x : Int) : Prop := x < -2147483648 ∨ 2147483648 < x ∨ (a.lo ≤ x ∧ x ≤ a.hi)
theorem holds_lim {u x v : Int} (h1 : u ≤ x) (h2 : x ≤ v) : Holds (limI u v) x := by
  by_cases h3 : x < -2147483648
  · exact Or.inl h3
  · by_cases h4 : 2147483648 < x
    · exact Or.inr (Or.inl h4)
    · have e := clamp_id (a := x) (by omega) (by omega)
      have := clamp_mono h1
      have := clamp_mono h2
      refine Or.inr (Or.inr ?_)
      unfold limI
      simp only
      omega
theorem add_holds {a b : Iv} {x y : Int} (h : Has a x) (k : Has b y) : Holds (addI a b) (x + y) := by
  unfold addI
  rw [when2_yes h.1 k.1]
  have := h.2
  have := k.2
  exact holds_lim (by omega) (by omega)
theorem sub_holds {a b : Iv} {x y : Int} (h : Has a x) (k : Has b y) : Holds (subI a b) (x - y) := by
  unfold subI
  rw [when2_yes h.1 k.1]
  have := h.2
  have := k.2
  exact holds_lim (by omega) (by omega)
theorem neg_holds {a : Iv} {x : Int} (h : Has a x) : Holds (negI a) (-x) := by
  unfold negI
  rw [when1_yes h.1]
  have := h.2
  refine Or.inr (Or.inr ?_)
  simp only
  omega
theorem has_range {a : Iv} {x : Int} (h : Has a x) : -2147483648 ≤ x ∧ x ≤ 2147483648 := by
  obtain ⟨⟨_, _, _⟩, _, _⟩ := h
  omega
theorem has_lo {a p : Iv} (h : Within p a) : Has a p.lo := ⟨h.1.2, h.2.1, Int.le_trans h.1.1.2.1 h.2.2⟩
theorem has_clamp {a : Iv} {x : Int} (h : Has a x) : clampI x = x := clamp_id (has_range h).1 (has_range h).2
theorem mul_holds {a b : Iv} {x y : Int} (h : Has a x) (k : Has b y) : Holds (mulI a b) (mulD x y) ∧ Holds (mulI a b) (mulU x y) := by
  unfold mulI
  rw [when2_yes h.1 k.1]
  obtain ⟨c1, c2⟩ := corners h.2.1 h.2.2 k.2.1 k.2.2
  have e : pr x y = x * y := by unfold pr; rw [has_clamp h, has_clamp k]
  unfold mulD mulU
  rw [e]
  exact ⟨holds_lim (by omega) (by omega), holds_lim (by omega) (by omega)⟩
theorem sqr_holds {a : Iv} {x : Int} (h : Has a x) : Holds (sqrI a) (mulD x x) := by
  rw [sqrI_eq h.1]
  obtain ⟨c1, c2⟩ := sq_bounds h.2.1 h.2.2
  have e : pr x x = x * x := by unfold pr; rw [has_clamp h]
  unfold mulD
  rw [e]
  exact holds_lim (by omega) (by omega)

/-! A root's square. -/
theorem sqt_sqr {a : Iv} (h : Valid a) (h0 : 0 ≤ a.lo) : Within a (sqrI (sqtI a)) := by
  refine ⟨⟨h, valid_sqr _⟩, ?_⟩
  rw [sqrI_eq (valid_sqt a)]
  obtain ⟨h1, h2, h3⟩ := h
  have e1 : clampI a.lo = a.lo := clamp_id h1 (by omega)
  have e2 : clampI a.hi = a.hi := clamp_id (by omega) h3
  have hs : sqtI a = ⟨sqD a.lo, sqU a.hi⟩ := when1_yes ⟨h1, h2, h3⟩
  rw [hs]
  have d1 : sqD a.lo * sqD a.lo ≤ a.lo * 65536 := by
    unfold sqD
    rw [e1, show max a.lo 0 = a.lo by omega]
    exact root_sq (by omega)
  have d2 : a.hi * 65536 ≤ sqU a.hi * sqU a.hi := by
    unfold sqU
    rw [e2, show max a.hi 0 = a.hi by omega]
    exact root_up_ge
  have d0 := sqD_nonneg a.lo
  have u0 : sqD a.lo ≤ sqU a.hi := Int.le_trans (sqD_mono h2) (root_le_up _)
  have dd := sq_nonneg (sqD a.lo)
  have c1 : clampI (sqLo ⟨sqD a.lo, sqU a.hi⟩ / 65536) ≤ a.lo := by
    have : sqLo ⟨sqD a.lo, sqU a.hi⟩ ≤ sqD a.lo * sqD a.lo := (sq_bounds (a := ⟨sqD a.lo, sqU a.hi⟩) (Int.le_refl _) u0).1
    have := clamp_mono (show sqLo ⟨sqD a.lo, sqU a.hi⟩ / 65536 ≤ a.lo by omega)
    omega
  have c2 : a.hi ≤ clampI (-(-sqHi ⟨sqD a.lo, sqU a.hi⟩ / 65536)) := by
    have : sqU a.hi * sqU a.hi ≤ sqHi ⟨sqD a.lo, sqU a.hi⟩ := (sq_bounds (a := ⟨sqD a.lo, sqU a.hi⟩) u0 (Int.le_refl _)).2
    have := clamp_mono (show a.hi ≤ -(-sqHi ⟨sqD a.lo, sqU a.hi⟩ / 65536) by omega)
    omega
  exact ⟨c1, c2⟩
end Go.Proofs.Ytdplgiccpjlelaa
