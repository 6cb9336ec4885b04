/- Proved: plain arithmetic of sines and cosines: the circle, rising and falling, and that the values over an interval contain the values of its angles and of its parts. Conditions: as each theorem states. Nothing of the program is used. -/
import Derived.Test.YtdplgiccpjlelaaAng3
namespace Go.Proofs.Ytdplgiccpjlelaa
open Go.RowKit

/-! The circle. -/
theorem sqr_neg {a : Iv} (h : Valid a) : sqrI (negI a) = sqrI a := by
  rw [sqrI_eq (valid_neg a), sqrI_eq h]
  have e1 := neg_lo h
  have e2 := neg_hi h
  have l : sqLo (negI a) = sqLo a := by
    unfold sqLo
    rw [e1, e2, Int.neg_mul_neg, Int.neg_mul_neg, Int.min_comm]
    by_cases c : a.lo ≤ 0 ∧ 0 ≤ a.hi
    · rw [if_pos c, if_pos (by omega)]
    · rw [if_neg c, if_neg (by omega)]
  have u : sqHi (negI a) = sqHi a := by
    unfold sqHi
    rw [e1, e2, Int.neg_mul_neg, Int.neg_mul_neg, Int.max_comm]
  rw [l, u]
theorem sqr_q {r : Nat} (h : r ≤ 16384) : sqrI (qZ r) = ⟨(sLo r * sLo r / 65536 : Nat), (cdN (sHi r * sHi r) 65536 : Nat)⟩ := by
  have hr := q_range (r := r) (by omega) (by omega)
  have hv := q_valid (r := r) (by omega) (by omega)
  rw [sqrI_eq hv]
  rw [q_nat h] at hr ⊢
  simp only at hr
  obtain ⟨r1, r2, r3, r4⟩ := hr
  have e1 : sqLo ⟨(sLo r : Nat), (sHi r : Nat)⟩ = ((sLo r * sLo r : Nat) : Int) := by
    unfold sqLo
    simp only
    by_cases c : ((sLo r : Nat) : Int) ≤ 0 ∧ (0 : Int) ≤ ((sHi r : Nat) : Int)
    · rw [if_pos c]
      have : sLo r = 0 := by omega
      rw [this]
      rfl
    · rw [if_neg c, Int.natCast_mul]
      have := sq_le r1 r2
      omega
  have e2 : sqHi ⟨(sLo r : Nat), (sHi r : Nat)⟩ = ((sHi r * sHi r : Nat) : Int) := by
    unfold sqHi
    simp only
    have := sq_le r1 r2
    rw [Int.natCast_mul]
    omega
  have b1 : sLo r * sLo r ≤ 65536 * 65536 := Nat.mul_le_mul (by omega) (by omega)
  have b2 : sHi r * sHi r ≤ 65536 * 65536 := Nat.mul_le_mul (by omega) (by omega)
  have e3 := ce_nat (sHi r * sHi r) 65536 (by decide)
  unfold ce at e3
  have e4 : ((65536 : Nat) : Int) = 65536 := rfl
  rw [e4] at e3
  unfold resI limI
  rw [e1, e2, e3]
  have b3 : cdN (sHi r * sHi r) 65536 ≤ 65536 := by unfold cdN; omega
  rw [clamp_id (by omega) (by omega), clamp_id (by omega) (by omega)]
  congr 1
theorem circle_q {r : Int} (h1 : 0 ≤ r) (h2 : r ≤ 16384) : Has (addI (sqrI (qZ r)) (sqrI (qZ (16384 - r)))) 65536 := by
  refine ⟨valid_add _ _, ?_⟩
  obtain ⟨n, rfl⟩ := Int.eq_ofNat_of_zero_le h1
  have e : (16384 - (n : Int)) = ((16384 - n : Nat) : Int) := by omega
  have f := s_facts (r := n) (by omega)
  have v1 := valid_sqr (qZ (n : Int))
  have v2 := valid_sqr (qZ ((16384 - n : Nat) : Int))
  unfold addI
  rw [e, when2_yes v1 v2]
  rw [sqr_q (by omega), sqr_q (by omega)] at *
  have f' := s_facts (r := 16384 - n) (by omega)
  have b1 : sHi n * sHi n ≤ 65536 * 65536 := Nat.mul_le_mul f.2.1 f.2.1
  have b2 : sHi (16384 - n) * sHi (16384 - n) ≤ 65536 * 65536 := Nat.mul_le_mul f'.2.1 f'.2.1
  have b3 : cdN (sHi n * sHi n) 65536 ≤ 65536 := by unfold cdN; omega
  have b4 : cdN (sHi (16384 - n) * sHi (16384 - n)) 65536 ≤ 65536 := by unfold cdN; omega
  unfold Valid at v1 v2
  unfold limI
  simp only at v1 v2 ⊢
  rw [clamp_id (by omega) (by omega), clamp_id (by omega) (by omega)]
  omega
theorem circle_comm {x y : Iv} (h : Has (addI (sqrI x) (sqrI y)) 65536) : Has (addI (sqrI y) (sqrI x)) 65536 := by
  have e : addI (sqrI y) (sqrI x) = addI (sqrI x) (sqrI y) := by
    unfold addI
    rw [when2_yes (valid_sqr _) (valid_sqr _), when2_yes (valid_sqr _) (valid_sqr _), Int.add_comm, Int.add_comm (sqrI y).hi]
  rw [e]
  exact h
theorem circle (a : Int) : Has (addI (sqrI (sinA a)) (sqrI (cosA a))) 65536 := by
  rw [cosA_eq, ← sinA_mod, ← sinA_mod (a + 16384)]
  generalize hm : a % 65536 = m
  have h0 : 0 ≤ m := by omega
  have h1 : m < 65536 := by omega
  by_cases c1 : m ≤ 16384
  · rw [show (a + 16384) % 65536 = m + 16384 by omega, sin_q0 h0 c1, sin_q1 (a := m + 16384) (by omega) (by omega), show 32768 - (m + 16384) = 16384 - m by omega]
    exact circle_q h0 c1
  by_cases c2 : m ≤ 32768
  · rw [show (a + 16384) % 65536 = m + 16384 by omega, sin_q1 (a := m) (by omega) c2, sin_q2 (a := m + 16384) (by omega) (by omega), sqr_neg (q_valid (by omega) (by omega))]
    have := circle_q (r := 32768 - m) (by omega) (by omega)
    rwa [show 16384 - (32768 - m) = m + 16384 - 32768 by omega] at this
  by_cases c3 : m < 49152
  · rw [show (a + 16384) % 65536 = m + 16384 by omega, sin_q2 (a := m) (by omega) (by omega), sin_q3 (a := m + 16384) (by omega) (by omega), sqr_neg (q_valid (by omega) (by omega)), sqr_neg (q_valid (by omega) (by omega))]
    have := circle_q (r := m - 32768) (by omega) (by omega)
    rwa [show 16384 - (m - 32768) = 65536 - (m + 16384) by omega] at this
  · rw [show (a + 16384) % 65536 = m - 49152 by omega, sin_q3 (a := m) (by omega) (by omega), sin_q0 (a := m - 49152) (by omega) (by omega), sqr_neg (q_valid (by omega) (by omega))]
    have := circle_q (r := 65536 - m) (by omega) (by omega)
    rwa [show 16384 - (65536 - m) = m - 49152 by omega] at this

/-! Rising and falling. -/
theorem sin_rises {r : Int} (h1 : 0 ≤ r) (h2 : r < 16384) : (sinA r).lo ≤ (sinA (r + 1)).lo ∧ (sinA r).hi ≤ (sinA (r + 1)).hi := by
  rw [sin_q0 h1 (by omega), sin_q0 (a := r + 1) (by omega) (by omega)]
  exact q_step h1 h2
theorem cos_falls {r : Int} (h1 : 0 ≤ r) (h2 : r < 16384) : (cosA (r + 1)).lo ≤ (cosA r).lo ∧ (cosA (r + 1)).hi ≤ (cosA r).hi := by
  rw [cosA_eq, cosA_eq, sin_q1 (a := r + 1 + 16384) (by omega) (by omega), sin_q1 (a := r + 16384) (by omega) (by omega)]
  exact q_mono (by omega) (by omega) (by omega)
theorem sin_turns (a : Int) (k : Int) : sinA (a + 65536 * k) = sinA a := by unfold sinA; rw [show (a + 65536 * k) % 65536 = a % 65536 by omega]
/-- x's interval lies below y's, end by end. -/
def Under (x y : Iv) : Prop := x.lo ≤ y.lo ∧ x.hi ≤ y.hi
theorem Under.trans {x y z : Iv} (h : Under x y) (k : Under y z) : Under x z := ⟨Int.le_trans h.1 k.1, Int.le_trans h.2 k.2⟩
theorem rising0 {x y : Int} (h1 : -16384 ≤ x) (h2 : x ≤ y) (h3 : y ≤ 16384) : Under (sinA x) (sinA y) := by
  have up : ∀ {u v : Int}, 0 ≤ u → u ≤ v → v ≤ 16384 → Under (sinA u) (sinA v) := by
    intro u v a b c
    rw [sin_q0 a (by omega), sin_q0 (a := v) (by omega) c]
    exact q_mono a b c
  have down : ∀ {u v : Int}, -16384 ≤ u → u ≤ v → v ≤ 0 → Under (sinA u) (sinA v) := by
    intro u v a b c
    have k := up (u := -v) (v := -u) (by omega) (by omega) (by omega)
    have e1 := sin_neg (-u)
    have e2 := sin_neg (-v)
    rw [Int.neg_neg] at e1 e2
    rw [e1, e2]
    unfold Under at *
    rw [neg_lo (sin_valid _), neg_lo (sin_valid _), neg_hi (sin_valid _), neg_hi (sin_valid _)]
    omega
  by_cases c : 0 ≤ x
  · exact up c h2 h3
  · by_cases d : y ≤ 0
    · exact down h1 h2 d
    · exact (down h1 (by omega) (Int.le_refl 0)).trans (up (Int.le_refl 0) (by omega) h3)
theorem rising {x y k : Int} (h1 : 65536 * k - 16384 ≤ x) (h2 : x ≤ y) (h3 : y ≤ 65536 * k + 16384) : Under (sinA x) (sinA y) := by
  have h := rising0 (x := x - 65536 * k) (y := y - 65536 * k) (by omega) (by omega) (by omega)
  rw [← sin_turns (x - 65536 * k) k, ← sin_turns (y - 65536 * k) k, show x - 65536 * k + 65536 * k = x by omega, show y - 65536 * k + 65536 * k = y by omega] at h
  exact h
theorem falling {x y k : Int} (h1 : 65536 * k + 16384 ≤ x) (h2 : x ≤ y) (h3 : y ≤ 65536 * k + 49152) : Under (sinA y) (sinA x) := by
  have h := rising (k := -k) (x := 32768 - y) (y := 32768 - x) (by omega) (by omega) (by omega)
  rw [sin_mirror, sin_mirror] at h
  exact h

/-! Values over an interval. -/
theorem hits_of {a : Iv} {c n : Int} (h : (n - c) % 65536 = 0) (h1 : a.lo ≤ n) (h2 : n ≤ a.hi) : Hits a c := by
  unfold Hits
  omega
theorem hits_has {a : Iv} {c : Int} (h : Hits a c) : ∃ n, (n - c) % 65536 = 0 ∧ a.lo ≤ n ∧ n ≤ a.hi := by
  unfold Hits at h
  exact ⟨a.lo + (c - a.lo) % 65536, by omega, by omega, h⟩
theorem hul_lo {x y : Iv} (h : Valid x) (k : Valid y) : (hulI x y).lo = min x.lo y.lo := by unfold hulI; rw [when2_yes h k]
theorem hul_hi {x y : Iv} (h : Valid x) (k : Valid y) : (hulI x y).hi = max x.hi y.hi := by unfold hulI; rw [when2_yes h k]
theorem of_one : ofI 65536 = ⟨65536, 65536⟩ := ofI_id (by decide) (by decide)
theorem of_minus : ofI (-65536) = ⟨-65536, -65536⟩ := ofI_id (by decide) (by decide)
theorem valid_one' : Valid (ofI 65536) := by rw [of_one]; decide
theorem valid_minus : Valid (ofI (-65536)) := by rw [of_minus]; decide
theorem top_valid (a x : Iv) (c : Int) (h : Valid x) : Valid (withTop a x c) := by
  unfold withTop
  split
  · exact valid_hul _ _
  · exact h
theorem bottom_valid (a x : Iv) (c : Int) (h : Valid x) : Valid (withBottom a x c) := by
  unfold withBottom
  split
  · exact valid_hul _ _
  · exact h
theorem over_valid (a l h : Iv) (t b : Int) : Valid (overI a l h t b) := by
  unfold overI
  split
  · split
    · decide
    · exact bottom_valid _ _ _ (top_valid _ _ _ (valid_hul _ _))
  · exact valid_zero
/-- What the values over a valid interval of less than a turn reach, and no more. -/
theorem over_ends {a l h : Iv} {t b : Int} (ha : Valid a) (hw : a.hi - a.lo < 65536) (hl : Valid l) (hh : Valid h) :
    (overI a l h t b).lo = (if Hits a b then min (if Hits a t then min (min l.lo h.lo) 65536 else min l.lo h.lo) (-65536) else if Hits a t then min (min l.lo h.lo) 65536 else min l.lo h.lo) ∧
    (overI a l h t b).hi = (if Hits a b then max (if Hits a t then max (max l.hi h.hi) 65536 else max l.hi h.hi) (-65536) else if Hits a t then max (max l.hi h.hi) 65536 else max l.hi h.hi) := by
  have e : overI a l h t b = withBottom a (withTop a (hulI l h) t) b := by unfold overI; rw [if_pos ha, if_neg (by omega)]
  have vt := top_valid a (hulI l h) t (valid_hul _ _)
  have tl : (withTop a (hulI l h) t).lo = if Hits a t then min (min l.lo h.lo) 65536 else min l.lo h.lo := by
    unfold withTop
    by_cases c : Hits a t
    · rw [if_pos c, if_pos c, hul_lo (valid_hul _ _) valid_one', hul_lo hl hh, of_one]
    · rw [if_neg c, if_neg c, hul_lo hl hh]
  have th : (withTop a (hulI l h) t).hi = if Hits a t then max (max l.hi h.hi) 65536 else max l.hi h.hi := by
    unfold withTop
    by_cases c : Hits a t
    · rw [if_pos c, if_pos c, hul_hi (valid_hul _ _) valid_one', hul_hi hl hh, of_one]
    · rw [if_neg c, if_neg c, hul_hi hl hh]
  rw [e, ← tl, ← th]
  unfold withBottom
  by_cases c : Hits a b
  · rw [if_pos c, if_pos c, if_pos c, hul_lo vt valid_minus, hul_hi vt valid_minus, of_minus]
    exact ⟨rfl, rfl⟩
  · rw [if_neg c, if_neg c, if_neg c]
    exact ⟨rfl, rfl⟩
/-- The values of the sine, shifted by s, over a. -/
def overS (s : Int) (a : Iv) : Iv := overI a (sinA (a.lo + s)) (sinA (a.hi + s)) (16384 - s) (49152 - s)
theorem sinO_eq (a : Iv) : sinO a = overS 0 a := by unfold sinO overS; simp
theorem cosO_eq (a : Iv) : cosO a = overS 16384 a := by unfold cosO overS; rw [cosA_eq, cosA_eq]; rfl
theorem over_contains {s n : Int} {a : Iv} (ha : Valid a) (h1 : a.lo ≤ n) (h2 : n ≤ a.hi) : Within (sinA (n + s)) (overS s a) := by
  have hr := sin_range (n + s)
  refine ⟨⟨sin_valid _, over_valid _ _ _ _ _⟩, ?_⟩
  by_cases hw : a.hi - a.lo < 65536
  · have hl := sin_range (a.lo + s)
    have hh := sin_range (a.hi + s)
    obtain ⟨e1, e2⟩ := over_ends (t := 16384 - s) (b := 49152 - s) ha hw (sin_valid (a.lo + s)) (sin_valid (a.hi + s))
    unfold overS
    rw [e1, e2]
    clear e1 e2
    -- the arc that holds n
    obtain ⟨k, d, hd, hd0, hd1⟩ : ∃ k d : Int, n + s = 65536 * k - 16384 + d ∧ 0 ≤ d ∧ d < 65536 := ⟨(n + s + 16384) / 65536, (n + s + 16384) % 65536, by omega, by omega, by omega⟩
    by_cases hup : d ≤ 32768
    · have low : Hits a (49152 - s) ∨ (sinA (a.lo + s)).lo ≤ (sinA (n + s)).lo := by
        by_cases c : a.lo ≤ 65536 * k - 16384 - s
        · exact Or.inl (hits_of (n := 65536 * k - 16384 - s) (by omega) c (by omega))
        · exact Or.inr (rising (k := k) (x := a.lo + s) (y := n + s) (by omega) (by omega) (by omega)).1
      have high : Hits a (16384 - s) ∨ (sinA (n + s)).hi ≤ (sinA (a.hi + s)).hi := by
        by_cases c : 65536 * k + 16384 - s ≤ a.hi
        · exact Or.inl (hits_of (n := 65536 * k + 16384 - s) (by omega) (by omega) c)
        · exact Or.inr (rising (k := k) (x := n + s) (y := a.hi + s) (by omega) (by omega) (by omega)).2
      constructor
      · rcases low with c | c
        · rw [if_pos c]; split <;> omega
        · split <;> split <;> omega
      · rcases high with c | c
        · simp only [if_pos c]; split <;> omega
        · split <;> split <;> omega
    · have low : Hits a (49152 - s) ∨ (sinA (a.hi + s)).lo ≤ (sinA (n + s)).lo := by
        by_cases c : 65536 * k + 49152 - s ≤ a.hi
        · exact Or.inl (hits_of (n := 65536 * k + 49152 - s) (by omega) (by omega) c)
        · exact Or.inr (falling (k := k) (x := n + s) (y := a.hi + s) (by omega) (by omega) (by omega)).1
      have high : Hits a (16384 - s) ∨ (sinA (n + s)).hi ≤ (sinA (a.lo + s)).hi := by
        by_cases c : a.lo ≤ 65536 * k + 16384 - s
        · exact Or.inl (hits_of (n := 65536 * k + 16384 - s) (by omega) c (by omega))
        · exact Or.inr (falling (k := k) (x := a.lo + s) (y := n + s) (by omega) (by omega) (by omega)).2
      constructor
      · rcases low with c | c
        · rw [if_pos c]; split <;> omega
        · split <;> split <;> omega
      · rcases high with c | c
        · simp only [if_pos c]; split <;> omega
        · split <;> split <;> omega
  · have e : overS s a = ⟨-65536, 65536⟩ := by unfold overS overI; rw [if_pos ha, if_pos (by omega)]
    rw [e]
    simp only
    omega
theorem over_nested {s : Int} {a b : Iv} (h : Within b a) : Within (overS s b) (overS s a) := by
  obtain ⟨⟨hb, ha⟩, h1, h2⟩ := h
  refine ⟨⟨over_valid _ _ _ _ _, over_valid _ _ _ _ _⟩, ?_⟩
  have hl := sin_range (b.lo + s)
  have hh := sin_range (b.hi + s)
  have hb2 := hb.2.1
  by_cases hw : b.hi - b.lo < 65536
  · have c1 := over_contains (s := s) (n := b.lo) ha h1 (by omega)
    have c2 := over_contains (s := s) (n := b.hi) ha (by omega) h2
    obtain ⟨e1, e2⟩ := over_ends (t := 16384 - s) (b := 49152 - s) hb hw (sin_valid (b.lo + s)) (sin_valid (b.hi + s))
    have l2 := c1.2
    have l3 := c2.2
    have top : Hits b (16384 - s) → 65536 ≤ (overS s a).hi := fun ht => by
      obtain ⟨n, m1, m2, m3⟩ := hits_has ht
      have c3 := (over_contains (s := s) (n := n) ha (by omega) (by omega)).2.2
      have e : sinA (n + s) = ⟨65536, 65536⟩ := by rw [sinA_of (m := 16384) (by omega), turn_1 (by omega) (by omega)]; exact q_top
      rw [e] at c3
      exact c3
    have bottom : Hits b (49152 - s) → (overS s a).lo ≤ -65536 := fun ht => by
      obtain ⟨n, m1, m2, m3⟩ := hits_has ht
      have c3 := (over_contains (s := s) (n := n) ha (by omega) (by omega)).2.1
      have e : (sinA (n + s)).lo = -65536 := by
        rw [sinA_of (m := 49152) (by omega), turn_3 (by omega)]
        show (negI (qZ 16384)).lo = -65536
        rw [q_top, neg_lo (by decide)]
      rw [e] at c3
      exact c3
    show (overS s a).lo ≤ (overS s b).lo ∧ (overS s b).hi ≤ (overS s a).hi
    rw [show overS s b = overI b (sinA (b.lo + s)) (sinA (b.hi + s)) (16384 - s) (49152 - s) from rfl, e1, e2]
    by_cases t : Hits b (16384 - s) <;> by_cases u : Hits b (49152 - s)
    · have := top t
      have := bottom u
      simp only [if_pos t, if_pos u]
      omega
    · have := top t
      simp only [if_pos t, if_neg u]
      omega
    · have := bottom u
      simp only [if_neg t, if_pos u]
      omega
    · simp only [if_neg t, if_neg u]
      omega
  · have e : overS s b = ⟨-65536, 65536⟩ := by unfold overS overI; rw [if_pos hb, if_pos (by omega)]
    have e2 : overS s a = ⟨-65536, 65536⟩ := by unfold overS overI; rw [if_pos ha, if_pos (by omega)]
    rw [e, e2]
    simp only
    omega
end Go.Proofs.Ytdplgiccpjlelaa
