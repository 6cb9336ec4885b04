/- Proved: plain arithmetic of intervals: bounds, units, parts. Conditions: as each theorem states. Nothing of the program is used. -/
import Derived.Test.YtdplgiccpjlelaaIv
namespace Go.Proofs.Ytdplgiccpjlelaa
open Go.RowKit

theorem resI_mul {x y : Int} (h1 : -2147483648 ≤ x) (h2 : x ≤ y) (h3 : y ≤ 2147483648) : resI (x * 65536) (y * 65536) = ⟨x, y⟩ := by
  unfold resI limI
  rw [Int.mul_ediv_cancel _ (by decide), ← Int.neg_mul, Int.mul_ediv_cancel _ (by decide), Int.neg_neg, clamp_id h1 (by omega), clamp_id (by omega) h3]
theorem ofI_id {x : Int} (h1 : -2147483648 ≤ x) (h2 : x ≤ 2147483648) : ofI x = ⟨x, x⟩ := by
  unfold ofI limI
  rw [clamp_id h1 h2]
theorem valid_one : Valid ⟨65536, 65536⟩ := by decide
theorem valid_nil : Valid ⟨0, 0⟩ := by decide
theorem mul_one_r {a : Iv} (h : Valid a) : mulI a (ofI 65536) = a := by
  rw [ofI_id (by decide) (by decide)]
  unfold mulI
  rw [when2_yes h valid_one]
  obtain ⟨h1, h2, h3⟩ := h
  have e1 : min4 (a.lo * 65536) (a.lo * 65536) (a.hi * 65536) (a.hi * 65536) = a.lo * 65536 := by unfold min4; omega
  have e2 : max4 (a.lo * 65536) (a.lo * 65536) (a.hi * 65536) (a.hi * 65536) = a.hi * 65536 := by unfold max4; omega
  show resI (min4 (a.lo * 65536) (a.lo * 65536) (a.hi * 65536) (a.hi * 65536)) (max4 (a.lo * 65536) (a.lo * 65536) (a.hi * 65536) (a.hi * 65536)) = a
  rw [e1, e2, resI_mul h1 h2 h3]
theorem mul_comm_I (a b : Iv) : mulI a b = mulI b a := by
  unfold mulI when2
  by_cases h : Valid a ∧ Valid b
  · rw [if_pos h, if_pos h.symm]
    congr 1 <;> (simp only [min4, max4, Int.mul_comm b.lo, Int.mul_comm b.hi]; omega)
  · rw [if_neg h, if_neg fun g => h g.symm]
theorem mul_one_l {a : Iv} (h : Valid a) : mulI (ofI 65536) a = a := by rw [mul_comm_I, mul_one_r h]
theorem add_zero_I {a : Iv} (h : Valid a) : addI a (ofI 0) = a := by
  rw [ofI_id (by decide) (by decide)]
  unfold addI
  rw [when2_yes h valid_nil]
  obtain ⟨h1, h2, h3⟩ := h
  unfold limI
  simp only [Int.add_zero]
  rw [clamp_id h1 (by omega), clamp_id (by omega) h3]
theorem valid_sub (a b : Iv) : Valid (subI a b) := by
  unfold subI when2
  split
  · rename_i h
    refine valid_lim ?_
    obtain ⟨⟨_, _, _⟩, ⟨_, _, _⟩⟩ := h
    omega
  · exact valid_zero
theorem valid_add (a b : Iv) : Valid (addI a b) := by
  unfold addI when2
  split
  · rename_i h
    refine valid_lim ?_
    obtain ⟨⟨_, _, _⟩, ⟨_, _, _⟩⟩ := h
    omega
  · exact valid_zero
theorem valid_neg (a : Iv) : Valid (negI a) := by
  unfold negI when1
  split
  · rename_i h
    obtain ⟨_, _, _⟩ := h
    unfold Valid
    simp only
    omega
  · exact valid_zero
theorem valid_res {x y : Int} (h : x ≤ y) : Valid (resI x y) := valid_lim (by omega)
theorem valid_mul (a b : Iv) : Valid (mulI a b) := by
  unfold mulI when2
  split
  · refine valid_res ?_
    unfold min4 max4
    omega
  · exact valid_zero
theorem sq_nonneg (x : Int) : 0 ≤ x * x := by
  rcases Int.le_total 0 x with h | h
  · exact Int.mul_nonneg h h
  · have := Int.mul_nonneg (show 0 ≤ -x by omega) (show 0 ≤ -x by omega)
    rwa [Int.neg_mul_neg] at this
theorem valid_sqr (a : Iv) : Valid (sqrI a) := by
  unfold sqrI when1
  split
  · refine valid_res ?_
    have := sq_nonneg a.lo
    split <;> omega
  · exact valid_zero
theorem valid_scl (a : Iv) (k : Int) : Valid (sclI a k) := by
  unfold sclI when1
  split
  · exact valid_lim (by omega)
  · exact valid_zero
theorem valid_hul (a b : Iv) : Valid (hulI a b) := by
  unfold hulI when2
  split
  · rename_i h
    obtain ⟨⟨_, _, _⟩, ⟨_, _, _⟩⟩ := h
    unfold Valid
    simp only
    omega
  · exact valid_zero
theorem root_mono {m n : Int} (h : m ≤ n) : rootI m ≤ rootI n := by
  by_cases h0 : 0 ≤ m
  · refine Int.not_lt.1 fun hc => ?_
    have h1 := sq_le (a := rootI n + 1) (b := rootI m) (by have := root_nonneg n; omega) (by omega)
    have h2 := root_sq h0
    have h3 := root_lt (n := n) (by omega)
    omega
  · rw [root_neg (by omega)]
    exact root_nonneg n
theorem root_up_ge {n : Int} : n ≤ rootU n * rootU n := by
  unfold rootU
  by_cases h0 : 0 ≤ n
  · have := root_lt h0
    split <;> omega
  · have := sq_nonneg (rootI n)
    have := sq_nonneg (rootI n + 1)
    split <;> omega
theorem root_up_nonneg (n : Int) : 0 ≤ rootU n := by
  unfold rootU
  have := root_nonneg n
  split <;> omega
theorem root_le_up (n : Int) : rootI n ≤ rootU n := by
  unfold rootU
  split <;> omega
theorem root_up_le {n B : Int} (hB : 0 ≤ B) (h : n ≤ B * B) : rootU n ≤ B := by
  unfold rootU
  split
  · rename_i hs
    refine Int.not_lt.1 fun hc => ?_
    have := sq_le (a := B) (b := rootI n) hB (by omega)
    omega
  · exact root_le hB (by have := sq_lt hB (show B < B + 1 by omega); omega)
theorem root_up_mono {m n : Int} (h : m ≤ n) : rootU m ≤ rootU n := root_up_le (root_up_nonneg n) (Int.le_trans h root_up_ge)
theorem sqD_mono {x y : Int} (h : x ≤ y) : sqD x ≤ sqD y := root_mono (by have := clamp_mono h; omega)
theorem sqU_mono {x y : Int} (h : x ≤ y) : sqU x ≤ sqU y := root_up_mono (by have := clamp_mono h; omega)
theorem sqD_nonneg (x : Int) : 0 ≤ sqD x := root_nonneg _
theorem sqU_top (x : Int) : sqU x ≤ 2147483648 := root_up_le (by decide) (by have := clamp_hi x; omega)
theorem valid_sqt (a : Iv) : Valid (sqtI a) := by
  unfold sqtI when1
  split
  · rename_i h
    obtain ⟨_, h2, _⟩ := h
    have h3 := sqD_nonneg a.lo
    have h4 := sqU_top a.hi
    have h5 : sqD a.lo ≤ sqU a.hi := Int.le_trans (sqD_mono h2) (root_le_up _)
    unfold Valid
    simp only
    omega
  · exact valid_zero
end Go.Proofs.Ytdplgiccpjlelaa
