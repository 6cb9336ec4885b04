/- Proved: the helpers of the developers' and the reference's series return the numbers of the chapter. Conditions: as each theorem states. -/
import Derived.Test.YtdplgiccpjlelaaAngR
namespace Go.Proofs.Ytdplgiccpjlelaa
open Go.RowKit

theorem ce_up {p q : Int} (h : 0 < q) : (p + q - 1) / q = ce p q := by
  unfold ce
  have h1 := Int.emod_nonneg p (show q ≠ 0 by omega)
  have h2 := Int.emod_lt_of_pos p h
  have h3 := Int.mul_ediv_add_emod p q
  rcases Int.le_iff_lt_or_eq.1 h1 with hr | hr
  · have e1 : (p + q - 1) / q = p / q + 1 := by
      refine ((Int.ediv_emod_unique (r := p % q - 1) h).2 ⟨?_, by omega, by omega⟩).1
      have : q * (p / q + 1) = q * (p / q) + q := by rw [Int.mul_add, Int.mul_one]
      omega
    have e2 : -p / q = -(p / q) - 1 := by
      refine ((Int.ediv_emod_unique (r := q - p % q) h).2 ⟨?_, by omega, by omega⟩).1
      have : q * (-(p / q) - 1) = -(q * (p / q)) - q := by rw [Int.mul_sub, Int.mul_neg, Int.mul_one]
      omega
    rw [e1, e2]
    omega
  · have e1 : (p + q - 1) / q = p / q := by
      refine ((Int.ediv_emod_unique (r := q - 1) h).2 ⟨?_, by omega, by omega⟩).1
      omega
    have e2 : -p / q = -(p / q) := by
      refine ((Int.ediv_emod_unique (r := 0) h).2 ⟨?_, by omega, by omega⟩).1
      have : q * -(p / q) = -(q * (p / q)) := Int.mul_neg _ _
      omega
    rw [e1, e2]
    omega
theorem divUp_any (p q : Int) (w : World) (h0 : 0 ≤ p) (h1 : p ≤ 1099511627776) (h2 : 0 < q) (h3 : q ≤ 1099511627776) :
    Calls Try.prog 104 #[ .int .i64 p, .int .i64 q ] w fun e w' => e = .returned (.int .i64 (ce p q)) ∧ w = w' := by
  have E := Lib.hid (ce_up (p := p) h2)
  have h4 : 0 ≤ (p + q - 1) / q := Int.ediv_nonneg (by omega) (by omega)
  have h5 : (p + q - 1) / q ≤ p + q - 1 := Int.ediv_le_self _ (by omega)
  go_enter Try.func104, Try.ntmps104
  go_wp2
  go_ret
  exact ⟨ret_int E.out, rfl⟩
theorem encl_max (x : Int) : max x 0 = max 0 x := by omega
theorem encl_min (x : Int) : min x 65536 = min 65536 x := by omega
theorem enclosure_any (l h : Int) (w : World) (h2 : -4611686018427387904 ≤ h) (h3 : h ≤ 4611686018427387904) :
    Calls Try.prog 102 #[ .int .i64 l, .int .i64 h ] w fun e w' => e = .returned (.agg #[.int .i64 (enclZ l h).lo, .int .i64 (enclZ l h).hi]) ∧ Below w.heap.size w w' := by
  have E1 : shD l 14 = l / 16384 := rfl
  have E2 : shU h 14 = ce h 16384 := rfl
  have F : enclZ l h = ⟨max (l / 16384) 0, min (ce h 16384) 65536⟩ := by rw [encl_max, encl_min]; rfl
  rw [F]
  clear F
  go_enter Try.func102, Try.ntmps102
  go_wp2_with (first | (go_at_call 99; refine (ShiftDown_any _ 14 _).mono ?_; rintro e w' ⟨rfl, rfl⟩) | (go_at_call 100; refine (ShiftUp_any _ 14 _ (by omega) (by omega)).mono ?_; rintro e w' ⟨rfl, rfl⟩))
  exact bodyPost_ret (v := .agg #[.int .i64 (max (l / 16384) 0), .int .i64 (min (ce h 16384) 65536)]) (by first | (simp [results, Try.results102, go_sem, hc]; done) | (simp [results, Try.results102, go_sem]; done)) rfl ⟨rfl, by (repeat (first | exact Below.refl _ _ | (refine below_up ?_ hb; clear hb hc hf) | refine Below.setCell ?_ (by (try simp) <;> omega) _ | refine Below.alloc ?_ (by (try simp) <;> omega) _ | refine below_drewN ?_ | refine Below.drew ?_))⟩
theorem rEnclosure_any (l h : Int) (w : World) (h0 : -4611686018427387904 ≤ l) (h1 : l ≤ 4611686018427387904) (h2 : -4611686018427387904 ≤ h) (h3 : h ≤ 4611686018427387904) :
    Calls Try.prog 106 #[ .int .i64 l, .int .i64 h ] w fun e w' => e = .returned (.agg #[.int .i64 (enclZ l h).lo, .int .i64 (enclZ l h).hi]) ∧ Below w.heap.size w w' := by
  show Calls _ _ _ _ fun e w' => e = .returned (.agg #[.int .i64 (max 0 (l / 16384)), .int .i64 (min 65536 (ce h 16384))]) ∧ Below w.heap.size w w'
  go_enter Try.func106, Try.ntmps106
  go_wp2_with (first | (go_at_call 79; refine (Floor_any _ _ _ (by decide) (by omega) (by omega)).mono ?_; rintro e w' ⟨rfl, rfl⟩) | (go_at_call 80; refine (Ceil_any _ _ _ (by decide) (by omega) (by omega)).mono ?_; rintro e w' ⟨rfl, rfl⟩))
  exact bodyPost_ret (v := .agg #[.int .i64 (max 0 (l / 16384)), .int .i64 (min 65536 (ce h 16384))]) (by first | (simp [results, Try.results106, go_sem, hc]; done) | (simp [results, Try.results106, go_sem]; done)) rfl ⟨rfl, by (repeat (first | exact Below.refl _ _ | (refine below_up ?_ hb; clear hb hc hf) | refine Below.setCell ?_ (by (try simp) <;> omega) _ | refine Below.alloc ?_ (by (try simp) <;> omega) _ | refine below_drewN ?_ | refine Below.drew ?_))⟩
set_option maxRecDepth 100000 in
set_option maxHeartbeats 1600000 in
theorem alt4_any (x0 x1 x2 x3 : Int) (b : Nat) (w : World) (hg : w.heap[b]? = some (.cells #[.int .i64 x0, .int .i64 x1, .int .i64 x2, .int .i64 x3] 2 (0, 0))) (l0 : 0 ≤ x0) (u0 : x0 ≤ 1099511627776) (l1 : 0 ≤ x1) (u1 : x1 ≤ 1099511627776) (l2 : 0 ≤ x2) (u2 : x2 ≤ 1099511627776) (l3 : 0 ≤ x3) (u3 : x3 ≤ 1099511627776) :
    Calls Try.prog 103 #[ .slice (some ⟨b, 0, none⟩) 4 4 ] w fun e w' => e = .returned (.int .i64 (x0 - x1 + x2 - x3)) ∧ w = w' := by
  have c0 : w.cell? ⟨b, 0, none⟩ = some (.int .i64 x0) := by rw [cell_of_row w b 0 _ _ _ hg]; rfl
  have c1 : w.cell? ⟨b, 1, none⟩ = some (.int .i64 x1) := by rw [cell_of_row w b 1 _ _ _ hg]; rfl
  have c2 : w.cell? ⟨b, 2, none⟩ = some (.int .i64 x2) := by rw [cell_of_row w b 2 _ _ _ hg]; rfl
  have c3 : w.cell? ⟨b, 3, none⟩ = some (.int .i64 x3) := by rw [cell_of_row w b 3 _ _ _ hg]; rfl
  clear hg
  go_enter Try.func103, Try.ntmps103
  go_wp2
  refine wp_loop_rounds 5 ?_
  rw [rounds_succ]; go_wp2
  rw [rounds_succ]; go_wp2
  rw [rounds_succ]; go_wp2
  rw [rounds_succ]; go_wp2
  rw [rounds_succ]; go_wp2
  go_ret
  exact ⟨ret_int (by omega), rfl⟩
set_option maxRecDepth 100000 in
set_option maxHeartbeats 1600000 in
theorem alt5_any (x0 x1 x2 x3 x4 : Int) (b : Nat) (w : World) (hg : w.heap[b]? = some (.cells #[.int .i64 x0, .int .i64 x1, .int .i64 x2, .int .i64 x3, .int .i64 x4] 2 (0, 0))) (l0 : 0 ≤ x0) (u0 : x0 ≤ 1099511627776) (l1 : 0 ≤ x1) (u1 : x1 ≤ 1099511627776) (l2 : 0 ≤ x2) (u2 : x2 ≤ 1099511627776) (l3 : 0 ≤ x3) (u3 : x3 ≤ 1099511627776) (l4 : 0 ≤ x4) (u4 : x4 ≤ 1099511627776) :
    Calls Try.prog 103 #[ .slice (some ⟨b, 0, none⟩) 5 5 ] w fun e w' => e = .returned (.int .i64 (x0 - x1 + x2 - x3 + x4)) ∧ w = w' := by
  have c0 : w.cell? ⟨b, 0, none⟩ = some (.int .i64 x0) := by rw [cell_of_row w b 0 _ _ _ hg]; rfl
  have c1 : w.cell? ⟨b, 1, none⟩ = some (.int .i64 x1) := by rw [cell_of_row w b 1 _ _ _ hg]; rfl
  have c2 : w.cell? ⟨b, 2, none⟩ = some (.int .i64 x2) := by rw [cell_of_row w b 2 _ _ _ hg]; rfl
  have c3 : w.cell? ⟨b, 3, none⟩ = some (.int .i64 x3) := by rw [cell_of_row w b 3 _ _ _ hg]; rfl
  have c4 : w.cell? ⟨b, 4, none⟩ = some (.int .i64 x4) := by rw [cell_of_row w b 4 _ _ _ hg]; rfl
  clear hg
  go_enter Try.func103, Try.ntmps103
  go_wp2
  refine wp_loop_rounds 6 ?_
  rw [rounds_succ]; go_wp2
  rw [rounds_succ]; go_wp2
  rw [rounds_succ]; go_wp2
  rw [rounds_succ]; go_wp2
  rw [rounds_succ]; go_wp2
  rw [rounds_succ]; go_wp2
  go_ret
  exact ⟨ret_int (by omega), rfl⟩
set_option maxRecDepth 100000 in
set_option maxHeartbeats 1600000 in
theorem alt6_any (x0 x1 x2 x3 x4 x5 : Int) (b : Nat) (w : World) (hg : w.heap[b]? = some (.cells #[.int .i64 x0, .int .i64 x1, .int .i64 x2, .int .i64 x3, .int .i64 x4, .int .i64 x5] 2 (0, 0))) (l0 : 0 ≤ x0) (u0 : x0 ≤ 1099511627776) (l1 : 0 ≤ x1) (u1 : x1 ≤ 1099511627776) (l2 : 0 ≤ x2) (u2 : x2 ≤ 1099511627776) (l3 : 0 ≤ x3) (u3 : x3 ≤ 1099511627776) (l4 : 0 ≤ x4) (u4 : x4 ≤ 1099511627776) (l5 : 0 ≤ x5) (u5 : x5 ≤ 1099511627776) :
    Calls Try.prog 103 #[ .slice (some ⟨b, 0, none⟩) 6 6 ] w fun e w' => e = .returned (.int .i64 (x0 - x1 + x2 - x3 + x4 - x5)) ∧ w = w' := by
  have c0 : w.cell? ⟨b, 0, none⟩ = some (.int .i64 x0) := by rw [cell_of_row w b 0 _ _ _ hg]; rfl
  have c1 : w.cell? ⟨b, 1, none⟩ = some (.int .i64 x1) := by rw [cell_of_row w b 1 _ _ _ hg]; rfl
  have c2 : w.cell? ⟨b, 2, none⟩ = some (.int .i64 x2) := by rw [cell_of_row w b 2 _ _ _ hg]; rfl
  have c3 : w.cell? ⟨b, 3, none⟩ = some (.int .i64 x3) := by rw [cell_of_row w b 3 _ _ _ hg]; rfl
  have c4 : w.cell? ⟨b, 4, none⟩ = some (.int .i64 x4) := by rw [cell_of_row w b 4 _ _ _ hg]; rfl
  have c5 : w.cell? ⟨b, 5, none⟩ = some (.int .i64 x5) := by rw [cell_of_row w b 5 _ _ _ hg]; rfl
  clear hg
  go_enter Try.func103, Try.ntmps103
  go_wp2
  refine wp_loop_rounds 7 ?_
  rw [rounds_succ]; go_wp2
  rw [rounds_succ]; go_wp2
  rw [rounds_succ]; go_wp2
  rw [rounds_succ]; go_wp2
  rw [rounds_succ]; go_wp2
  rw [rounds_succ]; go_wp2
  rw [rounds_succ]; go_wp2
  go_ret
  exact ⟨ret_int (by omega), rfl⟩
theorem lt_heap {w : World} {k : Nat} {o : Obj} (h : w.heap[k]? = some o) : k < w.heap.size := by
  rcases Nat.lt_or_ge k w.heap.size with h1 | h1
  · exact h1
  · rw [Array.getElem?_eq_none h1] at h; cases h
theorem heap_up {w V : World} {B k : Nat} {o : Obj} (hb : Below B w V) (hk : k < B) (h : w.heap[k]? = some o) : V.heap[k]? = some o := (hb.block k hk).trans h
set_option maxRecDepth 100000 in
set_option maxHeartbeats 3200000 in
theorem angleBounds_any (x : Int) (w : World) (h0 : 0 ≤ x) (h1 : x ≤ 8192) :
    Calls Try.prog 101 #[ .int .i64 x ] w fun e w' => e = .returned (.tuple #[.agg (arrC (gA 1073741824 (tZ x) 11)), .agg (arrC (gB 1073741824 (uZ x) 11))]) ∧ Below w.heap.size w w' := by
  obtain ⟨⟨t0, t1⟩, ⟨u0, u1⟩⟩ := tZ_bd h0 h1
  have et : shD (x * 6746518852) 16 = tZ x := rfl
  have eu : shU (x * 6746518853) 16 = uZ x := rfl
  have z0 : ((w.alloc (.cells #[.int .i64 0, .int .i64 0, .int .i64 0, .int .i64 0, .int .i64 0, .int .i64 0, .int .i64 0, .int .i64 0, .int .i64 0, .int .i64 0, .int .i64 0] 87)).alloc (.cells #[.int .i64 0, .int .i64 0, .int .i64 0, .int .i64 0, .int .i64 0, .int .i64 0, .int .i64 0, .int .i64 0, .int .i64 0, .int .i64 0, .int .i64 0] 87)).heap[w.heap.size]? = some (.cells (arrC fun _ => 0) 87 (0, 0)) := heap_alloc2_old w _ _
  have z1 : ((w.alloc (.cells #[.int .i64 0, .int .i64 0, .int .i64 0, .int .i64 0, .int .i64 0, .int .i64 0, .int .i64 0, .int .i64 0, .int .i64 0, .int .i64 0, .int .i64 0] 87)).alloc (.cells #[.int .i64 0, .int .i64 0, .int .i64 0, .int .i64 0, .int .i64 0, .int .i64 0, .int .i64 0, .int .i64 0, .int .i64 0, .int .i64 0, .int .i64 0] 87)).heap[w.heap.size + 1]? = some (.cells (arrC fun _ => 0) 87 (0, 0)) := heap_alloc2_new w _ _
  have sz : ((w.alloc (.cells #[.int .i64 0, .int .i64 0, .int .i64 0, .int .i64 0, .int .i64 0, .int .i64 0, .int .i64 0, .int .i64 0, .int .i64 0, .int .i64 0, .int .i64 0] 87)).alloc (.cells #[.int .i64 0, .int .i64 0, .int .i64 0, .int .i64 0, .int .i64 0, .int .i64 0, .int .i64 0, .int .i64 0, .int .i64 0, .int .i64 0, .int .i64 0] 87)).heap.size = w.heap.size + 1 + 1 := by simp
  have zb : Below w.heap.size w ((w.alloc (.cells #[.int .i64 0, .int .i64 0, .int .i64 0, .int .i64 0, .int .i64 0, .int .i64 0, .int .i64 0, .int .i64 0, .int .i64 0, .int .i64 0, .int .i64 0] 87)).alloc (.cells #[.int .i64 0, .int .i64 0, .int .i64 0, .int .i64 0, .int .i64 0, .int .i64 0, .int .i64 0, .int .i64 0, .int .i64 0, .int .i64 0, .int .i64 0] 87)) := ((Below.refl _ _).alloc (Nat.le_refl _) _).alloc (by simp) _
  obtain ⟨Z0, Z1, SZ, ZB⟩ := And.intro (Lib.hid z0) (And.intro (Lib.hid z1) (And.intro (Lib.hid sz) (Lib.hid zb)))
  clear z0 z1 sz zb
  go_enter Try.func101, Try.ntmps101
  go_wp2_with (first | (go_at_call 99; refine (ShiftDown_any _ 16 _).mono ?_; rintro e w' ⟨rfl, rfl⟩) | (go_at_call 100; refine (ShiftUp_any _ 16 _ (by omega) (by omega)).mono ?_; rintro e w' ⟨rfl, rfl⟩) | ((go_at_call 107; refine (powersDown_any _ _ t0 t1).mono ?_; rintro e w' ⟨rfl, hb2⟩); have g0 := heap_up hb2 (by rw [SZ.out]; omega) Z0.out; have g1 := heap_up hb2 (by rw [SZ.out]; omega) Z1.out; have bb := below_next hb2 ZB.out; clear hb2) | ((go_at_call 108; refine (powersUp_any _ _ u0 u1).mono ?_; rintro e w' ⟨rfl, hb2⟩); have k0 := heap_up hb2 (lt_heap g0) g0; have k1 := heap_up hb2 (lt_heap g1) g1; replace bb := below_next hb2 bb; have s0 := store_arr (P := Try.prog) (gA 1073741824 (tZ x) 11) k0; have k1' := heap_far (b := w.heap.size) (c := arrC (gA 1073741824 (tZ x) 11)) k1 (by omega); have s1 := store_arr (P := Try.prog) (gB 1073741824 (uZ x) 11) k1'; clear hb2))
  (try simp only [Exit.inBlock, Exit.then])
  refine bodyPost_ret (v := .tuple #[.agg (arrC (gA 1073741824 (tZ x) 11)), .agg (arrC (gB 1073741824 (uZ x) 11))]) ?_ rfl ⟨rfl, setRow_below (setRow_below bb (Nat.le_refl _) _) (by omega) _⟩
  exact results_cell2_row rfl _ _ w.heap.size (w.heap.size + 1) 87 _ _ (0, 0) _ rfl rfl (heap_far (setRow_heap _ _ _ _ _ _ k0) (by omega)) (setRow_heap _ _ _ _ _ _ k1') under_pow rfl info_pow info_pow
end Go.Proofs.Ytdplgiccpjlelaa
