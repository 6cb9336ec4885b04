/- Proved: the developers' powers of an angle are the numbers of the chapter; beside it what is known of a block of eleven numbers. Conditions: as each theorem states. -/
import Derived.Test.YtdplgiccpjlelaaIvF
import Derived.Test.YtdplgiccpjlelaaAng2
import Derived.LoopTactic
import Derived.Deep.OwnRows
import Derived.Laws.Rows
import Derived.Laws.Tables
import Derived.IntWalk
namespace Go.Proofs.Ytdplgiccpjlelaa
open Go.RowKit

theorem bZ_bd {u : Int} (h0 : 0 ≤ u) (h1 : u ≤ 1073741824) : ∀ k, 0 ≤ bZ u k ∧ bZ u k ≤ 1073741824
  | 0 => ⟨h0, h1⟩
  | k + 1 => by
    have ih := bZ_bd h0 h1 k
    have a := Int.mul_nonneg ih.1 h0
    have b : bZ u k * u ≤ 1073741824 * 1073741824 := Int.le_trans (Int.mul_le_mul_of_nonneg_left h1 ih.1) (by omega)
    have e : bZ u (k + 1) = ce (bZ u k * u) 1073741824 := rfl
    rw [e]
    unfold ce
    omega
theorem aZ_bd {t : Int} (h0 : 0 ≤ t) (h1 : t ≤ 1073741824) : ∀ k, 0 ≤ aZ t k ∧ aZ t k ≤ 1073741824
  | 0 => ⟨h0, h1⟩
  | k + 1 => by
    have ih := aZ_bd h0 h1 k
    have a := Int.mul_nonneg ih.1 h0
    have b : aZ t k * t ≤ 1073741824 * 1073741824 := Int.le_trans (Int.mul_le_mul_of_nonneg_left h1 ih.1) (by omega)
    have e : aZ t (k + 1) = aZ t k * t / 1073741824 := rfl
    rw [e]
    omega
theorem aZ_mul {t : Int} (h0 : 0 ≤ t) (h1 : t ≤ 1073741824) (k : Nat) : 0 ≤ aZ t k * t ∧ aZ t k * t ≤ 1152921504606846976 := by
  have ih := aZ_bd h0 h1 k
  exact ⟨Int.mul_nonneg ih.1 h0, Int.le_trans (Int.mul_le_mul_of_nonneg_left h1 ih.1) (by omega)⟩
theorem bZ_mul {u : Int} (h0 : 0 ≤ u) (h1 : u ≤ 1073741824) (k : Nat) : 0 ≤ bZ u k * u ∧ bZ u k * u ≤ 1152921504606846976 := by
  have ih := bZ_bd h0 h1 k
  exact ⟨Int.mul_nonneg ih.1 h0, Int.le_trans (Int.mul_le_mul_of_nonneg_left h1 ih.1) (by omega)⟩
theorem tZ_bd {x : Int} (h0 : 0 ≤ x) (h1 : x ≤ 8192) : (0 ≤ tZ x ∧ tZ x ≤ 1073741824) ∧ (0 ≤ uZ x ∧ uZ x ≤ 1073741824) := by unfold tZ uZ ce; omega

/-! A block of eleven numbers. -/
def arrC (f : Nat → Int) : Array Value := #[.int .i64 (f 0), .int .i64 (f 1), .int .i64 (f 2), .int .i64 (f 3), .int .i64 (f 4), .int .i64 (f 5), .int .i64 (f 6), .int .i64 (f 7), .int .i64 (f 8), .int .i64 (f 9), .int .i64 (f 10)]
theorem row_lit {w : World} {b : Nat} {T : TypeId} {f : Nat → Int} (h : w.rowIs b T 11 (fun j => .int .i64 (f j))) : w.heap[b]? = some (.cells (arrC f) T (0, 0)) := by
  obtain ⟨c, hb, hn, hc⟩ := h
  have e : c = arrC f := by
    apply Array.ext_getElem?
    intro i
    by_cases hi : i < 11
    · rw [hc i hi]
      match i, hi with
      | 0, _ | 1, _ | 2, _ | 3, _ | 4, _ | 5, _ | 6, _ | 7, _ | 8, _ | 9, _ | 10, _ => rfl
    · rw [Array.getElem?_eq_none (by omega), Array.getElem?_eq_none (by unfold arrC; simp; omega)]
  rw [hb, e]
theorem lit_row {w : World} {b : Nat} {T : TypeId} {f : Nat → Int} {c : Array Value} (h : w.heap[b]? = some (.cells c T (0, 0))) (e : c = arrC f) : w.rowIs b T 11 (fun j => .int .i64 (f j)) := by
  subst e
  refine ⟨_, h, rfl, fun i hi => ?_⟩
  match i, hi with
  | 0, _ | 1, _ | 2, _ | 3, _ | 4, _ | 5, _ | 6, _ | 7, _ | 8, _ | 9, _ | 10, _ => rfl
theorem store_arr {P : Program} {w : World} {b : Nat} {T : TypeId} {f : Nat → Int} (g : Nat → Int) (h : w.heap[b]? = some (.cells (arrC f) T (0, 0))) :
    (storeCells ⟨b, 0, none⟩ (arrC g).toList).run P w = .ok () (w.setRow b (arrC g)) := by
  have := run_storeCells_from (P := P) b T (arrC g).toList 0 (arrC f) w h rfl (by unfold arrC; simp [Value.oneCell'])
  exact this
theorem row_drew {w : World} {b : Nat} {T : TypeId} {f : Nat → Value} {n : Nat} (h : w.rowIs b T n f) : w.drew.rowIs b T n f := h
theorem row_below {w V : World} {B b : Nat} {T : TypeId} {f : Nat → Value} {n : Nat} (h : w.rowIs b T n f) (hb : Below B w V) (hl : b < B) : V.rowIs b T n f := h.of_block (hb.block b hl)
/-- The powers below number k, and zeros; element 0 is c. -/
def gA (c t : Int) (k j : Nat) : Int := if j = 0 then c else if j < k then aZ t (j - 1) else 0
def gB (c u : Int) (k j : Nat) : Int := if j = 0 then c else if j < k then bZ u (j - 1) else 0
theorem gA_at (c t : Int) {k j : Nat} (h0 : 0 < j) (h : j < k) : gA c t k j = aZ t (j - 1) := by unfold gA; rw [if_neg (by omega), if_pos h]
theorem gB_at (c t : Int) {k j : Nat} (h0 : 0 < j) (h : j < k) : gB c t k j = bZ t (j - 1) := by unfold gB; rw [if_neg (by omega), if_pos h]
theorem gA_step (c t : Int) {k j : Nat} (h0 : 0 < k) : (if j = k then Value.int .i64 (aZ t (k - 1)) else .int .i64 (gA c t k j)) = .int .i64 (gA c t (k + 1) j) := by
  unfold gA
  by_cases e : j = k
  · subst e
    rw [if_pos rfl, if_neg (by omega), if_pos (by omega)]
  · rw [if_neg e]
    by_cases z : j = 0
    · rw [if_pos z, if_pos z]
    · rw [if_neg z, if_neg z]
      by_cases a : j < k
      · rw [if_pos a, if_pos (by omega)]
      · rw [if_neg a, if_neg (by omega)]
theorem gB_step (c t : Int) {k j : Nat} (h0 : 0 < k) : (if j = k then Value.int .i64 (bZ t (k - 1)) else .int .i64 (gB c t k j)) = .int .i64 (gB c t (k + 1) j) := by
  unfold gB
  by_cases e : j = k
  · subst e
    rw [if_pos rfl, if_neg (by omega), if_pos (by omega)]
  · rw [if_neg e]
    by_cases z : j = 0
    · rw [if_pos z, if_pos z]
    · rw [if_neg z, if_neg z]
      by_cases a : j < k
      · rw [if_pos a, if_pos (by omega)]
      · rw [if_neg a, if_neg (by omega)]
theorem aZ_next (t : Int) {k : Nat} (h : 2 ≤ k) : aZ t (k - 2) * t / 1073741824 = aZ t (k - 1) := by
  obtain ⟨m, rfl⟩ : ∃ m, k = m + 2 := ⟨k - 2, by omega⟩
  rfl
theorem bZ_next (t : Int) {k : Nat} (h : 2 ≤ k) : ce (bZ t (k - 2) * t) 1073741824 = bZ t (k - 1) := by
  obtain ⟨m, rfl⟩ : ∃ m, k = m + 2 := ⟨k - 2, by omega⟩
  rfl
theorem setRow_below {w V : World} {B : Nat} (h : Below B w V) {b : Nat} (hb : B ≤ b) (c : Array Value) : Below B w (V.setRow b c) :=
  h.trans ⟨rfl, rfl, rfl, by rw [size_setRow]; exact Nat.le_refl _, fun k hk => setRow_other V b k c (by omega)⟩

theorem info_pow : (Try.prog.info? 87).map (·.size) = some 11 := by kernel_rfl
theorem under_pow : Try.prog.underlying 87 = some (.array 11 2) := by kernel_rfl

set_option maxRecDepth 100000 in
set_option maxHeartbeats 1600000 in
theorem powersDown_any (t : Int) (w : World) (h0 : 0 ≤ t) (h1 : t ≤ 1073741824) :
    Calls Try.prog 107 #[ .int .i64 t ] w fun e w' => e = .returned (.agg (arrC (gA 1073741824 t 11))) ∧ Below w.heap.size w w' := by
  go_enter Try.func107, Try.ntmps107
  go_wp2
  go_loopw [4] (fun i wr => ∃ k : Nat, 2 ≤ k ∧ k ≤ 11 ∧ i = .int .i64 k ∧ wr.rowIs w.heap.size 87 11 (fun _ => .int .i64 0) ∧ wr.rowIs (w.heap.size + 1) 87 11 (fun j => .int .i64 (gA 1073741824 t k j)) ∧ Below w.heap.size w wr) (fun i _ => 11 - (intOf i).toNat)
  case atStart =>
    refine ⟨2, by omega, by omega, rfl, lit_row (f := fun _ => 0) (heap_alloc2_old _ _ _) rfl, lit_row (heap_alloc2_new _ _ _) rfl, ((Below.refl _ _).alloc (Nat.le_refl _) _).alloc (by simp) _⟩
  case round =>
    obtain ⟨k, hk, hk2, rfl, r0, r1, hb⟩ := hrel
    by_cases h3 : k < 11
    · have c1 := r1.cell (i := k - 1) (by omega)
      have c2 := r1.cell (i := k) (by omega)
      have f2 := r1.frozen k
      rw [gA_at _ _ (by omega) (by omega), show k - 1 - 1 = k - 2 by omega] at c1
      obtain ⟨m1, m2⟩ := aZ_mul h0 h1 (k - 2)
      have E := Lib.hid ((show shD (aZ t (k - 2) * t) 30 = aZ t (k - 2) * t / 1073741824 from rfl).trans (aZ_next t hk))
      have R0 := Lib.hid r0
      have R1 := Lib.hid r1
      clear r0 r1
      go_wp2_with (go_at_call 99; refine (ShiftDown_any _ 30 _).mono ?_; rintro e w' ⟨rfl, rfl⟩)
      go_roundw
      case rel =>
        refine ⟨k + 1, by omega, by omega, by go_num, R0.out.setOther (by simp) _, ?_, hb.setCell (by simp) _⟩
        rw [E.out]
        exact (R1.out.set k _).congr fun j _ => gA_step _ _ (by omega)
      case measure => simp [intOf]; omega
    · obtain rfl : k = 11 := by omega
      have g0 := row_lit (f := fun _ => 0) r0
      have g1 := row_lit r1
      clear r0 r1
      have hst := store_arr (P := Try.prog) (gA 1073741824 t 11) g0
      go_wp2_with (first | (refine wpList_load_row rfl 87 _ rfl (w.heap.size + 1) rfl 87 _ (0, 0) _ g1 under_pow rfl info_pow ?_))
      (try simp only [Exit.inBlock, Exit.then])
      refine bodyPost_ret (v := .agg (arrC (gA 1073741824 t 11))) ?_ rfl ⟨rfl, setRow_below hb (Nat.le_refl _) _⟩
      exact (results_cell_row rfl _ _ w.heap.size 87 _ (0, 0) _ rfl (setRow_heap _ _ _ _ _ _ g0) under_pow rfl info_pow)

set_option maxRecDepth 100000 in
set_option maxHeartbeats 1600000 in
theorem powersUp_any (t : Int) (w : World) (h0 : 0 ≤ t) (h1 : t ≤ 1073741824) :
    Calls Try.prog 108 #[ .int .i64 t ] w fun e w' => e = .returned (.agg (arrC (gB 1073741824 t 11))) ∧ Below w.heap.size w w' := by
  go_enter Try.func108, Try.ntmps108
  go_wp2
  go_loopw [4] (fun i wr => ∃ k : Nat, 2 ≤ k ∧ k ≤ 11 ∧ i = .int .i64 k ∧ wr.rowIs w.heap.size 87 11 (fun _ => .int .i64 0) ∧ wr.rowIs (w.heap.size + 1) 87 11 (fun j => .int .i64 (gB 1073741824 t k j)) ∧ Below w.heap.size w wr) (fun i _ => 11 - (intOf i).toNat)
  case atStart =>
    refine ⟨2, by omega, by omega, rfl, lit_row (f := fun _ => 0) (heap_alloc2_old _ _ _) rfl, lit_row (heap_alloc2_new _ _ _) rfl, ((Below.refl _ _).alloc (Nat.le_refl _) _).alloc (by simp) _⟩
  case round =>
    obtain ⟨k, hk, hk2, rfl, r0, r1, hb⟩ := hrel
    by_cases h3 : k < 11
    · have c1 := r1.cell (i := k - 1) (by omega)
      have c2 := r1.cell (i := k) (by omega)
      have f2 := r1.frozen k
      rw [gB_at _ _ (by omega) (by omega), show k - 1 - 1 = k - 2 by omega] at c1
      obtain ⟨m1, m2⟩ := bZ_mul h0 h1 (k - 2)
      have E := Lib.hid ((show shU (bZ t (k - 2) * t) 30 = ce (bZ t (k - 2) * t) 1073741824 from rfl).trans (bZ_next t hk))
      have R0 := Lib.hid r0
      have R1 := Lib.hid r1
      clear r0 r1
      go_wp2_with (go_at_call 100; refine (ShiftUp_any _ 30 _ (by omega) (by omega)).mono ?_; rintro e w' ⟨rfl, rfl⟩)
      go_roundw
      case rel =>
        refine ⟨k + 1, by omega, by omega, by go_num, R0.out.setOther (by simp) _, ?_, hb.setCell (by simp) _⟩
        rw [E.out]
        exact (R1.out.set k _).congr fun j _ => gB_step _ _ (by omega)
      case measure => simp [intOf]; omega
    · obtain rfl : k = 11 := by omega
      have g0 := row_lit (f := fun _ => 0) r0
      have g1 := row_lit r1
      clear r0 r1
      have hst := store_arr (P := Try.prog) (gB 1073741824 t 11) g0
      go_wp2_with (first | (refine wpList_load_row rfl 87 _ rfl (w.heap.size + 1) rfl 87 _ (0, 0) _ g1 under_pow rfl info_pow ?_))
      (try simp only [Exit.inBlock, Exit.then])
      refine bodyPost_ret (v := .agg (arrC (gB 1073741824 t 11))) ?_ rfl ⟨rfl, setRow_below hb (Nat.le_refl _) _⟩
      exact (results_cell_row rfl _ _ w.heap.size 87 _ (0, 0) _ rfl (setRow_heap _ _ _ _ _ _ g0) under_pow rfl info_pow)
end Go.Proofs.Ytdplgiccpjlelaa
