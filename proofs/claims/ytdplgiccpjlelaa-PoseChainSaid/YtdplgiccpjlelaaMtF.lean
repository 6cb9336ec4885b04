/- Proved: the developers' functions of vectors return what their namesakes in Mat1 compute, and turn nothing that was there before; the developers' inner product and product of a matrix and a vector; the developers' transposed matrix, and their limit for elements of rotations; the developers' product of matrices; the developers' tests of parts of vectors and matrices. Conditions: as each theorem states. -/
import Derived.Test.YtdplgiccpjlelaaMatF
import Derived.Deep.MidRow
namespace Go.Proofs.Ytdplgiccpjlelaa
open Go.RowKit

theorem VecAt.at_lo {W : World} {b k : Nat} {v : V3} (h : VecAt W b v) (hk : k < 3) : W.cell? ⟨b, k * 2, none⟩ = some (.int .i64 (v.at k).lo) := by
  match k, hk with
  | 0, _ => exact h.c0
  | 1, _ => exact h.c2
  | 2, _ => exact h.c4
theorem VecAt.at_hi {W : World} {b k : Nat} {v : V3} (h : VecAt W b v) (hk : k < 3) : W.cell? ⟨b, k * 2 + 1, none⟩ = some (.int .i64 (v.at k).hi) := by
  match k, hk with
  | 0, _ => exact h.c1
  | 1, _ => exact h.c3
  | 2, _ => exact h.c5
theorem addV_at (u v : V3) {k : Nat} (h : k < 3) : (addV u v).at k = addI (u.at k) (v.at k) := by
  match k, h with
  | 0, _ | 1, _ | 2, _ => rfl
theorem subV_at (u v : V3) {k : Nat} (h : k < 3) : (subV u v).at k = subI (u.at k) (v.at k) := by
  match k, h with
  | 0, _ | 1, _ | 2, _ => rfl
def sel3 (a b c : Int) (k : Nat) : Int := if k = 0 then a else if k = 1 then b else c
theorem pntV_at (a b c : Int) {k : Nat} (h : k < 3) : (pntV a b c).at k = ofI (sel3 a b c k) := by
  match k, h with
  | 0, _ | 1, _ | 2, _ => rfl
theorem sel3_cell (w : World) (b : Nat) (x y z : Int) (T : TypeId) {k : Nat} (h : k < 3) (e : w.heap[b]? = some (.cells #[.int .i64 x, .int .i64 y, .int .i64 z] T (0, 0))) : w.cell? ⟨b, k, none⟩ = some (.int .i64 (sel3 x y z k)) := by
  rw [cell_of_row w b k _ _ _ e]
  match k, h with
  | 0, _ | 1, _ | 2, _ => rfl
set_option linter.unusedSimpArgs false in
set_option linter.unusedVariables false in
set_option maxRecDepth 100000 in
set_option maxHeartbeats 12800000 in
theorem mAdd_any (u v : V3) (w : World) :
    Calls Try.prog 44 #[ .agg #[.int .i64 (u).x.lo, .int .i64 (u).x.hi, .int .i64 (u).y.lo, .int .i64 (u).y.hi, .int .i64 (u).z.lo, .int .i64 (u).z.hi], .agg #[.int .i64 (v).x.lo, .int .i64 (v).x.hi, .int .i64 (v).y.lo, .int .i64 (v).y.hi, .int .i64 (v).z.lo, .int .i64 (v).z.hi] ] w fun e w' => e = .returned (.agg #[.int .i64 (addV u v).x.lo, .int .i64 (addV u v).x.hi, .int .i64 (addV u v).y.lo, .int .i64 (addV u v).y.hi, .int .i64 (addV u v).z.lo, .int .i64 (addV u v).z.hi]) ∧ Below w.heap.size w w' := by
  go_enter Try.func44, Try.ntmps44
  go_wp2_with fail
  go_loopw [7] (fun i wr => ∃ k : Nat, k ≤ 3 ∧ i = .int .i64 k ∧ VecAt wr (w.heap.size) u ∧ VecAt wr (w.heap.size + 1) v ∧ VecAt wr (w.heap.size + 1 + 1) zeroV ∧ VecAt wr (w.heap.size + 1 + 1 + 1) ((addV u v).upto k) ∧ Below w.heap.size w wr) (fun i _ => 3 - (intOf i).toNat)
  case atStart =>
    refine ⟨0, by omega, rfl, ?_, ?_, ?_, ?_, ?_⟩
    · exact (((VecAt.new w u).alloc _).alloc _).alloc _
    · exact VecAt.alloc (VecAt.alloc (VecAt.at_new (by simp)) _) _
    · exact VecAt.alloc (VecAt.at_new (v := zeroV) (by simp)) _
    · exact VecAt.at_new (v := (addV u v).upto 0) (by simp)
    · exact below_alloc (below_alloc (below_alloc (below_alloc (Below.refl _ _) _) _) _) _
  case round =>
    obtain ⟨k, hk, rfl, r0, r1, r2, r3, hb⟩ := hrel
    by_cases h3 : k < 3
    · have x3 : (k : Int) < 3 := by omega
      have R0 := Lib.hid r0
      have R1 := Lib.hid r1
      have q1 := r1.lt
      have q2 := r2.lt
      have q3 := r3.lt
      have glo : ∀ w3 : World, w3.heap[w.heap.size]? = wr.heap[w.heap.size]? → w3.cell? ⟨w.heap.size, k * 2, none⟩ = some (.int .i64 (u.at k).lo) := fun _ h => VecAt.at_lo (h.trans R0.out) h3
      have ghi : ∀ w3 : World, w3.heap[w.heap.size]? = wr.heap[w.heap.size]? → w3.cell? ⟨w.heap.size, k * 2 + 1, none⟩ = some (.int .i64 (u.at k).hi) := fun _ h => VecAt.at_hi (h.trans R0.out) h3
      have klo : ∀ w3 : World, w3.heap[w.heap.size + 1]? = wr.heap[w.heap.size + 1]? → w3.cell? ⟨w.heap.size + 1, k * 2, none⟩ = some (.int .i64 (v.at k).lo) := fun _ h => VecAt.at_lo (h.trans R1.out) h3
      have khi : ∀ w3 : World, w3.heap[w.heap.size + 1]? = wr.heap[w.heap.size + 1]? → w3.cell? ⟨w.heap.size + 1, k * 2 + 1, none⟩ = some (.int .i64 (v.at k).hi) := fun _ h => VecAt.at_hi (h.trans R1.out) h3
      have hR := r3.drew
      have hT := r2.drew
      have hB : Below wr.heap.size wr wr.drew := (Below.refl _ _).drew
      clear r0 r1 r2 r3
      go_wp2_with fail
      refine wp_region_noPanic ?_
      refine wp_region_held_drew (S := (fun w3 => w3.heap[w.heap.size]? = wr.heap[w.heap.size]? ∧ w3.heap[w.heap.size + 1]? = wr.heap[w.heap.size + 1]?)) (by kernel_rfl) ?_ (fun hHeld => ?_)
      focus (with_reducible first | assumption | exact ⟨heap_drw _ _, heap_drw _ _⟩ | exact ⟨hB.block _ (by omega), hB.block _ (by omega)⟩ | exact ⟨by rw [heap_setCell_other _ _ _ _ (by dsimp only; omega), heap_setCell_other _ _ _ _ (by dsimp only; omega)]; exact hHeld.1, by rw [heap_setCell_other _ _ _ _ (by dsimp only; omega), heap_setCell_other _ _ _ _ (by dsimp only; omega)]; exact hHeld.2⟩)
      refine wpAnyH_take (i := 0) (v := ?_) rfl (by kernel_rfl) (by kernel_rfl) (by kernel_rfl) (fun _ _ _ h => h) (Or.inl ⟨by rfl, ?_⟩) (by assumption) ?_; rotate_left; (focus (intro w hSw; (try dsimp only at hSw); go_simp; try with_reducible rfl)); (try simp only [Act.put, List.getElem_toArray, List.getElem_cons_succ, List.getElem_cons_zero, List.setIfInBounds_toArray, List.set_cons_zero, List.set_cons_succ])
      refine wpAnyH_take (i := 1) (v := ?_) rfl (by kernel_rfl) (by kernel_rfl) (by kernel_rfl) (fun _ _ _ h => h) (Or.inl ⟨by rfl, ?_⟩) (by assumption) ?_; rotate_left; (focus (intro w hSw; (try dsimp only at hSw); go_simp; try with_reducible rfl)); (try simp only [Act.put, List.getElem_toArray, List.getElem_cons_succ, List.getElem_cons_zero, List.setIfInBounds_toArray, List.set_cons_zero, List.set_cons_succ])
      refine wpAnyH_take (i := 2) (v := ?_) rfl (by kernel_rfl) (by kernel_rfl) (by kernel_rfl) (fun _ _ _ h => h) (Or.inl ⟨by rfl, ?_⟩) (by assumption) ?_; rotate_left; (focus (intro w hSw; (try dsimp only at hSw); go_simp; try with_reducible rfl)); (try simp only [Act.put, List.getElem_toArray, List.getElem_cons_succ, List.getElem_cons_zero, List.setIfInBounds_toArray, List.set_cons_zero, List.set_cons_succ])
      refine wpAnyH_take (i := 3) (v := ?_) rfl (by kernel_rfl) (by kernel_rfl) (by kernel_rfl) (fun _ _ _ h => h) (Or.inl ⟨by rfl, ?_⟩) (by assumption) ?_; rotate_left; (focus (intro w hSw; (try dsimp only at hSw); go_simp; try with_reducible rfl)); (try simp only [Act.put, List.getElem_toArray, List.getElem_cons_succ, List.getElem_cons_zero, List.setIfInBounds_toArray, List.set_cons_zero, List.set_cons_succ])
      refine wpAnyH_take (i := 4) (v := ?_) rfl (by kernel_rfl) (by kernel_rfl) (by kernel_rfl) (fun _ _ _ h => h) (Or.inl ⟨by rfl, ?_⟩) (by assumption) ?_; rotate_left; (focus (intro w hSw; (try dsimp only at hSw); go_simp; try with_reducible rfl)); (try simp only [Act.put, List.getElem_toArray, List.getElem_cons_succ, List.getElem_cons_zero, List.setIfInBounds_toArray, List.set_cons_zero, List.set_cons_succ])
      refine wpAnyH_take (i := 5) (v := ?_) rfl (by kernel_rfl) (by kernel_rfl) (by kernel_rfl) (fun _ _ _ h => h) (Or.inl ⟨by rfl, ?_⟩) (by assumption) ?_; rotate_left; (focus (intro w hSw; (try dsimp only at hSw); go_simp; try with_reducible rfl)); (try simp only [Act.put, List.getElem_toArray, List.getElem_cons_succ, List.getElem_cons_zero, List.setIfInBounds_toArray, List.set_cons_zero, List.set_cons_succ])
      refine wpAnyH_take (i := 6) (v := ?_) rfl (by kernel_rfl) (by kernel_rfl) (by kernel_rfl) (fun _ _ _ h => h) (Or.inl ⟨by rfl, ?_⟩) (by assumption) ?_; rotate_left; (focus (intro w hSw; (try dsimp only at hSw); go_simp; try with_reducible rfl)); (try simp only [Act.put, List.getElem_toArray, List.getElem_cons_succ, List.getElem_cons_zero, List.setIfInBounds_toArray, List.set_cons_zero, List.set_cons_succ])
      refine wpAnyH_ready (rs := [7]) (by kernel_rfl) (by simp) (AllReadyH.cons rfl (fun K hK => ?_) AllReadyH.nil); go_simp; ((go_at_call 67; refine (Add_any _ _ _).mono ?_; rintro e w' ⟨rfl, hb2⟩); have hR2 := hR.below hb2; clear hR; have hR := hR2; clear hR2; have hT2 := hT.below hb2; clear hT; have hT := hT2; clear hT2; have hb3 := below_next hb2 hB; clear hB; have hB := hb3; clear hb3 hb2; obtain ⟨d0, d1⟩ := hR.at0 h3; have d2 := hR.free (k * 2); have d3 := hR.free (k * 2 + 1)); go_wp2_with fail; refine hK.out _ _ ?_ (fun hHeld => ?_); (focus (with_reducible first | assumption | exact ⟨heap_drw _ _, heap_drw _ _⟩ | exact ⟨hB.block _ (by omega), hB.block _ (by omega)⟩ | exact ⟨by rw [heap_setCell_other _ _ _ _ (by dsimp only; omega), heap_setCell_other _ _ _ _ (by dsimp only; omega)]; exact hHeld.1, by rw [heap_setCell_other _ _ _ _ (by dsimp only; omega), heap_setCell_other _ _ _ _ (by dsimp only; omega)]; exact hHeld.2⟩)); clear hK K; (try simp only [Act.put, List.getElem_toArray, List.getElem_cons_succ, List.getElem_cons_zero, List.setIfInBounds_toArray, List.set_cons_zero, List.set_cons_succ])
      refine wpAnyH_take (i := 8) (v := ?_) rfl (by kernel_rfl) (by kernel_rfl) (by kernel_rfl) (fun _ _ _ h => h) (Or.inl ⟨by rfl, ?_⟩) (by assumption) ?_; rotate_left; (focus (intro w hSw; (try dsimp only at hSw); go_simp; try with_reducible rfl)); (try simp only [Act.put, List.getElem_toArray, List.getElem_cons_succ, List.getElem_cons_zero, List.setIfInBounds_toArray, List.set_cons_zero, List.set_cons_succ])
      refine wpAnyH_ready (rs := [9]) (by kernel_rfl) (by simp) (AllReadyH.cons rfl (fun K hK => ?_) AllReadyH.nil); go_simp; refine hK.out _ _ ?_ (fun hHeld => ?_); (focus (with_reducible first | assumption | exact ⟨heap_drw _ _, heap_drw _ _⟩ | exact ⟨hB.block _ (by omega), hB.block _ (by omega)⟩ | exact ⟨by rw [heap_setCell_other _ _ _ _ (by dsimp only; omega), heap_setCell_other _ _ _ _ (by dsimp only; omega)]; exact hHeld.1, by rw [heap_setCell_other _ _ _ _ (by dsimp only; omega), heap_setCell_other _ _ _ _ (by dsimp only; omega)]; exact hHeld.2⟩)); clear hK K; (try simp only [Act.put, List.getElem_toArray, List.getElem_cons_succ, List.getElem_cons_zero, List.setIfInBounds_toArray, List.set_cons_zero, List.set_cons_succ])
      refine wpAnyH_done (by kernel_rfl) ?_ _
      refine NoPanic.normal ?_
      go_wp2_with fail
      go_roundw
      case rel =>
        refine ⟨k + 1, by omega, by go_num, ?_, ?_, ?_, ?_, ?_⟩
        · exact (hHeld.1.trans R0.out : _)
        · exact (hHeld.2.trans R1.out : _)
        · exact (hT.far (by omega)).far (by omega)
        · exact hR.put_at h3 (addV_at u v h3)
        · exact Below.setCell (Below.setCell (below_next hB hb) (by dsimp only; omega) _) (by dsimp only; omega) _
      case measure => simp [intOf]; omega
    · obtain rfl : k = 3 := by omega
      rw [upto3] at r3
      have hst := store_vec (P := Try.prog) (addV u v) r2
      go_wp2_with (first | (refine wpList_load_row rfl 27 _ rfl (w.heap.size + 1 + 1 + 1) rfl 27 _ (0, 0) _ r3 under_vec rfl info_vec ?_))
      (try simp only [Exit.inBlock, Exit.then])
      refine bodyPost_ret (v := .agg (vecC (addV u v))) ?_ rfl ⟨rfl, setRow_below hb (by omega) _⟩
      exact results_cell_row rfl _ _ (w.heap.size + 1 + 1) 27 _ (0, 0) _ rfl (r2.put _) under_vec rfl info_vec
theorem unit_at {r c : Nat} (hr : r < 3) (hc : c < 3) (h : r = c) : unitM.at r c = ofI 65536 := by
  subst h
  match r, hr with
  | 0, _ | 1, _ | 2, _ => rfl
theorem unit_diag : selM (fun r c => decide (r < 3 ∧ r = c)) unitM = unitM := rfl
set_option linter.unusedSimpArgs false in
set_option linter.unusedVariables false in
set_option maxRecDepth 100000 in
set_option maxHeartbeats 12800000 in
theorem mIdentity_any (w : World) :
    Calls Try.prog 34 #[ ] w fun e w' => e = .returned (.agg #[.int .i64 ((unitM).x).x.lo, .int .i64 ((unitM).x).x.hi, .int .i64 ((unitM).x).y.lo, .int .i64 ((unitM).x).y.hi, .int .i64 ((unitM).x).z.lo, .int .i64 ((unitM).x).z.hi, .int .i64 ((unitM).y).x.lo, .int .i64 ((unitM).y).x.hi, .int .i64 ((unitM).y).y.lo, .int .i64 ((unitM).y).y.hi, .int .i64 ((unitM).y).z.lo, .int .i64 ((unitM).y).z.hi, .int .i64 ((unitM).z).x.lo, .int .i64 ((unitM).z).x.hi, .int .i64 ((unitM).z).y.lo, .int .i64 ((unitM).z).y.hi, .int .i64 ((unitM).z).z.lo, .int .i64 ((unitM).z).z.hi]) ∧ Below w.heap.size w w' := by
  go_enter Try.func34, Try.ntmps34
  go_wp2_with fail
  go_loopw [3] (fun i wr => ∃ k : Nat, k ≤ 3 ∧ i = .int .i64 k ∧ MatAt wr (w.heap.size) zeroM ∧ MatAt wr (w.heap.size + 1) (selM (fun r c => decide (r < k ∧ r = c)) unitM) ∧ Below w.heap.size w wr) (fun i _ => 3 - (intOf i).toNat)
  case atStart =>
    refine ⟨0, by omega, rfl, ?_, ?_, ?_⟩
    · exact MatAt.alloc (MatAt.at_new (v := zeroM) (by simp)) _
    · rw [selM_none _ (fun r c _ _ => by simp)]; exact MatAt.at_new (v := zeroM) (by simp)
    · exact below_alloc (below_alloc (Below.refl _ _) _) _
  case round =>
    obtain ⟨k, hk, rfl, r0, r1, hb⟩ := hrel
    by_cases h3 : k < 3
    · have x3 : (k : Int) < 3 := by omega
      have R0 := Lib.hid r0
      have R1 := Lib.hid r1
      have q1 := r1.lt
      clear r0 r1
      go_wp2_with fail
      refine wp_region_noPanic ?_
      refine wp_region_held_drew (S := (fun _ => True)) (by kernel_rfl) ?_ (fun hHeld => ?_)
      focus trivial
      refine wpAnyH_take (i := 0) (v := ?_) rfl (by kernel_rfl) (by kernel_rfl) (by kernel_rfl) (fun _ _ _ h => h) (Or.inl ⟨by rfl, ?_⟩) (by assumption) ?_; rotate_left; (focus (intro w hSw; (try dsimp only at hSw); go_simp; try with_reducible rfl)); (try simp only [Act.put, List.getElem_toArray, List.getElem_cons_succ, List.getElem_cons_zero, List.setIfInBounds_toArray, List.set_cons_zero, List.set_cons_succ])
      refine wpAnyH_take (i := 1) (v := ?_) rfl (by kernel_rfl) (by kernel_rfl) (by kernel_rfl) (fun _ _ _ h => h) (Or.inl ⟨by rfl, ?_⟩) (by assumption) ?_; rotate_left; (focus (intro w hSw; (try dsimp only at hSw); go_simp; try with_reducible rfl)); (try simp only [Act.put, List.getElem_toArray, List.getElem_cons_succ, List.getElem_cons_zero, List.setIfInBounds_toArray, List.set_cons_zero, List.set_cons_succ])
      refine wpAnyH_take (i := 3) (v := ?_) rfl (by kernel_rfl) (by kernel_rfl) (by kernel_rfl) (fun _ _ _ h => h) (Or.inl ⟨by rfl, ?_⟩) (by assumption) ?_; rotate_left; (focus (intro w hSw; (try dsimp only at hSw); go_simp; try with_reducible rfl)); (try simp only [Act.put, List.getElem_toArray, List.getElem_cons_succ, List.getElem_cons_zero, List.setIfInBounds_toArray, List.set_cons_zero, List.set_cons_succ])
      refine wpAnyH_ready (rs := [2]) (by kernel_rfl) (by simp) (AllReadyH.cons rfl (fun K hK => ?_) AllReadyH.nil); go_simp; ((go_at_call 54; refine (Of_any _ _).mono ?_; rintro e w' ⟨rfl, hb2⟩); have hs := below_next hb2 (show Below wr.heap.size wr wr.drew from (Below.refl _ _).drew); have hr := R1.out.below hs; have d0 := hr.atl h3 h3; have d1 := hr.ath h3 h3; have d2 := hr.free (k * 6 + k * 2); have d3 := hr.free (k * 6 + k * 2 + 1)); go_wp2_with fail; refine hK.out _ _ ?_ (fun hHeld => ?_); (focus trivial); clear hK K; (try simp only [Act.put, List.getElem_toArray, List.getElem_cons_succ, List.getElem_cons_zero, List.setIfInBounds_toArray, List.set_cons_zero, List.set_cons_succ])
      refine wpAnyH_take (i := 4) (v := ?_) rfl (by kernel_rfl) (by kernel_rfl) (by kernel_rfl) (fun _ _ _ h => h) (Or.inl ⟨by rfl, ?_⟩) (by assumption) ?_; rotate_left; (focus (intro w hSw; (try dsimp only at hSw); go_simp; try with_reducible rfl)); (try simp only [Act.put, List.getElem_toArray, List.getElem_cons_succ, List.getElem_cons_zero, List.setIfInBounds_toArray, List.set_cons_zero, List.set_cons_succ])
      refine wpAnyH_ready (rs := [5]) (by kernel_rfl) (by simp) (AllReadyH.cons rfl (fun K hK => ?_) AllReadyH.nil); go_simp; refine hK.out _ _ ?_ (fun hHeld => ?_); (focus trivial); clear hK K; (try simp only [Act.put, List.getElem_toArray, List.getElem_cons_succ, List.getElem_cons_zero, List.setIfInBounds_toArray, List.set_cons_zero, List.set_cons_succ])
      refine wpAnyH_done (by kernel_rfl) ?_ _
      refine NoPanic.normal ?_
      go_wp2_with fail
      go_roundw
      case rel =>
        refine ⟨k + 1, by omega, by go_num, ?_, ?_, ?_⟩
        · exact ((R0.out.below hs).far (by omega)).far (by omega)
        · refine MatAt.put_at hr h3 h3 (unit_at h3 h3 rfl) (fun r c _ _ => ?_)
          unfold addP
          rw [Bool.eq_iff_iff]
          simp only [Bool.or_eq_true, Bool.and_eq_true, beq_iff_eq, decide_eq_true_eq]
          omega
        · exact Below.setCell (Below.setCell (below_next hs hb) (by dsimp only; omega) _) (by dsimp only; omega) _
      case measure => simp [intOf]; omega
    · obtain rfl : k = 3 := by omega
      rw [unit_diag] at r1
      have hst := store_mat (P := Try.prog) unitM r0
      go_wp2_with (first | (refine wpList_load_row rfl 26 _ rfl (w.heap.size + 1) rfl 26 _ (0, 0) _ r1 under_mat rfl info_mat ?_))
      (try simp only [Exit.inBlock, Exit.then])
      refine bodyPost_ret (v := .agg (matC unitM)) ?_ rfl ⟨rfl, setRow_below hb (by omega) _⟩
      exact results_cell_row rfl _ _ (w.heap.size) 26 _ (0, 0) _ rfl (r0.put _) under_mat rfl info_mat
end Go.Proofs.Ytdplgiccpjlelaa
namespace Go.Proofs.Ytdplgiccpjlelaa
open Go.RowKit

/-- The sum of the first k products, from zero on. -/
def parD (a b : V3) : Nat → Iv
  | 0 => zeroI
  | k + 1 => addI (parD a b k) (mulI (a.at k) (b.at k))
theorem zero_add_I {a : Iv} (h : Valid a) : addI zeroI a = a := by
  unfold addI
  rw [when2_yes valid_zero h]
  obtain ⟨h1, h2, h3⟩ := h
  unfold limI zeroI
  dsimp only
  rw [Int.zero_add, Int.zero_add, clamp_id h1 (by omega), clamp_id (by omega) h3]
theorem parD3 (a b : V3) : parD a b 3 = dotV a b := by
  show addI (addI (addI zeroI (mulI a.x b.x)) (mulI a.y b.y)) (mulI a.z b.z) = dotV a b
  rw [zero_add_I (valid_mul _ _)]; rfl
theorem info_row : (Try.prog.info? 24).map (·.size) = some 6 := by kernel_rfl
theorem under_row : Try.prog.underlying 24 = some (.array 3 23) := by kernel_rfl
theorem MatAt.row_range {W : World} {b k : Nat} {m : M3} (h : MatAt W b m) (hk : k < 3) : W.rangeAt b (k * 6) (vecC (m.row k)).toList := by
  intro j v hv
  rw [cell_of_row W b _ _ _ _ h]
  match k, hk, j, hv with
  | 0, _, 0, hv => exact hv
  | 0, _, 1, hv => exact hv
  | 0, _, 2, hv => exact hv
  | 0, _, 3, hv => exact hv
  | 0, _, 4, hv => exact hv
  | 0, _, 5, hv => exact hv
  | 0, _, j + 6, hv => exact absurd hv (by simp [vecC])
  | 1, _, 0, hv => exact hv
  | 1, _, 1, hv => exact hv
  | 1, _, 2, hv => exact hv
  | 1, _, 3, hv => exact hv
  | 1, _, 4, hv => exact hv
  | 1, _, 5, hv => exact hv
  | 1, _, j + 6, hv => exact absurd hv (by simp [vecC])
  | 2, _, 0, hv => exact hv
  | 2, _, 1, hv => exact hv
  | 2, _, 2, hv => exact hv
  | 2, _, 3, hv => exact hv
  | 2, _, 4, hv => exact hv
  | 2, _, 5, hv => exact hv
  | 2, _, j + 6, hv => exact absurd hv (by simp [vecC])
set_option linter.unusedSimpArgs false in
set_option linter.unusedVariables false in
set_option maxRecDepth 100000 in
set_option maxHeartbeats 12800000 in
theorem product_any (a b : V3) (w : World) :
    Calls Try.prog 68 #[ .agg #[.int .i64 (a).x.lo, .int .i64 (a).x.hi, .int .i64 (a).y.lo, .int .i64 (a).y.hi, .int .i64 (a).z.lo, .int .i64 (a).z.hi], .agg #[.int .i64 (b).x.lo, .int .i64 (b).x.hi, .int .i64 (b).y.lo, .int .i64 (b).y.hi, .int .i64 (b).z.lo, .int .i64 (b).z.hi] ] w fun e w' => e = .returned (.agg #[.int .i64 (dotV a b).lo, .int .i64 (dotV a b).hi]) ∧ Below w.heap.size w w' := by
  go_enter Try.func68, Try.ntmps68
  go_wp2_with fail
  go_loopw [7] (fun i wr => ∃ k : Nat, k ≤ 3 ∧ i = .int .i64 k ∧ VecAt wr (w.heap.size) a ∧ VecAt wr (w.heap.size + 1) b ∧ IvAt wr (w.heap.size + 1 + 1) zeroI ∧ IvAt wr (w.heap.size + 1 + 1 + 1) (parD a b k) ∧ Below w.heap.size w wr) (fun i _ => 3 - (intOf i).toNat)
  case atStart =>
    refine ⟨0, by omega, rfl, ?_, ?_, ?_, ?_, ?_⟩
    · exact (((VecAt.new w a).alloc _).alloc _).alloc _
    · exact VecAt.alloc (VecAt.alloc (VecAt.at_new (by simp)) _) _
    · exact IvAt.alloc (IvAt.zero (by simp)) _
    · exact IvAt.zero (by simp)
    · exact below_alloc (below_alloc (below_alloc (below_alloc (Below.refl _ _) _) _) _) _
  case round =>
    obtain ⟨k, hk, rfl, r0, r1, r2, r3, hb⟩ := hrel
    by_cases h3 : k < 3
    · have x3 : (k : Int) < 3 := by omega
      have R0 := Lib.hid r0
      have R1 := Lib.hid r1
      have q1 := r1.lt
      have q2 := r2.lt
      have q3 := r3.lt
      have glo : ∀ w3 : World, w3.heap[w.heap.size]? = wr.heap[w.heap.size]? → w3.cell? ⟨w.heap.size, k * 2, none⟩ = some (.int .i64 (a.at k).lo) := fun _ h => VecAt.at_lo (h.trans R0.out) h3
      have ghi : ∀ w3 : World, w3.heap[w.heap.size]? = wr.heap[w.heap.size]? → w3.cell? ⟨w.heap.size, k * 2 + 1, none⟩ = some (.int .i64 (a.at k).hi) := fun _ h => VecAt.at_hi (h.trans R0.out) h3
      have klo : ∀ w3 : World, w3.heap[w.heap.size + 1]? = wr.heap[w.heap.size + 1]? → w3.cell? ⟨w.heap.size + 1, k * 2, none⟩ = some (.int .i64 (b.at k).lo) := fun _ h => VecAt.at_lo (h.trans R1.out) h3
      have khi : ∀ w3 : World, w3.heap[w.heap.size + 1]? = wr.heap[w.heap.size + 1]? → w3.cell? ⟨w.heap.size + 1, k * 2 + 1, none⟩ = some (.int .i64 (b.at k).hi) := fun _ h => VecAt.at_hi (h.trans R1.out) h3
      have hR := r3.drew
      have hT := r2.drew
      have n0 := hR.c0
      have n1 := hR.c1
      have n2 := hR.f0
      have n3 := hR.f1
      have hB : Below wr.heap.size wr wr.drew := (Below.refl _ _).drew
      clear r0 r1 r2 r3
      go_wp2_with fail
      refine wp_region_noPanic ?_
      refine wp_region_held_drew (S := (fun w3 => w3.heap[w.heap.size]? = wr.heap[w.heap.size]? ∧ w3.heap[w.heap.size + 1]? = wr.heap[w.heap.size + 1]?)) (by kernel_rfl) ?_ (fun hHeld => ?_)
      focus (with_reducible first | assumption | exact ⟨heap_drw _ _, heap_drw _ _⟩ | exact ⟨hB.block _ (by omega), hB.block _ (by omega)⟩ | exact ⟨by rw [heap_setCell_other _ _ _ _ (by dsimp only; omega), heap_setCell_other _ _ _ _ (by dsimp only; omega)]; exact hHeld.1, by rw [heap_setCell_other _ _ _ _ (by dsimp only; omega), heap_setCell_other _ _ _ _ (by dsimp only; omega)]; exact hHeld.2⟩)
      refine wpAnyH_take (i := 1) (v := ?_) rfl (by kernel_rfl) (by kernel_rfl) (by kernel_rfl) (fun _ _ _ h => h) (Or.inl ⟨by rfl, ?_⟩) (by assumption) ?_; rotate_left; (focus (intro w hSw; (try dsimp only at hSw); go_simp; try with_reducible rfl)); (try simp only [Act.put, List.getElem_toArray, List.getElem_cons_succ, List.getElem_cons_zero, List.setIfInBounds_toArray, List.set_cons_zero, List.set_cons_succ])
      refine wpAnyH_take (i := 2) (v := ?_) rfl (by kernel_rfl) (by kernel_rfl) (by kernel_rfl) (fun _ _ _ h => h) (Or.inl ⟨by rfl, ?_⟩) (by assumption) ?_; rotate_left; (focus (intro w hSw; (try dsimp only at hSw); go_simp; try with_reducible rfl)); (try simp only [Act.put, List.getElem_toArray, List.getElem_cons_succ, List.getElem_cons_zero, List.setIfInBounds_toArray, List.set_cons_zero, List.set_cons_succ])
      refine wpAnyH_take (i := 3) (v := ?_) rfl (by kernel_rfl) (by kernel_rfl) (by kernel_rfl) (fun _ _ _ h => h) (Or.inl ⟨by rfl, ?_⟩) (by assumption) ?_; rotate_left; (focus (intro w hSw; (try dsimp only at hSw); go_simp; try with_reducible rfl)); (try simp only [Act.put, List.getElem_toArray, List.getElem_cons_succ, List.getElem_cons_zero, List.setIfInBounds_toArray, List.set_cons_zero, List.set_cons_succ])
      refine wpAnyH_take (i := 4) (v := ?_) rfl (by kernel_rfl) (by kernel_rfl) (by kernel_rfl) (fun _ _ _ h => h) (Or.inl ⟨by rfl, ?_⟩) (by assumption) ?_; rotate_left; (focus (intro w hSw; (try dsimp only at hSw); go_simp; try with_reducible rfl)); (try simp only [Act.put, List.getElem_toArray, List.getElem_cons_succ, List.getElem_cons_zero, List.setIfInBounds_toArray, List.set_cons_zero, List.set_cons_succ])
      refine wpAnyH_take (i := 5) (v := ?_) rfl (by kernel_rfl) (by kernel_rfl) (by kernel_rfl) (fun _ _ _ h => h) (Or.inl ⟨by rfl, ?_⟩) (by assumption) ?_; rotate_left; (focus (intro w hSw; (try dsimp only at hSw); go_simp; try with_reducible rfl)); (try simp only [Act.put, List.getElem_toArray, List.getElem_cons_succ, List.getElem_cons_zero, List.setIfInBounds_toArray, List.set_cons_zero, List.set_cons_succ])
      refine wpAnyH_take (i := 6) (v := ?_) rfl (by kernel_rfl) (by kernel_rfl) (by kernel_rfl) (fun _ _ _ h => h) (Or.inl ⟨by rfl, ?_⟩) (by assumption) ?_; rotate_left; (focus (intro w hSw; (try dsimp only at hSw); go_simp; try with_reducible rfl)); (try simp only [Act.put, List.getElem_toArray, List.getElem_cons_succ, List.getElem_cons_zero, List.setIfInBounds_toArray, List.set_cons_zero, List.set_cons_succ])
      refine wpAnyH_ready (rs := [0, 7]) (by kernel_rfl) (by simp) (AllReadyH.cons rfl (fun K hK => ?_) (AllReadyH.cons rfl (fun K hK => ?_) (AllReadyH.nil)))
      · go_simp; refine hK.out _ _ ?_ (fun hHeld => ?_); (focus (with_reducible first | assumption | exact ⟨heap_drw _ _, heap_drw _ _⟩ | exact ⟨hB.block _ (by omega), hB.block _ (by omega)⟩ | exact ⟨by rw [heap_setCell_other _ _ _ _ (by dsimp only; omega), heap_setCell_other _ _ _ _ (by dsimp only; omega)]; exact hHeld.1, by rw [heap_setCell_other _ _ _ _ (by dsimp only; omega), heap_setCell_other _ _ _ _ (by dsimp only; omega)]; exact hHeld.2⟩)); clear hK K; (try simp only [Act.put, List.getElem_toArray, List.getElem_cons_succ, List.getElem_cons_zero, List.setIfInBounds_toArray, List.set_cons_zero, List.set_cons_succ])
        refine wpAnyH_ready (rs := [7]) (by kernel_rfl) (by simp) (AllReadyH.cons rfl (fun K hK => ?_) (AllReadyH.nil))
        go_simp; ((go_at_call 82; refine (Mul_any _ _ _).mono ?_; rintro e w' ⟨rfl, hb2⟩); have hR2 := hR.below hb2; clear hR; have hR := hR2; clear hR2; have hT2 := hT.below hb2; clear hT; have hT := hT2; clear hT2; have hb3 := below_next hb2 hB; clear hB; have hB := hb3; clear hb3 hb2; clear n0 n1 n2 n3; have n0 := hR.c0; have n1 := hR.c1; have n2 := hR.f0; have n3 := hR.f1); go_wp2_with fail; refine hK.out _ _ ?_ (fun hHeld => ?_); (focus (with_reducible first | assumption | exact ⟨heap_drw _ _, heap_drw _ _⟩ | exact ⟨hB.block _ (by omega), hB.block _ (by omega)⟩ | exact ⟨by rw [heap_setCell_other _ _ _ _ (by dsimp only; omega), heap_setCell_other _ _ _ _ (by dsimp only; omega)]; exact hHeld.1, by rw [heap_setCell_other _ _ _ _ (by dsimp only; omega), heap_setCell_other _ _ _ _ (by dsimp only; omega)]; exact hHeld.2⟩)); clear hK K; (try simp only [Act.put, List.getElem_toArray, List.getElem_cons_succ, List.getElem_cons_zero, List.setIfInBounds_toArray, List.set_cons_zero, List.set_cons_succ])
        refine wpAnyH_ready (rs := [8]) (by kernel_rfl) (by simp) (AllReadyH.cons rfl (fun K hK => ?_) (AllReadyH.nil))
        go_simp; ((go_at_call 67; refine (Add_any _ _ _).mono ?_; rintro e w' ⟨rfl, hb2⟩); have hR2 := hR.below hb2; clear hR; have hR := hR2; clear hR2; have hT2 := hT.below hb2; clear hT; have hT := hT2; clear hT2; have hb3 := below_next hb2 hB; clear hB; have hB := hb3; clear hb3 hb2; clear n0 n1 n2 n3; have n0 := hR.c0; have n1 := hR.c1; have n2 := hR.f0; have n3 := hR.f1); go_wp2_with fail; refine hK.out _ _ ?_ (fun hHeld => ?_); (focus (with_reducible first | assumption | exact ⟨heap_drw _ _, heap_drw _ _⟩ | exact ⟨hB.block _ (by omega), hB.block _ (by omega)⟩ | exact ⟨by rw [heap_setCell_other _ _ _ _ (by dsimp only; omega), heap_setCell_other _ _ _ _ (by dsimp only; omega)]; exact hHeld.1, by rw [heap_setCell_other _ _ _ _ (by dsimp only; omega), heap_setCell_other _ _ _ _ (by dsimp only; omega)]; exact hHeld.2⟩)); clear hK K; (try simp only [Act.put, List.getElem_toArray, List.getElem_cons_succ, List.getElem_cons_zero, List.setIfInBounds_toArray, List.set_cons_zero, List.set_cons_succ])
        refine wpAnyH_ready (rs := [9]) (by kernel_rfl) (by simp) (AllReadyH.cons rfl (fun K hK => ?_) (AllReadyH.nil))
        go_simp; refine hK.out _ _ ?_ (fun hHeld => ?_); (focus (with_reducible first | assumption | exact ⟨heap_drw _ _, heap_drw _ _⟩ | exact ⟨hB.block _ (by omega), hB.block _ (by omega)⟩ | exact ⟨by rw [heap_setCell_other _ _ _ _ (by dsimp only; omega), heap_setCell_other _ _ _ _ (by dsimp only; omega)]; exact hHeld.1, by rw [heap_setCell_other _ _ _ _ (by dsimp only; omega), heap_setCell_other _ _ _ _ (by dsimp only; omega)]; exact hHeld.2⟩)); clear hK K; (try simp only [Act.put, List.getElem_toArray, List.getElem_cons_succ, List.getElem_cons_zero, List.setIfInBounds_toArray, List.set_cons_zero, List.set_cons_succ])
        refine wpAnyH_done (by kernel_rfl) ?_ _
        refine NoPanic.normal ?_
        go_wp2_with fail
        go_roundw
        case rel =>
          refine ⟨k + 1, by omega, by go_num, ?_, ?_, ?_, ?_, ?_⟩
          · exact (hHeld.1.trans R0.out : _)
          · exact (hHeld.2.trans R1.out : _)
          · exact (hT.far (by omega)).far (by omega)
          · exact hR.set (parD a b (k + 1))
          · exact Below.setCell (Below.setCell (below_next hB hb) (by dsimp only; omega) _) (by dsimp only; omega) _
        case measure => simp [intOf]; omega
      · go_simp; ((go_at_call 82; refine (Mul_any _ _ _).mono ?_; rintro e w' ⟨rfl, hb2⟩); have hR2 := hR.below hb2; clear hR; have hR := hR2; clear hR2; have hT2 := hT.below hb2; clear hT; have hT := hT2; clear hT2; have hb3 := below_next hb2 hB; clear hB; have hB := hb3; clear hb3 hb2; clear n0 n1 n2 n3; have n0 := hR.c0; have n1 := hR.c1; have n2 := hR.f0; have n3 := hR.f1); go_wp2_with fail; refine hK.out _ _ ?_ (fun hHeld => ?_); (focus (with_reducible first | assumption | exact ⟨heap_drw _ _, heap_drw _ _⟩ | exact ⟨hB.block _ (by omega), hB.block _ (by omega)⟩ | exact ⟨by rw [heap_setCell_other _ _ _ _ (by dsimp only; omega), heap_setCell_other _ _ _ _ (by dsimp only; omega)]; exact hHeld.1, by rw [heap_setCell_other _ _ _ _ (by dsimp only; omega), heap_setCell_other _ _ _ _ (by dsimp only; omega)]; exact hHeld.2⟩)); clear hK K; (try simp only [Act.put, List.getElem_toArray, List.getElem_cons_succ, List.getElem_cons_zero, List.setIfInBounds_toArray, List.set_cons_zero, List.set_cons_succ])
        refine wpAnyH_ready (rs := [0]) (by kernel_rfl) (by simp) (AllReadyH.cons rfl (fun K hK => ?_) (AllReadyH.nil))
        go_simp; refine hK.out _ _ ?_ (fun hHeld => ?_); (focus (with_reducible first | assumption | exact ⟨heap_drw _ _, heap_drw _ _⟩ | exact ⟨hB.block _ (by omega), hB.block _ (by omega)⟩ | exact ⟨by rw [heap_setCell_other _ _ _ _ (by dsimp only; omega), heap_setCell_other _ _ _ _ (by dsimp only; omega)]; exact hHeld.1, by rw [heap_setCell_other _ _ _ _ (by dsimp only; omega), heap_setCell_other _ _ _ _ (by dsimp only; omega)]; exact hHeld.2⟩)); clear hK K; (try simp only [Act.put, List.getElem_toArray, List.getElem_cons_succ, List.getElem_cons_zero, List.setIfInBounds_toArray, List.set_cons_zero, List.set_cons_succ])
        refine wpAnyH_ready (rs := [8]) (by kernel_rfl) (by simp) (AllReadyH.cons rfl (fun K hK => ?_) (AllReadyH.nil))
        go_simp; ((go_at_call 67; refine (Add_any _ _ _).mono ?_; rintro e w' ⟨rfl, hb2⟩); have hR2 := hR.below hb2; clear hR; have hR := hR2; clear hR2; have hT2 := hT.below hb2; clear hT; have hT := hT2; clear hT2; have hb3 := below_next hb2 hB; clear hB; have hB := hb3; clear hb3 hb2; clear n0 n1 n2 n3; have n0 := hR.c0; have n1 := hR.c1; have n2 := hR.f0; have n3 := hR.f1); go_wp2_with fail; refine hK.out _ _ ?_ (fun hHeld => ?_); (focus (with_reducible first | assumption | exact ⟨heap_drw _ _, heap_drw _ _⟩ | exact ⟨hB.block _ (by omega), hB.block _ (by omega)⟩ | exact ⟨by rw [heap_setCell_other _ _ _ _ (by dsimp only; omega), heap_setCell_other _ _ _ _ (by dsimp only; omega)]; exact hHeld.1, by rw [heap_setCell_other _ _ _ _ (by dsimp only; omega), heap_setCell_other _ _ _ _ (by dsimp only; omega)]; exact hHeld.2⟩)); clear hK K; (try simp only [Act.put, List.getElem_toArray, List.getElem_cons_succ, List.getElem_cons_zero, List.setIfInBounds_toArray, List.set_cons_zero, List.set_cons_succ])
        refine wpAnyH_ready (rs := [9]) (by kernel_rfl) (by simp) (AllReadyH.cons rfl (fun K hK => ?_) (AllReadyH.nil))
        go_simp; refine hK.out _ _ ?_ (fun hHeld => ?_); (focus (with_reducible first | assumption | exact ⟨heap_drw _ _, heap_drw _ _⟩ | exact ⟨hB.block _ (by omega), hB.block _ (by omega)⟩ | exact ⟨by rw [heap_setCell_other _ _ _ _ (by dsimp only; omega), heap_setCell_other _ _ _ _ (by dsimp only; omega)]; exact hHeld.1, by rw [heap_setCell_other _ _ _ _ (by dsimp only; omega), heap_setCell_other _ _ _ _ (by dsimp only; omega)]; exact hHeld.2⟩)); clear hK K; (try simp only [Act.put, List.getElem_toArray, List.getElem_cons_succ, List.getElem_cons_zero, List.setIfInBounds_toArray, List.set_cons_zero, List.set_cons_succ])
        refine wpAnyH_done (by kernel_rfl) ?_ _
        refine NoPanic.normal ?_
        go_wp2_with fail
        go_roundw
        case rel =>
          refine ⟨k + 1, by omega, by go_num, ?_, ?_, ?_, ?_, ?_⟩
          · exact (hHeld.1.trans R0.out : _)
          · exact (hHeld.2.trans R1.out : _)
          · exact (hT.far (by omega)).far (by omega)
          · exact hR.set (parD a b (k + 1))
          · exact Below.setCell (Below.setCell (below_next hB hb) (by dsimp only; omega) _) (by dsimp only; omega) _
        case measure => simp [intOf]; omega
    · obtain rfl : k = 3 := by omega
      rw [parD3] at r3
      have n0 := r3.c0
      have n1 := r3.c1
      have n2 := r2.c0
      have n3 := r2.c1
      have n4 := r2.f0
      have n5 := r2.f1
      have R2 := Lib.hid r2
      clear r0 r1 r3
      go_wp2_with fail
      have hs := R2.out.set (dotV a b)
      have s0 := hs.c0
      have s1 := hs.c1
      refine bodyPost_ret (v := .agg #[.int .i64 (dotV a b).lo, .int .i64 (dotV a b).hi]) ?_ rfl ⟨rfl, Below.setCell (Below.setCell hb (by dsimp only; omega) _) (by dsimp only; omega) _⟩
      simp [results, Try.results68, go_sem, s0, s1]
set_option linter.unusedSimpArgs false in
set_option linter.unusedVariables false in
set_option maxRecDepth 100000 in
set_option maxHeartbeats 12800000 in
theorem mApply_any (m : M3) (v : V3) (w : World) :
    Calls Try.prog 45 #[ .agg #[.int .i64 ((m).x).x.lo, .int .i64 ((m).x).x.hi, .int .i64 ((m).x).y.lo, .int .i64 ((m).x).y.hi, .int .i64 ((m).x).z.lo, .int .i64 ((m).x).z.hi, .int .i64 ((m).y).x.lo, .int .i64 ((m).y).x.hi, .int .i64 ((m).y).y.lo, .int .i64 ((m).y).y.hi, .int .i64 ((m).y).z.lo, .int .i64 ((m).y).z.hi, .int .i64 ((m).z).x.lo, .int .i64 ((m).z).x.hi, .int .i64 ((m).z).y.lo, .int .i64 ((m).z).y.hi, .int .i64 ((m).z).z.lo, .int .i64 ((m).z).z.hi], .agg #[.int .i64 (v).x.lo, .int .i64 (v).x.hi, .int .i64 (v).y.lo, .int .i64 (v).y.hi, .int .i64 (v).z.lo, .int .i64 (v).z.hi] ] w fun e w' => e = .returned (.agg #[.int .i64 (appM m v).x.lo, .int .i64 (appM m v).x.hi, .int .i64 (appM m v).y.lo, .int .i64 (appM m v).y.hi, .int .i64 (appM m v).z.lo, .int .i64 (appM m v).z.hi]) ∧ Below w.heap.size w w' := by
  go_enter Try.func45, Try.ntmps45
  go_wp2_with fail
  go_loopw [7] (fun i wr => ∃ k : Nat, k ≤ 3 ∧ i = .int .i64 k ∧ MatAt wr (w.heap.size) m ∧ VecAt wr (w.heap.size + 1) v ∧ VecAt wr (w.heap.size + 1 + 1) zeroV ∧ VecAt wr (w.heap.size + 1 + 1 + 1) ((appM m v).upto k) ∧ Below w.heap.size w wr) (fun i _ => 3 - (intOf i).toNat)
  case atStart =>
    refine ⟨0, by omega, rfl, ?_, ?_, ?_, ?_, ?_⟩
    · exact (((MatAt.new w m).alloc _).alloc _).alloc _
    · exact VecAt.alloc (VecAt.alloc (VecAt.at_new (by simp)) _) _
    · exact VecAt.alloc (VecAt.at_new (v := zeroV) (by simp)) _
    · exact VecAt.at_new (v := (appM m v).upto 0) (by simp)
    · exact below_alloc (below_alloc (below_alloc (below_alloc (Below.refl _ _) _) _) _) _
  case round =>
    obtain ⟨k, hk, rfl, r0, r1, r2, r3, hb⟩ := hrel
    by_cases h3 : k < 3
    · have x3 : (k : Int) < 3 := by omega
      have R0 := Lib.hid r0
      have R1 := Lib.hid r1
      have q1 := r1.lt
      have q2 := r2.lt
      have q3 := r3.lt
      have hR := r3.drew
      have hT := r2.drew
      have hB : Below wr.heap.size wr wr.drew := (Below.refl _ _).drew
      clear r0 r1 r2 r3
      go_wp2_with fail
      refine wp_region_noPanic ?_
      refine wp_region_held_drew (S := (fun w3 => w3.heap[w.heap.size]? = wr.heap[w.heap.size]? ∧ w3.heap[w.heap.size + 1]? = wr.heap[w.heap.size + 1]?)) (by kernel_rfl) ?_ (fun hHeld => ?_)
      focus (with_reducible first | assumption | exact ⟨heap_drw _ _, heap_drw _ _⟩ | exact ⟨hB.block _ (by omega), hB.block _ (by omega)⟩ | exact ⟨by rw [heap_setCell_other _ _ _ _ (by dsimp only; omega), heap_setCell_other _ _ _ _ (by dsimp only; omega)]; exact hHeld.1, by rw [heap_setCell_other _ _ _ _ (by dsimp only; omega), heap_setCell_other _ _ _ _ (by dsimp only; omega)]; exact hHeld.2⟩)
      refine wpAnyH_take (i := 0) (v := ?_) rfl (by kernel_rfl) (by kernel_rfl) (by kernel_rfl) (fun _ _ _ h => h) (Or.inl ⟨by rfl, ?_⟩) (by assumption) ?_; rotate_left; (focus (intro w hSw; (try dsimp only at hSw); go_simp; try with_reducible rfl)); (try simp only [Act.put, List.getElem_toArray, List.getElem_cons_succ, List.getElem_cons_zero, List.setIfInBounds_toArray, List.set_cons_zero, List.set_cons_succ])
      refine wpAnyH_take (i := 1) (v := ?_) rfl (by kernel_rfl) (by kernel_rfl) (by kernel_rfl) (fun _ _ _ h => h) (Or.inl ⟨by rfl, ?_⟩) (by assumption) ?_; rotate_left; (focus (intro w hSw; (try dsimp only at hSw); go_simp; try with_reducible rfl)); (try simp only [Act.put, List.getElem_toArray, List.getElem_cons_succ, List.getElem_cons_zero, List.setIfInBounds_toArray, List.set_cons_zero, List.set_cons_succ])
      refine wpAnyH_take (i := 2) (v := ?_) rfl (by kernel_rfl) (by kernel_rfl) (by kernel_rfl) (fun _ _ _ h => h) (Or.inl ⟨by rfl, ?_⟩) (by assumption) ?_; rotate_left; (focus (intro w hSw; (try dsimp only at hSw); go_simp; try with_reducible rfl)); (try simp only [Act.put, List.getElem_toArray, List.getElem_cons_succ, List.getElem_cons_zero, List.setIfInBounds_toArray, List.set_cons_zero, List.set_cons_succ])
      refine wpAnyH_take (i := 3) (v := .agg (vecC (m.row k))) rfl (by kernel_rfl) (by kernel_rfl) (by kernel_rfl) (fun _ _ _ h => h) (yieldsIf_load_mid (by rfl) 24 _ rfl (w.heap.size) (k * 6) (by go_simp) (vecC (m.row k)).toList _ (fun _ h => MatAt.row_range (h.1.trans R0.out) h3) under_row rfl info_row) (by assumption) ?_; (try simp only [Act.put, List.getElem_toArray, List.getElem_cons_succ, List.getElem_cons_zero, List.setIfInBounds_toArray, List.set_cons_zero, List.set_cons_succ])
      refine wpAnyH_take (i := 4) (v := .agg (vecC v)) rfl (by kernel_rfl) (by kernel_rfl) (by kernel_rfl) (fun _ _ _ h => h) (yieldsIf_load_row (by rfl) 27 _ rfl (w.heap.size + 1) (by rfl) 27 _ (0, 0) _ (fun _ h => h.2.trans R1.out) under_vec rfl info_vec) (by assumption) ?_; (try simp only [Act.put, List.getElem_toArray, List.getElem_cons_succ, List.getElem_cons_zero, List.setIfInBounds_toArray, List.set_cons_zero, List.set_cons_succ])
      refine wpAnyH_ready (rs := [5]) (by kernel_rfl) (by simp) (AllReadyH.cons rfl (fun K hK => ?_) AllReadyH.nil); go_simp; ((go_at_call 68; refine (product_any (m.row k) v _).mono ?_; rintro e w' ⟨rfl, hb2⟩); have hR2 := hR.below hb2; clear hR; have hR := hR2; clear hR2; have hT2 := hT.below hb2; clear hT; have hT := hT2; clear hT2; have hb3 := below_next hb2 hB; clear hB; have hB := hb3; clear hb3 hb2; obtain ⟨d0, d1⟩ := hR.at0 h3; have d2 := hR.free (k * 2); have d3 := hR.free (k * 2 + 1)); go_wp2_with fail; refine hK.out _ _ ?_ (fun hHeld => ?_); (focus (with_reducible first | assumption | exact ⟨heap_drw _ _, heap_drw _ _⟩ | exact ⟨hB.block _ (by omega), hB.block _ (by omega)⟩ | exact ⟨by rw [heap_setCell_other _ _ _ _ (by dsimp only; omega), heap_setCell_other _ _ _ _ (by dsimp only; omega)]; exact hHeld.1, by rw [heap_setCell_other _ _ _ _ (by dsimp only; omega), heap_setCell_other _ _ _ _ (by dsimp only; omega)]; exact hHeld.2⟩)); clear hK K; (try simp only [Act.put, List.getElem_toArray, List.getElem_cons_succ, List.getElem_cons_zero, List.setIfInBounds_toArray, List.set_cons_zero, List.set_cons_succ])
      refine wpAnyH_take (i := 6) (v := ?_) rfl (by kernel_rfl) (by kernel_rfl) (by kernel_rfl) (fun _ _ _ h => h) (Or.inl ⟨by rfl, ?_⟩) (by assumption) ?_; rotate_left; (focus (intro w hSw; (try dsimp only at hSw); go_simp; try with_reducible rfl)); (try simp only [Act.put, List.getElem_toArray, List.getElem_cons_succ, List.getElem_cons_zero, List.setIfInBounds_toArray, List.set_cons_zero, List.set_cons_succ])
      refine wpAnyH_ready (rs := [7]) (by kernel_rfl) (by simp) (AllReadyH.cons rfl (fun K hK => ?_) AllReadyH.nil); go_simp; refine hK.out _ _ ?_ (fun hHeld => ?_); (focus (with_reducible first | assumption | exact ⟨heap_drw _ _, heap_drw _ _⟩ | exact ⟨hB.block _ (by omega), hB.block _ (by omega)⟩ | exact ⟨by rw [heap_setCell_other _ _ _ _ (by dsimp only; omega), heap_setCell_other _ _ _ _ (by dsimp only; omega)]; exact hHeld.1, by rw [heap_setCell_other _ _ _ _ (by dsimp only; omega), heap_setCell_other _ _ _ _ (by dsimp only; omega)]; exact hHeld.2⟩)); clear hK K; (try simp only [Act.put, List.getElem_toArray, List.getElem_cons_succ, List.getElem_cons_zero, List.setIfInBounds_toArray, List.set_cons_zero, List.set_cons_succ])
      refine wpAnyH_done (by kernel_rfl) ?_ _
      refine NoPanic.normal ?_
      go_wp2_with fail
      go_roundw
      case rel =>
        refine ⟨k + 1, by omega, by go_num, ?_, ?_, ?_, ?_, ?_⟩
        · exact (hHeld.1.trans R0.out : _)
        · exact (hHeld.2.trans R1.out : _)
        · exact (hT.far (by omega)).far (by omega)
        · exact hR.put_at h3 (app_at m v h3)
        · exact Below.setCell (Below.setCell (below_next hB hb) (by dsimp only; omega) _) (by dsimp only; omega) _
      case measure => simp [intOf]; omega
    · obtain rfl : k = 3 := by omega
      rw [upto3] at r3
      have hst := store_vec (P := Try.prog) (appM m v) r2
      go_wp2_with (first | (refine wpList_load_row rfl 27 _ rfl (w.heap.size + 1 + 1 + 1) rfl 27 _ (0, 0) _ r3 under_vec rfl info_vec ?_))
      (try simp only [Exit.inBlock, Exit.then])
      refine bodyPost_ret (v := .agg (vecC (appM m v))) ?_ rfl ⟨rfl, setRow_below hb (by omega) _⟩
      exact results_cell_row rfl _ _ (w.heap.size + 1 + 1) 27 _ (0, 0) _ rfl (r2.put _) under_vec rfl info_vec
end Go.Proofs.Ytdplgiccpjlelaa
namespace Go.Proofs.Ytdplgiccpjlelaa
open Go.RowKit

set_option linter.unusedSimpArgs false in
set_option linter.unusedVariables false in
set_option maxRecDepth 100000 in
set_option maxHeartbeats 12800000 in
theorem mTranspose_any (m : M3) (w : World) :
    Calls Try.prog 48 #[ .agg #[.int .i64 ((m).x).x.lo, .int .i64 ((m).x).x.hi, .int .i64 ((m).x).y.lo, .int .i64 ((m).x).y.hi, .int .i64 ((m).x).z.lo, .int .i64 ((m).x).z.hi, .int .i64 ((m).y).x.lo, .int .i64 ((m).y).x.hi, .int .i64 ((m).y).y.lo, .int .i64 ((m).y).y.hi, .int .i64 ((m).y).z.lo, .int .i64 ((m).y).z.hi, .int .i64 ((m).z).x.lo, .int .i64 ((m).z).x.hi, .int .i64 ((m).z).y.lo, .int .i64 ((m).z).y.hi, .int .i64 ((m).z).z.lo, .int .i64 ((m).z).z.hi] ] w fun e w' => e = .returned (.agg #[.int .i64 ((traM m).x).x.lo, .int .i64 ((traM m).x).x.hi, .int .i64 ((traM m).x).y.lo, .int .i64 ((traM m).x).y.hi, .int .i64 ((traM m).x).z.lo, .int .i64 ((traM m).x).z.hi, .int .i64 ((traM m).y).x.lo, .int .i64 ((traM m).y).x.hi, .int .i64 ((traM m).y).y.lo, .int .i64 ((traM m).y).y.hi, .int .i64 ((traM m).y).z.lo, .int .i64 ((traM m).y).z.hi, .int .i64 ((traM m).z).x.lo, .int .i64 ((traM m).z).x.hi, .int .i64 ((traM m).z).y.lo, .int .i64 ((traM m).z).y.hi, .int .i64 ((traM m).z).z.lo, .int .i64 ((traM m).z).z.hi]) ∧ Below w.heap.size w w' := by
  go_enter Try.func48, Try.ntmps48
  go_wp2_with fail
  go_loopw [6] (fun i wr => ∃ a : Nat, a ≤ 3 ∧ i = .int .i64 a ∧ MatAt wr (w.heap.size) m ∧ MatAt wr (w.heap.size + 1) zeroM ∧ MatAt wr (w.heap.size + 1 + 1) (selM (fun r c => decide (c < a)) (traM m)) ∧ Below w.heap.size w wr) (fun i _ => 3 - (intOf i).toNat)
  case atStart =>
    refine ⟨0, by omega, rfl, ?_, ?_, ?_, ?_⟩
    · exact ((MatAt.new w m).alloc _).alloc _
    · exact MatAt.alloc (MatAt.at_new (v := zeroM) (by simp)) _
    · rw [selM_none _ (fun r c _ _ => by simp)]; exact MatAt.at_new (v := zeroM) (by simp)
    · exact below_alloc (below_alloc (below_alloc (Below.refl _ _) _) _) _
  case round =>
    obtain ⟨a, ha, rfl, r0, r1, r2, hb⟩ := hrel
    by_cases h3 : a < 3
    · have y3 : (a : Int) < 3 := by omega
      go_wp2_with fail
      go_loopw [9] (fun i wr => ∃ k : Nat, k ≤ 3 ∧ i = .int .i64 k ∧ MatAt wr (w.heap.size) m ∧ MatAt wr (w.heap.size + 1) zeroM ∧ MatAt wr (w.heap.size + 1 + 1) (selM (fun r c => decide (c < a ∨ (c = a ∧ r < k))) (traM m)) ∧ Below w.heap.size w wr) (fun i _ => 3 - (intOf i).toNat)
      case atStart =>
        refine ⟨0, by omega, rfl, r0, r1, ?_, hb⟩
        rw [selM_congr _ (q := fun r c => decide (c < a)) (fun r c _ _ => by simp)]
        exact r2
      case round =>
        obtain ⟨k, hk, rfl, r0, r1, r2, hb⟩ := hrel
        by_cases h4 : k < 3
        · have x3 : (k : Int) < 3 := by omega
          have g0 := r0.atl h3 h4
          have g1 := r0.ath h3 h4
          have d0 := r2.atl h4 h3
          have d1 := r2.ath h4 h3
          have d2 := r2.free (k * 6 + a * 2)
          have d3 := r2.free (k * 6 + a * 2 + 1)
          have R0 := Lib.hid r0
          have R1 := Lib.hid r1
          have R2 := Lib.hid r2
          clear r0 r1 r2
          go_wp2_with fail
          refine wp_region_noPanic ?_
          refine wp_region_held_drew (S := (fun w3 => w3.cell? ⟨w.heap.size, a * 6 + k * 2, none⟩ = some (.int .i64 (m.at a k).lo) ∧ w3.cell? ⟨w.heap.size, a * 6 + k * 2 + 1, none⟩ = some (.int .i64 (m.at a k).hi))) (by kernel_rfl) ?_ (fun hHeld => ?_)
          focus (first | assumption | exact ⟨by go_simp, by go_simp⟩)
          refine wpAnyH_take (i := 0) (v := ?_) rfl (by kernel_rfl) (by kernel_rfl) (by kernel_rfl) (fun _ _ _ h => h) (Or.inl ⟨by rfl, ?_⟩) (by assumption) ?_; rotate_left; (focus (intro w hSw; (try dsimp only at hSw); go_simp; try with_reducible rfl)); (try simp only [Act.put, List.getElem_toArray, List.getElem_cons_succ, List.getElem_cons_zero, List.setIfInBounds_toArray, List.set_cons_zero, List.set_cons_succ])
          refine wpAnyH_take (i := 1) (v := ?_) rfl (by kernel_rfl) (by kernel_rfl) (by kernel_rfl) (fun _ _ _ h => h) (Or.inl ⟨by rfl, ?_⟩) (by assumption) ?_; rotate_left; (focus (intro w hSw; (try dsimp only at hSw); go_simp; try with_reducible rfl)); (try simp only [Act.put, List.getElem_toArray, List.getElem_cons_succ, List.getElem_cons_zero, List.setIfInBounds_toArray, List.set_cons_zero, List.set_cons_succ])
          refine wpAnyH_take (i := 2) (v := ?_) rfl (by kernel_rfl) (by kernel_rfl) (by kernel_rfl) (fun _ _ _ h => h) (Or.inl ⟨by rfl, ?_⟩) (by assumption) ?_; rotate_left; (focus (intro w hSw; (try dsimp only at hSw); go_simp; try with_reducible rfl)); (try simp only [Act.put, List.getElem_toArray, List.getElem_cons_succ, List.getElem_cons_zero, List.setIfInBounds_toArray, List.set_cons_zero, List.set_cons_succ])
          refine wpAnyH_take (i := 3) (v := ?_) rfl (by kernel_rfl) (by kernel_rfl) (by kernel_rfl) (fun _ _ _ h => h) (Or.inl ⟨by rfl, ?_⟩) (by assumption) ?_; rotate_left; (focus (intro w hSw; (try dsimp only at hSw); go_simp; try with_reducible rfl)); (try simp only [Act.put, List.getElem_toArray, List.getElem_cons_succ, List.getElem_cons_zero, List.setIfInBounds_toArray, List.set_cons_zero, List.set_cons_succ])
          refine wpAnyH_take (i := 4) (v := ?_) rfl (by kernel_rfl) (by kernel_rfl) (by kernel_rfl) (fun _ _ _ h => h) (Or.inl ⟨by rfl, ?_⟩) (by assumption) ?_; rotate_left; (focus (intro w hSw; (try dsimp only at hSw); go_simp; try with_reducible rfl)); (try simp only [Act.put, List.getElem_toArray, List.getElem_cons_succ, List.getElem_cons_zero, List.setIfInBounds_toArray, List.set_cons_zero, List.set_cons_succ])
          refine wpAnyH_take (i := 5) (v := ?_) rfl (by kernel_rfl) (by kernel_rfl) (by kernel_rfl) (fun _ _ _ h => h) (Or.inl ⟨by rfl, ?_⟩) (by assumption) ?_; rotate_left; (focus (intro w hSw; (try dsimp only at hSw); go_simp; try with_reducible rfl)); (try simp only [Act.put, List.getElem_toArray, List.getElem_cons_succ, List.getElem_cons_zero, List.setIfInBounds_toArray, List.set_cons_zero, List.set_cons_succ])
          refine wpAnyH_take (i := 6) (v := ?_) rfl (by kernel_rfl) (by kernel_rfl) (by kernel_rfl) (fun _ _ _ h => h) (Or.inl ⟨by rfl, ?_⟩) (by assumption) ?_; rotate_left; (focus (intro w hSw; (try dsimp only at hSw); go_simp; try with_reducible rfl)); (try simp only [Act.put, List.getElem_toArray, List.getElem_cons_succ, List.getElem_cons_zero, List.setIfInBounds_toArray, List.set_cons_zero, List.set_cons_succ])
          refine wpAnyH_take (i := 7) (v := ?_) rfl (by kernel_rfl) (by kernel_rfl) (by kernel_rfl) (fun _ _ _ h => h) (Or.inl ⟨by rfl, ?_⟩) (by assumption) ?_; rotate_left; (focus (intro w hSw; (try dsimp only at hSw); go_simp; try with_reducible rfl)); (try simp only [Act.put, List.getElem_toArray, List.getElem_cons_succ, List.getElem_cons_zero, List.setIfInBounds_toArray, List.set_cons_zero, List.set_cons_succ])
          refine wpAnyH_take (i := 8) (v := ?_) rfl (by kernel_rfl) (by kernel_rfl) (by kernel_rfl) (fun _ _ _ h => h) (Or.inl ⟨by rfl, ?_⟩) (by assumption) ?_; rotate_left; (focus (intro w hSw; (try dsimp only at hSw); go_simp; try with_reducible rfl)); (try simp only [Act.put, List.getElem_toArray, List.getElem_cons_succ, List.getElem_cons_zero, List.setIfInBounds_toArray, List.set_cons_zero, List.set_cons_succ])
          refine wpAnyH_ready (rs := [9]) (by kernel_rfl) (by simp) (AllReadyH.cons rfl (fun K hK => ?_) AllReadyH.nil); go_simp; refine hK.out _ _ ?_ (fun hHeld => ?_); (focus (first | assumption | exact ⟨by go_simp, by go_simp⟩)); clear hK K; (try simp only [Act.put, List.getElem_toArray, List.getElem_cons_succ, List.getElem_cons_zero, List.setIfInBounds_toArray, List.set_cons_zero, List.set_cons_succ])
          refine wpAnyH_done (by kernel_rfl) ?_ _
          refine NoPanic.normal ?_
          go_wp2_with fail
          go_roundw
          case rel =>
            refine ⟨k + 1, by omega, by go_num, ?_, ?_, ?_, ?_⟩
            · exact (R0.out.drew.far (by omega)).far (by omega)
            · exact (R1.out.drew.far (by omega)).far (by omega)
            · refine MatAt.put_at R2.out.drew h4 h3 (tra_at m h4 h3) (fun i j _ _ => ?_)
              unfold addP
              rw [Bool.eq_iff_iff]
              simp only [Bool.or_eq_true, Bool.and_eq_true, beq_iff_eq, decide_eq_true_eq]
              omega
            · exact Below.setCell (Below.setCell hb.drew (by dsimp only; omega) _) (by dsimp only; omega) _
          case measure => simp [intOf]; omega
        · obtain rfl : k = 3 := by omega
          go_wp2_with fail
          go_roundw
          case rel =>
            refine ⟨a + 1, by omega, by go_num, r0, r1, ?_, hb⟩
            rw [selM_congr _ (q := fun r c => decide (c < a ∨ (c = a ∧ r < 3))) (fun r c h1 h2 => by rw [Bool.eq_iff_iff]; simp only [decide_eq_true_eq]; omega)]
            exact r2
          case measure => simp [intOf]; omega
    · obtain rfl : a = 3 := by omega
      rw [selM_all _ (fun r c h1 h2 => by simp; omega)] at r2
      have hst := store_mat (P := Try.prog) (traM m) r1
      go_wp2_with (first | (refine wpList_load_row rfl 26 _ rfl (w.heap.size + 1 + 1) rfl 26 _ (0, 0) _ r2 under_mat rfl info_mat ?_))
      (try simp only [Exit.inBlock, Exit.then])
      refine bodyPost_ret (v := .agg (matC (traM m))) ?_ rfl ⟨rfl, setRow_below hb (by omega) _⟩
      exact results_cell_row rfl _ _ (w.heap.size + 1) 26 _ (0, 0) _ rfl (r1.put _) under_mat rfl info_mat
set_option linter.unusedSimpArgs false in
set_option linter.unusedVariables false in
set_option maxRecDepth 100000 in
set_option maxHeartbeats 12800000 in
theorem mlimit_any (x : Int) (w : World) : Calls Try.prog 93 #[ .int .i64 x ] w fun e w' => e = .returned (.int .i64 (max (-65536) (min x 65536))) ∧ w' = w := by
  go_enter Try.func93, Try.ntmps93
  go_wp2_with fail
  go_ret
  exact ⟨rfl, rfl⟩
set_option linter.unusedSimpArgs false in
set_option linter.unusedVariables false in
set_option maxRecDepth 100000 in
set_option maxHeartbeats 12800000 in
theorem mlimited_any (x : Iv) (w : World) : Calls Try.prog 78 #[ .agg #[.int .i64 x.lo, .int .i64 x.hi] ] w fun e w' => e = .returned (.agg #[.int .i64 (lim1 x).lo, .int .i64 (lim1 x).hi]) ∧ Below w.heap.size w w' := by
  have A0 := Lib.hid (show IvAt ((w.alloc (.cells #[.int .i64 x.lo, .int .i64 x.hi] 23)).alloc (.cells #[.int .i64 0, .int .i64 0] 23)) w.heap.size x from (IvAt.new w x).alloc _)
  have R0 := Lib.hid (show IvAt ((w.alloc (.cells #[.int .i64 x.lo, .int .i64 x.hi] 23)).alloc (.cells #[.int .i64 0, .int .i64 0] 23)) (w.heap.size + 1) zeroI from IvAt.zero (by simp))
  have B0 := Lib.hid (show Below w.heap.size w ((w.alloc (.cells #[.int .i64 x.lo, .int .i64 x.hi] 23)).alloc (.cells #[.int .i64 0, .int .i64 0] 23)) from below_alloc (below_alloc (Below.refl _ _) _) _)
  go_enter Try.func78, Try.ntmps78
  go_wp2_with fail
  obtain ⟨V, hV⟩ : ∃ V : World, V = ((w.alloc (.cells #[.int .i64 x.lo, .int .i64 x.hi] 23)).alloc (.cells #[.int .i64 0, .int .i64 0] 23)) := ⟨_, rfl⟩
  rw [← hV] at A0 R0 B0 ⊢
  clear hV
  have i0 := R0.out.drew.c0
  have i1 := R0.out.drew.c1
  have i2 := R0.out.drew.f0
  have i3 := R0.out.drew.f1
  have j0 := R0.out.c0
  have j1 := R0.out.c1
  have j2 := R0.out.f0
  have j3 := R0.out.f1
  have g0 : ∀ w3 : World, w3.heap[w.heap.size]? = V.heap[w.heap.size]? → w3.cell? ⟨w.heap.size, 0, none⟩ = some (.int .i64 x.lo) := fun w3 h => IvAt.c0 (x := x) (h.trans A0.out)
  have g1 : ∀ w3 : World, w3.heap[w.heap.size]? = V.heap[w.heap.size]? → w3.cell? ⟨w.heap.size, 1, none⟩ = some (.int .i64 x.hi) := fun w3 h => IvAt.c1 (x := x) (h.trans A0.out)
  refine wp_region_held_drew (S := (fun w3 => w3.heap[w.heap.size]? = V.heap[w.heap.size]?)) (by kernel_rfl) ?_ (fun hHeld => ?_)
  focus (with_reducible first | assumption | exact heap_drw _ _ | exact (heap_drw _ _).trans ((heap_setCell_other _ _ _ _ (by dsimp only; omega)).trans (heap_setCell_other _ _ _ _ (by dsimp only; omega))))
  refine wpAnyH_take (i := 0) (v := ?_) rfl (by kernel_rfl) (by kernel_rfl) (by kernel_rfl) (fun _ _ _ h => h) (Or.inl ⟨by rfl, ?_⟩) (by assumption) ?_; rotate_left; (focus (intro w hSw; (try dsimp only at hSw); go_simp; try with_reducible rfl)); (try simp only [Act.put, List.getElem_toArray, List.getElem_cons_succ, List.getElem_cons_zero, List.setIfInBounds_toArray, List.set_cons_zero, List.set_cons_succ])
  refine wpAnyH_take (i := 1) (v := ?_) rfl (by kernel_rfl) (by kernel_rfl) (by kernel_rfl) (fun _ _ _ h => h) (Or.inl ⟨by rfl, ?_⟩) (by assumption) ?_; rotate_left; (focus (intro w hSw; (try dsimp only at hSw); go_simp; try with_reducible rfl)); (try simp only [Act.put, List.getElem_toArray, List.getElem_cons_succ, List.getElem_cons_zero, List.setIfInBounds_toArray, List.set_cons_zero, List.set_cons_succ])
  refine wpAnyH_take (i := 3) (v := ?_) rfl (by kernel_rfl) (by kernel_rfl) (by kernel_rfl) (fun _ _ _ h => h) (Or.inl ⟨by rfl, ?_⟩) (by assumption) ?_; rotate_left; (focus (intro w hSw; (try dsimp only at hSw); go_simp; try with_reducible rfl)); (try simp only [Act.put, List.getElem_toArray, List.getElem_cons_succ, List.getElem_cons_zero, List.setIfInBounds_toArray, List.set_cons_zero, List.set_cons_succ])
  refine wpAnyH_take (i := 4) (v := ?_) rfl (by kernel_rfl) (by kernel_rfl) (by kernel_rfl) (fun _ _ _ h => h) (Or.inl ⟨by rfl, ?_⟩) (by assumption) ?_; rotate_left; (focus (intro w hSw; (try dsimp only at hSw); go_simp; try with_reducible rfl)); (try simp only [Act.put, List.getElem_toArray, List.getElem_cons_succ, List.getElem_cons_zero, List.setIfInBounds_toArray, List.set_cons_zero, List.set_cons_succ])
  refine wpAnyH_ready (rs := [2]) (by kernel_rfl) (by simp) (AllReadyH.cons rfl (fun K hK => ?_) AllReadyH.nil); go_simp; (go_at_call 93; refine (mlimit_any _ _).mono ?_; rintro e w' ⟨rfl, rfl⟩); go_wp2_with fail; refine hK.out _ _ ?_ (fun hHeld => ?_); (focus (with_reducible first | assumption | exact heap_drw _ _ | exact (heap_drw _ _).trans ((heap_setCell_other _ _ _ _ (by dsimp only; omega)).trans (heap_setCell_other _ _ _ _ (by dsimp only; omega))))); clear hK K; (try simp only [Act.put, List.getElem_toArray, List.getElem_cons_succ, List.getElem_cons_zero, List.setIfInBounds_toArray, List.set_cons_zero, List.set_cons_succ])
  refine wpAnyH_ready (rs := [5]) (by kernel_rfl) (by simp) (AllReadyH.cons rfl (fun K hK => ?_) AllReadyH.nil); go_simp; (go_at_call 93; refine (mlimit_any _ _).mono ?_; rintro e w' ⟨rfl, rfl⟩); go_wp2_with fail; refine hK.out _ _ ?_ (fun hHeld => ?_); (focus (with_reducible first | assumption | exact heap_drw _ _ | exact (heap_drw _ _).trans ((heap_setCell_other _ _ _ _ (by dsimp only; omega)).trans (heap_setCell_other _ _ _ _ (by dsimp only; omega))))); clear hK K; (try simp only [Act.put, List.getElem_toArray, List.getElem_cons_succ, List.getElem_cons_zero, List.setIfInBounds_toArray, List.set_cons_zero, List.set_cons_succ])
  refine wpAnyH_take (i := 6) (v := ?_) rfl (by kernel_rfl) (by kernel_rfl) (by kernel_rfl) (fun _ _ _ h => h) (Or.inl ⟨by rfl, ?_⟩) (by assumption) ?_; rotate_left; (focus (intro w hSw; (try dsimp only at hSw); go_simp; try with_reducible rfl)); (try simp only [Act.put, List.getElem_toArray, List.getElem_cons_succ, List.getElem_cons_zero, List.setIfInBounds_toArray, List.set_cons_zero, List.set_cons_succ])
  refine wpAnyH_ready (rs := [7]) (by kernel_rfl) (by simp) (AllReadyH.cons rfl (fun K hK => ?_) AllReadyH.nil); go_simp; refine hK.out _ _ ?_ (fun hHeld => ?_); (focus (with_reducible first | assumption | exact heap_drw _ _ | exact (heap_drw _ _).trans ((heap_setCell_other _ _ _ _ (by dsimp only; omega)).trans (heap_setCell_other _ _ _ _ (by dsimp only; omega))))); clear hK K; (try simp only [Act.put, List.getElem_toArray, List.getElem_cons_succ, List.getElem_cons_zero, List.setIfInBounds_toArray, List.set_cons_zero, List.set_cons_succ])
  refine wpAnyH_done (by kernel_rfl) ?_ _
  go_wp2_with fail
  (try simp only [Exit.inBlock, Exit.then])
  refine bodyPost_ret (v := .agg #[.int .i64 (lim1 x).lo, .int .i64 (lim1 x).hi]) ?_ rfl ⟨rfl, (Below.setCell (Below.setCell B0.out (by dsimp only; omega) _) (by dsimp only; omega) _).drew⟩
  have hs := R0.out.set (lim1 x)
  have s0 := hs.c0
  have s1 := hs.c1
  unfold lim1 at s0 s1 ⊢
  dsimp only at s0 s1 ⊢
  simp [results, Try.results78, go_sem, s0, s1]
end Go.Proofs.Ytdplgiccpjlelaa
namespace Go.Proofs.Ytdplgiccpjlelaa
open Go.RowKit

theorem com_row (a b : M3) {r c : Nat} (hr : r < 3) (hc : c < 3) : (comM a b).at r c = lim1 (dotV (a.row r) ((traM b).row c)) := by
  match r, hr, c, hc with
  | 0, _, 0, _ | 0, _, 1, _ | 0, _, 2, _ | 1, _, 0, _ | 1, _, 1, _ | 1, _, 2, _ | 2, _, 0, _ | 2, _, 1, _ | 2, _, 2, _ => rfl
set_option linter.unusedSimpArgs false in
set_option linter.unusedVariables false in
set_option maxRecDepth 100000 in
set_option maxHeartbeats 12800000 in
theorem mCompose_any (a b : M3) (w : World) :
    Calls Try.prog 63 #[ .agg #[.int .i64 ((a).x).x.lo, .int .i64 ((a).x).x.hi, .int .i64 ((a).x).y.lo, .int .i64 ((a).x).y.hi, .int .i64 ((a).x).z.lo, .int .i64 ((a).x).z.hi, .int .i64 ((a).y).x.lo, .int .i64 ((a).y).x.hi, .int .i64 ((a).y).y.lo, .int .i64 ((a).y).y.hi, .int .i64 ((a).y).z.lo, .int .i64 ((a).y).z.hi, .int .i64 ((a).z).x.lo, .int .i64 ((a).z).x.hi, .int .i64 ((a).z).y.lo, .int .i64 ((a).z).y.hi, .int .i64 ((a).z).z.lo, .int .i64 ((a).z).z.hi], .agg #[.int .i64 ((b).x).x.lo, .int .i64 ((b).x).x.hi, .int .i64 ((b).x).y.lo, .int .i64 ((b).x).y.hi, .int .i64 ((b).x).z.lo, .int .i64 ((b).x).z.hi, .int .i64 ((b).y).x.lo, .int .i64 ((b).y).x.hi, .int .i64 ((b).y).y.lo, .int .i64 ((b).y).y.hi, .int .i64 ((b).y).z.lo, .int .i64 ((b).y).z.hi, .int .i64 ((b).z).x.lo, .int .i64 ((b).z).x.hi, .int .i64 ((b).z).y.lo, .int .i64 ((b).z).y.hi, .int .i64 ((b).z).z.lo, .int .i64 ((b).z).z.hi] ] w fun e w' => e = .returned (.agg #[.int .i64 ((comM a b).x).x.lo, .int .i64 ((comM a b).x).x.hi, .int .i64 ((comM a b).x).y.lo, .int .i64 ((comM a b).x).y.hi, .int .i64 ((comM a b).x).z.lo, .int .i64 ((comM a b).x).z.hi, .int .i64 ((comM a b).y).x.lo, .int .i64 ((comM a b).y).x.hi, .int .i64 ((comM a b).y).y.lo, .int .i64 ((comM a b).y).y.hi, .int .i64 ((comM a b).y).z.lo, .int .i64 ((comM a b).y).z.hi, .int .i64 ((comM a b).z).x.lo, .int .i64 ((comM a b).z).x.hi, .int .i64 ((comM a b).z).y.lo, .int .i64 ((comM a b).z).y.hi, .int .i64 ((comM a b).z).z.lo, .int .i64 ((comM a b).z).z.hi]) ∧ Below w.heap.size w w' := by
  have A0 := Lib.hid (show MatAt (((w.alloc (.cells #[.int .i64 ((a).x).x.lo, .int .i64 ((a).x).x.hi, .int .i64 ((a).x).y.lo, .int .i64 ((a).x).y.hi, .int .i64 ((a).x).z.lo, .int .i64 ((a).x).z.hi, .int .i64 ((a).y).x.lo, .int .i64 ((a).y).x.hi, .int .i64 ((a).y).y.lo, .int .i64 ((a).y).y.hi, .int .i64 ((a).y).z.lo, .int .i64 ((a).y).z.hi, .int .i64 ((a).z).x.lo, .int .i64 ((a).z).x.hi, .int .i64 ((a).z).y.lo, .int .i64 ((a).z).y.hi, .int .i64 ((a).z).z.lo, .int .i64 ((a).z).z.hi] 26)).alloc (.cells #[.int .i64 ((b).x).x.lo, .int .i64 ((b).x).x.hi, .int .i64 ((b).x).y.lo, .int .i64 ((b).x).y.hi, .int .i64 ((b).x).z.lo, .int .i64 ((b).x).z.hi, .int .i64 ((b).y).x.lo, .int .i64 ((b).y).x.hi, .int .i64 ((b).y).y.lo, .int .i64 ((b).y).y.hi, .int .i64 ((b).y).z.lo, .int .i64 ((b).y).z.hi, .int .i64 ((b).z).x.lo, .int .i64 ((b).z).x.hi, .int .i64 ((b).z).y.lo, .int .i64 ((b).z).y.hi, .int .i64 ((b).z).z.lo, .int .i64 ((b).z).z.hi] 26)).alloc (.cells #[.int .i64 0, .int .i64 0, .int .i64 0, .int .i64 0, .int .i64 0, .int .i64 0, .int .i64 0, .int .i64 0, .int .i64 0, .int .i64 0, .int .i64 0, .int .i64 0, .int .i64 0, .int .i64 0, .int .i64 0, .int .i64 0, .int .i64 0, .int .i64 0] 26)) w.heap.size a from ((MatAt.new w a).alloc _).alloc _)
  have A1 : MatAt (((w.alloc (.cells #[.int .i64 ((a).x).x.lo, .int .i64 ((a).x).x.hi, .int .i64 ((a).x).y.lo, .int .i64 ((a).x).y.hi, .int .i64 ((a).x).z.lo, .int .i64 ((a).x).z.hi, .int .i64 ((a).y).x.lo, .int .i64 ((a).y).x.hi, .int .i64 ((a).y).y.lo, .int .i64 ((a).y).y.hi, .int .i64 ((a).y).z.lo, .int .i64 ((a).y).z.hi, .int .i64 ((a).z).x.lo, .int .i64 ((a).z).x.hi, .int .i64 ((a).z).y.lo, .int .i64 ((a).z).y.hi, .int .i64 ((a).z).z.lo, .int .i64 ((a).z).z.hi] 26)).alloc (.cells #[.int .i64 ((b).x).x.lo, .int .i64 ((b).x).x.hi, .int .i64 ((b).x).y.lo, .int .i64 ((b).x).y.hi, .int .i64 ((b).x).z.lo, .int .i64 ((b).x).z.hi, .int .i64 ((b).y).x.lo, .int .i64 ((b).y).x.hi, .int .i64 ((b).y).y.lo, .int .i64 ((b).y).y.hi, .int .i64 ((b).y).z.lo, .int .i64 ((b).y).z.hi, .int .i64 ((b).z).x.lo, .int .i64 ((b).z).x.hi, .int .i64 ((b).z).y.lo, .int .i64 ((b).z).y.hi, .int .i64 ((b).z).z.lo, .int .i64 ((b).z).z.hi] 26)).alloc (.cells #[.int .i64 0, .int .i64 0, .int .i64 0, .int .i64 0, .int .i64 0, .int .i64 0, .int .i64 0, .int .i64 0, .int .i64 0, .int .i64 0, .int .i64 0, .int .i64 0, .int .i64 0, .int .i64 0, .int .i64 0, .int .i64 0, .int .i64 0, .int .i64 0] 26)) (w.heap.size + 1) b := MatAt.alloc (MatAt.at_new (v := b) (by simp)) _
  have A2 := Lib.hid (show MatAt (((w.alloc (.cells #[.int .i64 ((a).x).x.lo, .int .i64 ((a).x).x.hi, .int .i64 ((a).x).y.lo, .int .i64 ((a).x).y.hi, .int .i64 ((a).x).z.lo, .int .i64 ((a).x).z.hi, .int .i64 ((a).y).x.lo, .int .i64 ((a).y).x.hi, .int .i64 ((a).y).y.lo, .int .i64 ((a).y).y.hi, .int .i64 ((a).y).z.lo, .int .i64 ((a).y).z.hi, .int .i64 ((a).z).x.lo, .int .i64 ((a).z).x.hi, .int .i64 ((a).z).y.lo, .int .i64 ((a).z).y.hi, .int .i64 ((a).z).z.lo, .int .i64 ((a).z).z.hi] 26)).alloc (.cells #[.int .i64 ((b).x).x.lo, .int .i64 ((b).x).x.hi, .int .i64 ((b).x).y.lo, .int .i64 ((b).x).y.hi, .int .i64 ((b).x).z.lo, .int .i64 ((b).x).z.hi, .int .i64 ((b).y).x.lo, .int .i64 ((b).y).x.hi, .int .i64 ((b).y).y.lo, .int .i64 ((b).y).y.hi, .int .i64 ((b).y).z.lo, .int .i64 ((b).y).z.hi, .int .i64 ((b).z).x.lo, .int .i64 ((b).z).x.hi, .int .i64 ((b).z).y.lo, .int .i64 ((b).z).y.hi, .int .i64 ((b).z).z.lo, .int .i64 ((b).z).z.hi] 26)).alloc (.cells #[.int .i64 0, .int .i64 0, .int .i64 0, .int .i64 0, .int .i64 0, .int .i64 0, .int .i64 0, .int .i64 0, .int .i64 0, .int .i64 0, .int .i64 0, .int .i64 0, .int .i64 0, .int .i64 0, .int .i64 0, .int .i64 0, .int .i64 0, .int .i64 0] 26)) (w.heap.size + 1 + 1) zeroM from MatAt.at_new (v := zeroM) (by simp))
  have B0 := Lib.hid (show Below w.heap.size w (((w.alloc (.cells #[.int .i64 ((a).x).x.lo, .int .i64 ((a).x).x.hi, .int .i64 ((a).x).y.lo, .int .i64 ((a).x).y.hi, .int .i64 ((a).x).z.lo, .int .i64 ((a).x).z.hi, .int .i64 ((a).y).x.lo, .int .i64 ((a).y).x.hi, .int .i64 ((a).y).y.lo, .int .i64 ((a).y).y.hi, .int .i64 ((a).y).z.lo, .int .i64 ((a).y).z.hi, .int .i64 ((a).z).x.lo, .int .i64 ((a).z).x.hi, .int .i64 ((a).z).y.lo, .int .i64 ((a).z).y.hi, .int .i64 ((a).z).z.lo, .int .i64 ((a).z).z.hi] 26)).alloc (.cells #[.int .i64 ((b).x).x.lo, .int .i64 ((b).x).x.hi, .int .i64 ((b).x).y.lo, .int .i64 ((b).x).y.hi, .int .i64 ((b).x).z.lo, .int .i64 ((b).x).z.hi, .int .i64 ((b).y).x.lo, .int .i64 ((b).y).x.hi, .int .i64 ((b).y).y.lo, .int .i64 ((b).y).y.hi, .int .i64 ((b).y).z.lo, .int .i64 ((b).y).z.hi, .int .i64 ((b).z).x.lo, .int .i64 ((b).z).x.hi, .int .i64 ((b).z).y.lo, .int .i64 ((b).z).y.hi, .int .i64 ((b).z).z.lo, .int .i64 ((b).z).z.hi] 26)).alloc (.cells #[.int .i64 0, .int .i64 0, .int .i64 0, .int .i64 0, .int .i64 0, .int .i64 0, .int .i64 0, .int .i64 0, .int .i64 0, .int .i64 0, .int .i64 0, .int .i64 0, .int .i64 0, .int .i64 0, .int .i64 0, .int .i64 0, .int .i64 0, .int .i64 0] 26)) from below_alloc (below_alloc (below_alloc (Below.refl _ _) _) _) _)
  go_enter Try.func63, Try.ntmps63
  go_wp2_with (first | (refine wpList_load_row rfl 26 _ rfl (w.heap.size + 1) rfl 26 _ (0, 0) _ A1 under_mat rfl info_mat ?_))
  refine (mTranspose_any b _).mono ?_
  rintro e V ⟨rfl, hb1⟩
  have q2 := A2.out.lt
  have q := hb1.size
  have C0 := Lib.hid (((A0.out.below hb1).alloc (.cells #[.int .i64 0, .int .i64 0, .int .i64 0, .int .i64 0, .int .i64 0, .int .i64 0, .int .i64 0, .int .i64 0, .int .i64 0, .int .i64 0, .int .i64 0, .int .i64 0, .int .i64 0, .int .i64 0, .int .i64 0, .int .i64 0, .int .i64 0, .int .i64 0] 26)).row (q := V.heap.size) (c := matC (traM b)) (by have := (A0.out.below hb1).lt; omega))
  have C2 := Lib.hid (((A2.out.below hb1).alloc (.cells #[.int .i64 0, .int .i64 0, .int .i64 0, .int .i64 0, .int .i64 0, .int .i64 0, .int .i64 0, .int .i64 0, .int .i64 0, .int .i64 0, .int .i64 0, .int .i64 0, .int .i64 0, .int .i64 0, .int .i64 0, .int .i64 0, .int .i64 0, .int .i64 0] 26)).row (q := V.heap.size) (c := matC (traM b)) (by have := (A2.out.below hb1).lt; omega))
  have CB := Lib.hid (setRow_below (below_alloc (below_next hb1 B0.out) (.cells #[.int .i64 0, .int .i64 0, .int .i64 0, .int .i64 0, .int .i64 0, .int .i64 0, .int .i64 0, .int .i64 0, .int .i64 0, .int .i64 0, .int .i64 0, .int .i64 0, .int .i64 0, .int .i64 0, .int .i64 0, .int .i64 0, .int .i64 0, .int .i64 0] 26)) (b := V.heap.size) (by omega) (matC (traM b)))
  have hn : MatAt (V.alloc (.cells #[.int .i64 0, .int .i64 0, .int .i64 0, .int .i64 0, .int .i64 0, .int .i64 0, .int .i64 0, .int .i64 0, .int .i64 0, .int .i64 0, .int .i64 0, .int .i64 0, .int .i64 0, .int .i64 0, .int .i64 0, .int .i64 0, .int .i64 0, .int .i64 0] 26)) V.heap.size zeroM := MatAt.at_new (v := zeroM) rfl
  have C1 := Lib.hid (hn.put (traM b))
  have qn : w.heap.size + 1 + 1 < V.heap.size := by omega
  clear A0 A1 A2 B0 hb1 q q2
  go_wp2_with (first | (refine wpList_store_row rfl 26 _ _ rfl V.heap.size (matC (traM b)) rfl rfl 26 (matC zeroM) hn info_mat rfl (mat_one _) ?_))
  obtain ⟨n, hn1⟩ : ∃ n, V.heap.size = n := ⟨_, rfl⟩
  obtain ⟨W, hW⟩ : ∃ W : World, W = (V.alloc (.cells #[.int .i64 0, .int .i64 0, .int .i64 0, .int .i64 0, .int .i64 0, .int .i64 0, .int .i64 0, .int .i64 0, .int .i64 0, .int .i64 0, .int .i64 0, .int .i64 0, .int .i64 0, .int .i64 0, .int .i64 0, .int .i64 0, .int .i64 0, .int .i64 0] 26)).setRow V.heap.size (matC (traM b)) := ⟨_, rfl⟩
  have hs : W.heap.size = n + 1 := by rw [hW, size_setRow]; simp [hn1]
  rw [← hW] at C0 C1 C2 CB ⊢
  rw [hn1] at C1 qn ⊢
  clear hW hn hn1
  go_loopw [11] (fun u wr => ∃ i : Nat, i ≤ 3 ∧ u = .int .i64 i ∧ MatAt wr (w.heap.size) a ∧ MatAt wr (w.heap.size + 1 + 1) zeroM ∧ MatAt wr n (traM b) ∧ MatAt wr (n + 1) (selM (fun r c => decide (r < i)) (comM a b)) ∧ Below w.heap.size w wr) (fun u _ => 3 - (intOf u).toNat)
  case atStart =>
    refine ⟨0, by omega, rfl, ?_, ?_, ?_, ?_, ?_⟩
    · exact C0.out.alloc _
    · exact C2.out.alloc _
    · exact C1.out.alloc _
    · rw [selM_none _ (fun r c _ _ => by simp)]; exact MatAt.at_new (v := zeroM) hs
    · exact below_alloc CB.out _
  case round =>
    clear C0 C1 C2 CB
    obtain ⟨i, hi, rfl, r0, r2, r1, r3, hb⟩ := hrel
    by_cases h3 : i < 3
    · have y3 : (i : Int) < 3 := by omega
      go_wp2_with fail
      go_loopw [14] (fun u wr => ∃ k : Nat, k ≤ 3 ∧ u = .int .i64 k ∧ MatAt wr (w.heap.size) a ∧ MatAt wr (w.heap.size + 1 + 1) zeroM ∧ MatAt wr n (traM b) ∧ MatAt wr (n + 1) (selM (fun r c => decide (r < i ∨ (r = i ∧ c < k))) (comM a b)) ∧ Below w.heap.size w wr) (fun u _ => 3 - (intOf u).toNat)
      case atStart =>
        refine ⟨0, by omega, rfl, r0, r2, r1, ?_, hb⟩
        rw [selM_congr _ (q := fun r c => decide (r < i)) (fun r c _ _ => by simp)]
        exact r3
      case round =>
        obtain ⟨k, hk, rfl, r0, r2, r1, r3, hb⟩ := hrel
        by_cases h4 : k < 3
        · have x3 : (k : Int) < 3 := by omega
          have R0 := Lib.hid r0
          have R1 := Lib.hid r1
          have R2 := Lib.hid r2
          have R3 := Lib.hid r3
          have q3 := r3.lt
          clear r0 r1 r2 r3
          go_wp2_with fail
          have q0 := R0.out.lt
          have qq := R1.out.lt
          have hB : Below wr.heap.size wr wr.drew := (Below.refl _ _).drew
          refine wp_region_noPanic ?_
          refine wp_region_held_drew (S := (fun w3 => w3.heap[w.heap.size]? = wr.heap[w.heap.size]? ∧ w3.heap[n]? = wr.heap[n]?)) (by kernel_rfl) ?_ (fun hHeld => ?_)
          focus (with_reducible first | assumption | exact ⟨heap_drw _ _, heap_drw _ _⟩ | exact ⟨hB.block _ (by omega), hB.block _ (by omega)⟩ | exact ⟨by rw [heap_setCell_other _ _ _ _ (by dsimp only; omega), heap_setCell_other _ _ _ _ (by dsimp only; omega)]; exact hHeld.1, by rw [heap_setCell_other _ _ _ _ (by dsimp only; omega), heap_setCell_other _ _ _ _ (by dsimp only; omega)]; exact hHeld.2⟩)
          refine wpAnyH_take (i := 0) (v := ?_) rfl (by kernel_rfl) (by kernel_rfl) (by kernel_rfl) (fun _ _ _ h => h) (Or.inl ⟨by rfl, ?_⟩) (by assumption) ?_; rotate_left; (focus (intro w hSw; (try dsimp only at hSw); go_simp; try with_reducible rfl)); (try simp only [Act.put, List.getElem_toArray, List.getElem_cons_succ, List.getElem_cons_zero, List.setIfInBounds_toArray, List.set_cons_zero, List.set_cons_succ])
          refine wpAnyH_take (i := 1) (v := ?_) rfl (by kernel_rfl) (by kernel_rfl) (by kernel_rfl) (fun _ _ _ h => h) (Or.inl ⟨by rfl, ?_⟩) (by assumption) ?_; rotate_left; (focus (intro w hSw; (try dsimp only at hSw); go_simp; try with_reducible rfl)); (try simp only [Act.put, List.getElem_toArray, List.getElem_cons_succ, List.getElem_cons_zero, List.setIfInBounds_toArray, List.set_cons_zero, List.set_cons_succ])
          refine wpAnyH_take (i := 2) (v := ?_) rfl (by kernel_rfl) (by kernel_rfl) (by kernel_rfl) (fun _ _ _ h => h) (Or.inl ⟨by rfl, ?_⟩) (by assumption) ?_; rotate_left; (focus (intro w hSw; (try dsimp only at hSw); go_simp; try with_reducible rfl)); (try simp only [Act.put, List.getElem_toArray, List.getElem_cons_succ, List.getElem_cons_zero, List.setIfInBounds_toArray, List.set_cons_zero, List.set_cons_succ])
          refine wpAnyH_take (i := 3) (v := ?_) rfl (by kernel_rfl) (by kernel_rfl) (by kernel_rfl) (fun _ _ _ h => h) (Or.inl ⟨by rfl, ?_⟩) (by assumption) ?_; rotate_left; (focus (intro w hSw; (try dsimp only at hSw); go_simp; try with_reducible rfl)); (try simp only [Act.put, List.getElem_toArray, List.getElem_cons_succ, List.getElem_cons_zero, List.setIfInBounds_toArray, List.set_cons_zero, List.set_cons_succ])
          refine wpAnyH_take (i := 4) (v := .agg (vecC (a.row i))) rfl (by kernel_rfl) (by kernel_rfl) (by kernel_rfl) (fun _ _ _ h => h) (yieldsIf_load_mid (by rfl) 24 _ rfl (w.heap.size) (i * 6) (by go_simp) (vecC (a.row i)).toList _ (fun _ h => MatAt.row_range (h.1.trans R0.out) h3) under_row rfl info_row) (by assumption) ?_; (try simp only [Act.put, List.getElem_toArray, List.getElem_cons_succ, List.getElem_cons_zero, List.setIfInBounds_toArray, List.set_cons_zero, List.set_cons_succ])
          refine wpAnyH_take (i := 5) (v := ?_) rfl (by kernel_rfl) (by kernel_rfl) (by kernel_rfl) (fun _ _ _ h => h) (Or.inl ⟨by rfl, ?_⟩) (by assumption) ?_; rotate_left; (focus (intro w hSw; (try dsimp only at hSw); go_simp; try with_reducible rfl)); (try simp only [Act.put, List.getElem_toArray, List.getElem_cons_succ, List.getElem_cons_zero, List.setIfInBounds_toArray, List.set_cons_zero, List.set_cons_succ])
          refine wpAnyH_take (i := 6) (v := ?_) rfl (by kernel_rfl) (by kernel_rfl) (by kernel_rfl) (fun _ _ _ h => h) (Or.inl ⟨by rfl, ?_⟩) (by assumption) ?_; rotate_left; (focus (intro w hSw; (try dsimp only at hSw); go_simp; try with_reducible rfl)); (try simp only [Act.put, List.getElem_toArray, List.getElem_cons_succ, List.getElem_cons_zero, List.setIfInBounds_toArray, List.set_cons_zero, List.set_cons_succ])
          refine wpAnyH_take (i := 7) (v := .agg (vecC ((traM b).row k))) rfl (by kernel_rfl) (by kernel_rfl) (by kernel_rfl) (fun _ _ _ h => h) (yieldsIf_load_mid (by rfl) 24 _ rfl (n) (k * 6) (by go_simp) (vecC ((traM b).row k)).toList _ (fun _ h => MatAt.row_range (h.2.trans R1.out) h4) under_row rfl info_row) (by assumption) ?_; (try simp only [Act.put, List.getElem_toArray, List.getElem_cons_succ, List.getElem_cons_zero, List.setIfInBounds_toArray, List.set_cons_zero, List.set_cons_succ])
          refine wpAnyH_take (i := 10) (v := ?_) rfl (by kernel_rfl) (by kernel_rfl) (by kernel_rfl) (fun _ _ _ h => h) (Or.inl ⟨by rfl, ?_⟩) (by assumption) ?_; rotate_left; (focus (intro w hSw; (try dsimp only at hSw); go_simp; try with_reducible rfl)); (try simp only [Act.put, List.getElem_toArray, List.getElem_cons_succ, List.getElem_cons_zero, List.setIfInBounds_toArray, List.set_cons_zero, List.set_cons_succ])
          refine wpAnyH_ready (rs := [8]) (by kernel_rfl) (by simp) (AllReadyH.cons rfl (fun K hK => ?_) AllReadyH.nil); go_simp; ((go_at_call 68; refine (product_any (a.row i) ((traM b).row k) _).mono ?_; rintro e w' ⟨rfl, hb2⟩); have hb3 := below_next hb2 hB; clear hB; have hB := hb3; clear hb3 hb2); go_wp2_with fail; refine hK.out _ _ ?_ (fun hHeld => ?_); (focus (with_reducible first | assumption | exact ⟨heap_drw _ _, heap_drw _ _⟩ | exact ⟨hB.block _ (by omega), hB.block _ (by omega)⟩ | exact ⟨by rw [heap_setCell_other _ _ _ _ (by dsimp only; omega), heap_setCell_other _ _ _ _ (by dsimp only; omega)]; exact hHeld.1, by rw [heap_setCell_other _ _ _ _ (by dsimp only; omega), heap_setCell_other _ _ _ _ (by dsimp only; omega)]; exact hHeld.2⟩)); clear hK K; (try simp only [Act.put, List.getElem_toArray, List.getElem_cons_succ, List.getElem_cons_zero, List.setIfInBounds_toArray, List.set_cons_zero, List.set_cons_succ])
          refine wpAnyH_ready (rs := [9]) (by kernel_rfl) (by simp) (AllReadyH.cons rfl (fun K hK => ?_) AllReadyH.nil); go_simp; ((go_at_call 78; refine (mlimited_any (dotV (a.row i) ((traM b).row k)) _).mono ?_; rintro e w' ⟨rfl, hb2⟩); have hb3 := below_next hb2 hB; clear hB; have hB := hb3; clear hb3 hb2; have T3 := Lib.hid (R3.out.below hB); have d0 := T3.out.atl h3 h4; have d1 := T3.out.ath h3 h4; have d2 := T3.out.free (i * 6 + k * 2); have d3 := T3.out.free (i * 6 + k * 2 + 1)); go_wp2_with fail; refine hK.out _ _ ?_ (fun hHeld => ?_); (focus (with_reducible first | assumption | exact ⟨heap_drw _ _, heap_drw _ _⟩ | exact ⟨hB.block _ (by omega), hB.block _ (by omega)⟩ | exact ⟨by rw [heap_setCell_other _ _ _ _ (by dsimp only; omega), heap_setCell_other _ _ _ _ (by dsimp only; omega)]; exact hHeld.1, by rw [heap_setCell_other _ _ _ _ (by dsimp only; omega), heap_setCell_other _ _ _ _ (by dsimp only; omega)]; exact hHeld.2⟩)); clear hK K; (try simp only [Act.put, List.getElem_toArray, List.getElem_cons_succ, List.getElem_cons_zero, List.setIfInBounds_toArray, List.set_cons_zero, List.set_cons_succ])
          refine wpAnyH_take (i := 11) (v := ?_) rfl (by kernel_rfl) (by kernel_rfl) (by kernel_rfl) (fun _ _ _ h => h) (Or.inl ⟨by rfl, ?_⟩) (by assumption) ?_; rotate_left; (focus (intro w hSw; (try dsimp only at hSw); go_simp; try with_reducible rfl)); (try simp only [Act.put, List.getElem_toArray, List.getElem_cons_succ, List.getElem_cons_zero, List.setIfInBounds_toArray, List.set_cons_zero, List.set_cons_succ])
          refine wpAnyH_ready (rs := [12]) (by kernel_rfl) (by simp) (AllReadyH.cons rfl (fun K hK => ?_) AllReadyH.nil); go_simp; refine hK.out _ _ ?_ (fun hHeld => ?_); (focus (with_reducible first | assumption | exact ⟨heap_drw _ _, heap_drw _ _⟩ | exact ⟨hB.block _ (by omega), hB.block _ (by omega)⟩ | exact ⟨by rw [heap_setCell_other _ _ _ _ (by dsimp only; omega), heap_setCell_other _ _ _ _ (by dsimp only; omega)]; exact hHeld.1, by rw [heap_setCell_other _ _ _ _ (by dsimp only; omega), heap_setCell_other _ _ _ _ (by dsimp only; omega)]; exact hHeld.2⟩)); clear hK K; (try simp only [Act.put, List.getElem_toArray, List.getElem_cons_succ, List.getElem_cons_zero, List.setIfInBounds_toArray, List.set_cons_zero, List.set_cons_succ])
          refine wpAnyH_done (by kernel_rfl) ?_ _
          refine NoPanic.normal ?_
          go_wp2_with fail
          go_roundw
          case rel =>
            refine ⟨k + 1, by omega, by go_num, ?_, ?_, ?_, ?_, ?_⟩
            · exact (hHeld.1.trans R0.out : _)
            · exact ((R2.out.below hB).far (by omega)).far (by omega)
            · exact (hHeld.2.trans R1.out : _)
            · refine MatAt.put_at (x := lim1 (dotV (a.row i) ((traM b).row k))) T3.out h3 h4 (com_row a b h3 h4) (fun r c _ _ => ?_)
              unfold addP
              rw [Bool.eq_iff_iff]
              simp only [Bool.or_eq_true, Bool.and_eq_true, beq_iff_eq, decide_eq_true_eq]
              omega
            · exact Below.setCell (Below.setCell (below_next hB hb) (by dsimp only; omega) _) (by dsimp only; omega) _
          case measure => simp [intOf]; omega
        · obtain rfl : k = 3 := by omega
          go_wp2_with fail
          go_roundw
          case rel =>
            refine ⟨i + 1, by omega, by go_num, r0, r2, r1, ?_, hb⟩
            rw [selM_congr _ (q := fun r c => decide (r < i ∨ (r = i ∧ c < 3))) (fun r c h1 h2 => by rw [Bool.eq_iff_iff]; simp only [decide_eq_true_eq]; omega)]
            exact r3
          case measure => simp [intOf]; omega
    · obtain rfl : i = 3 := by omega
      rw [selM_all _ (fun r c h1 h2 => by simp; omega)] at r3
      have hst := store_mat (P := Try.prog) (comM a b) r2
      go_wp2_with (first | (refine wpList_load_row rfl 26 _ rfl (n + 1) rfl 26 _ (0, 0) _ r3 under_mat rfl info_mat ?_))
      (try simp only [Exit.inBlock, Exit.then])
      refine bodyPost_ret (v := .agg (matC (comM a b))) ?_ rfl ⟨rfl, setRow_below hb (by omega) _⟩
      exact results_cell_row rfl _ _ (w.heap.size + 1 + 1) 26 _ (0, 0) _ rfl (r2.put _) under_mat rfl info_mat
end Go.Proofs.Ytdplgiccpjlelaa
namespace Go.Proofs.Ytdplgiccpjlelaa
open Go.RowKit

theorem withinVB_all {u v : V3} (h : ∀ j, j < 3 → withinB (u.at j) (v.at j) = true) : withinVB u v = true := by
  have h0 := h 0 (by decide)
  have h1 := h 1 (by decide)
  have h2 := h 2 (by decide)
  unfold withinVB
  rw [show withinB u.x v.x = true from h0, show withinB u.y v.y = true from h1, show withinB u.z v.z = true from h2]
  rfl
theorem withinVB_no {u v : V3} {j : Nat} (hj : j < 3) (h : withinB (u.at j) (v.at j) = false) : withinVB u v = false := by
  unfold withinVB
  match j, hj, h with
  | 0, _, h => rw [show withinB u.x v.x = false from h]; rfl
  | 1, _, h => rw [show withinB u.y v.y = false from h]; simp
  | 2, _, h => rw [show withinB u.z v.z = false from h]; simp
theorem withinMB_all {u v : M3} (h : ∀ j, j < 3 → withinVB (u.row j) (v.row j) = true) : withinMB u v = true := by
  have h0 := h 0 (by decide)
  have h1 := h 1 (by decide)
  have h2 := h 2 (by decide)
  unfold withinMB
  rw [show withinVB u.x v.x = true from h0, show withinVB u.y v.y = true from h1, show withinVB u.z v.z = true from h2]
  rfl
theorem withinMB_no {u v : M3} {j : Nat} (hj : j < 3) (h : withinVB (u.row j) (v.row j) = false) : withinMB u v = false := by
  unfold withinMB
  match j, hj, h with
  | 0, _, h => rw [show withinVB u.x v.x = false from h]; rfl
  | 1, _, h => rw [show withinVB u.y v.y = false from h]; simp
  | 2, _, h => rw [show withinVB u.z v.z = false from h]; simp
set_option linter.unusedSimpArgs false in
set_option linter.unusedVariables false in
set_option maxRecDepth 100000 in
set_option maxHeartbeats 12800000 in
theorem mWithin_any (u v : V3) (w : World) :
    Calls Try.prog 47 #[ .agg #[.int .i64 (u).x.lo, .int .i64 (u).x.hi, .int .i64 (u).y.lo, .int .i64 (u).y.hi, .int .i64 (u).z.lo, .int .i64 (u).z.hi], .agg #[.int .i64 (v).x.lo, .int .i64 (v).x.hi, .int .i64 (v).y.lo, .int .i64 (v).y.hi, .int .i64 (v).z.lo, .int .i64 (v).z.hi] ] w fun e w' => e = .returned (.bool (withinVB u v)) ∧ Below w.heap.size w w' := by
  go_enter Try.func47, Try.ntmps47
  go_wp2_with fail
  go_loopw [6] (fun i wr => ∃ k : Nat, k ≤ 3 ∧ i = .int .i64 k ∧ VecAt wr (w.heap.size) u ∧ VecAt wr (w.heap.size + 1) v ∧ (∀ j, j < k → withinB (u.at j) (v.at j) = true) ∧ Below w.heap.size w wr) (fun i _ => 3 - (intOf i).toNat)
  case atStart =>
    refine ⟨0, by omega, rfl, ?_, ?_, ?_, ?_⟩
    · exact (VecAt.new w u).alloc _
    · exact VecAt.at_new (v := v) (by simp)
    · exact fun j h => absurd h (by omega)
    · exact below_alloc (below_alloc (Below.refl _ _) _) _
  case round =>
    obtain ⟨k, hk, rfl, r0, r1, ha, hb⟩ := hrel
    by_cases h3 : k < 3
    · have x3 : (k : Int) < 3 := by omega
      have R0 := Lib.hid r0
      have R1 := Lib.hid r1
      have q0 := r0.lt
      have q1 := r1.lt
      have HA := Lib.hid ha
      have hB : Below wr.heap.size wr wr.drew := (Below.refl _ _).drew
      clear r0 r1 ha
      have glo : ∀ w3 : World, w3.heap[w.heap.size]? = wr.heap[w.heap.size]? → w3.cell? ⟨w.heap.size, k * 2, none⟩ = some (.int .i64 (u.at k).lo) := fun _ h => VecAt.at_lo (h.trans R0.out) h3
      have ghi : ∀ w3 : World, w3.heap[w.heap.size]? = wr.heap[w.heap.size]? → w3.cell? ⟨w.heap.size, k * 2 + 1, none⟩ = some (.int .i64 (u.at k).hi) := fun _ h => VecAt.at_hi (h.trans R0.out) h3
      have klo : ∀ w3 : World, w3.heap[w.heap.size + 1]? = wr.heap[w.heap.size + 1]? → w3.cell? ⟨w.heap.size + 1, k * 2, none⟩ = some (.int .i64 (v.at k).lo) := fun _ h => VecAt.at_lo (h.trans R1.out) h3
      have khi : ∀ w3 : World, w3.heap[w.heap.size + 1]? = wr.heap[w.heap.size + 1]? → w3.cell? ⟨w.heap.size + 1, k * 2 + 1, none⟩ = some (.int .i64 (v.at k).hi) := fun _ h => VecAt.at_hi (h.trans R1.out) h3
      by_cases hx : withinB (u.at k) (v.at k) = true
      · go_wp2_with fail
        refine wp_region_noPanic ?_
        refine wp_region_held_drew (S := (fun w3 => w3.heap[w.heap.size]? = wr.heap[w.heap.size]? ∧ w3.heap[w.heap.size + 1]? = wr.heap[w.heap.size + 1]?)) (by kernel_rfl) ?_ (fun hHeld => ?_)
        focus (with_reducible first | assumption | exact ⟨heap_drw _ _, heap_drw _ _⟩ | exact ⟨hB.block _ (by omega), hB.block _ (by omega)⟩)
        refine wpAnyH_take (i := 0) (v := ?_) rfl (by kernel_rfl) (by kernel_rfl) (by kernel_rfl) (fun _ _ _ h => h) (Or.inl ⟨by rfl, ?_⟩) (by assumption) ?_; rotate_left; (focus (intro w hSw; (try dsimp only at hSw); go_simp; try with_reducible rfl)); (try simp only [Act.put, List.getElem_toArray, List.getElem_cons_succ, List.getElem_cons_zero, List.setIfInBounds_toArray, List.set_cons_zero, List.set_cons_succ])
        refine wpAnyH_take (i := 1) (v := ?_) rfl (by kernel_rfl) (by kernel_rfl) (by kernel_rfl) (fun _ _ _ h => h) (Or.inl ⟨by rfl, ?_⟩) (by assumption) ?_; rotate_left; (focus (intro w hSw; (try dsimp only at hSw); go_simp; try with_reducible rfl)); (try simp only [Act.put, List.getElem_toArray, List.getElem_cons_succ, List.getElem_cons_zero, List.setIfInBounds_toArray, List.set_cons_zero, List.set_cons_succ])
        refine wpAnyH_take (i := 2) (v := ?_) rfl (by kernel_rfl) (by kernel_rfl) (by kernel_rfl) (fun _ _ _ h => h) (Or.inl ⟨by rfl, ?_⟩) (by assumption) ?_; rotate_left; (focus (intro w hSw; (try dsimp only at hSw); go_simp; try with_reducible rfl)); (try simp only [Act.put, List.getElem_toArray, List.getElem_cons_succ, List.getElem_cons_zero, List.setIfInBounds_toArray, List.set_cons_zero, List.set_cons_succ])
        refine wpAnyH_take (i := 3) (v := ?_) rfl (by kernel_rfl) (by kernel_rfl) (by kernel_rfl) (fun _ _ _ h => h) (Or.inl ⟨by rfl, ?_⟩) (by assumption) ?_; rotate_left; (focus (intro w hSw; (try dsimp only at hSw); go_simp; try with_reducible rfl)); (try simp only [Act.put, List.getElem_toArray, List.getElem_cons_succ, List.getElem_cons_zero, List.setIfInBounds_toArray, List.set_cons_zero, List.set_cons_succ])
        refine wpAnyH_take (i := 4) (v := ?_) rfl (by kernel_rfl) (by kernel_rfl) (by kernel_rfl) (fun _ _ _ h => h) (Or.inl ⟨by rfl, ?_⟩) (by assumption) ?_; rotate_left; (focus (intro w hSw; (try dsimp only at hSw); go_simp; try with_reducible rfl)); (try simp only [Act.put, List.getElem_toArray, List.getElem_cons_succ, List.getElem_cons_zero, List.setIfInBounds_toArray, List.set_cons_zero, List.set_cons_succ])
        refine wpAnyH_take (i := 5) (v := ?_) rfl (by kernel_rfl) (by kernel_rfl) (by kernel_rfl) (fun _ _ _ h => h) (Or.inl ⟨by rfl, ?_⟩) (by assumption) ?_; rotate_left; (focus (intro w hSw; (try dsimp only at hSw); go_simp; try with_reducible rfl)); (try simp only [Act.put, List.getElem_toArray, List.getElem_cons_succ, List.getElem_cons_zero, List.setIfInBounds_toArray, List.set_cons_zero, List.set_cons_succ])
        refine wpAnyH_ready (rs := [6]) (by kernel_rfl) (by simp) (AllReadyH.cons rfl (fun K hK => ?_) AllReadyH.nil); go_simp; ((go_at_call 69; refine (Within_any (u.at k) (v.at k) _).mono ?_; rintro e w' ⟨rfl, hb2⟩); have hb3 := below_next hb2 hB; clear hB; have hB := hb3; clear hb3 hb2); go_wp2_with fail; refine hK.out _ _ ?_ (fun hHeld => ?_); (focus (with_reducible first | assumption | exact ⟨heap_drw _ _, heap_drw _ _⟩ | exact ⟨hB.block _ (by omega), hB.block _ (by omega)⟩)); clear hK K; (try simp only [Act.put, List.getElem_toArray, List.getElem_cons_succ, List.getElem_cons_zero, List.setIfInBounds_toArray, List.set_cons_zero, List.set_cons_succ])
        refine wpAnyH_take (i := 7) (v := ?_) rfl (by kernel_rfl) (by kernel_rfl) (by kernel_rfl) (fun _ _ _ h => h) (Or.inl ⟨by rfl, ?_⟩) (by assumption) ?_; rotate_left; (focus (intro w hSw; (try dsimp only at hSw); go_simp; try with_reducible rfl)); (try simp only [Act.put, List.getElem_toArray, List.getElem_cons_succ, List.getElem_cons_zero, List.setIfInBounds_toArray, List.set_cons_zero, List.set_cons_succ])
        refine wpAnyH_done (by kernel_rfl) ?_ _
        refine NoPanic.normal ?_
        go_wp2_with fail
        go_roundw
        case rel =>
          refine ⟨k + 1, by omega, by go_num, ?_, ?_, ?_, ?_⟩
          · exact (hHeld.1.trans R0.out : _)
          · exact (hHeld.2.trans R1.out : _)
          · intro j hj
            by_cases h : j = k
            · rw [h]; exact hx
            · exact HA.out j (by omega)
          · exact below_next hB hb
        case measure => simp [intOf]; omega
      · have hxf : withinB (u.at k) (v.at k) = false := by simpa using hx
        clear hx
        go_wp2_with fail
        refine wp_region_noPanic ?_
        refine wp_region_held_drew (S := (fun w3 => w3.heap[w.heap.size]? = wr.heap[w.heap.size]? ∧ w3.heap[w.heap.size + 1]? = wr.heap[w.heap.size + 1]?)) (by kernel_rfl) ?_ (fun hHeld => ?_)
        focus (with_reducible first | assumption | exact ⟨heap_drw _ _, heap_drw _ _⟩ | exact ⟨hB.block _ (by omega), hB.block _ (by omega)⟩)
        refine wpAnyH_take (i := 0) (v := ?_) rfl (by kernel_rfl) (by kernel_rfl) (by kernel_rfl) (fun _ _ _ h => h) (Or.inl ⟨by rfl, ?_⟩) (by assumption) ?_; rotate_left; (focus (intro w hSw; (try dsimp only at hSw); go_simp; try with_reducible rfl)); (try simp only [Act.put, List.getElem_toArray, List.getElem_cons_succ, List.getElem_cons_zero, List.setIfInBounds_toArray, List.set_cons_zero, List.set_cons_succ])
        refine wpAnyH_take (i := 1) (v := ?_) rfl (by kernel_rfl) (by kernel_rfl) (by kernel_rfl) (fun _ _ _ h => h) (Or.inl ⟨by rfl, ?_⟩) (by assumption) ?_; rotate_left; (focus (intro w hSw; (try dsimp only at hSw); go_simp; try with_reducible rfl)); (try simp only [Act.put, List.getElem_toArray, List.getElem_cons_succ, List.getElem_cons_zero, List.setIfInBounds_toArray, List.set_cons_zero, List.set_cons_succ])
        refine wpAnyH_take (i := 2) (v := ?_) rfl (by kernel_rfl) (by kernel_rfl) (by kernel_rfl) (fun _ _ _ h => h) (Or.inl ⟨by rfl, ?_⟩) (by assumption) ?_; rotate_left; (focus (intro w hSw; (try dsimp only at hSw); go_simp; try with_reducible rfl)); (try simp only [Act.put, List.getElem_toArray, List.getElem_cons_succ, List.getElem_cons_zero, List.setIfInBounds_toArray, List.set_cons_zero, List.set_cons_succ])
        refine wpAnyH_take (i := 3) (v := ?_) rfl (by kernel_rfl) (by kernel_rfl) (by kernel_rfl) (fun _ _ _ h => h) (Or.inl ⟨by rfl, ?_⟩) (by assumption) ?_; rotate_left; (focus (intro w hSw; (try dsimp only at hSw); go_simp; try with_reducible rfl)); (try simp only [Act.put, List.getElem_toArray, List.getElem_cons_succ, List.getElem_cons_zero, List.setIfInBounds_toArray, List.set_cons_zero, List.set_cons_succ])
        refine wpAnyH_take (i := 4) (v := ?_) rfl (by kernel_rfl) (by kernel_rfl) (by kernel_rfl) (fun _ _ _ h => h) (Or.inl ⟨by rfl, ?_⟩) (by assumption) ?_; rotate_left; (focus (intro w hSw; (try dsimp only at hSw); go_simp; try with_reducible rfl)); (try simp only [Act.put, List.getElem_toArray, List.getElem_cons_succ, List.getElem_cons_zero, List.setIfInBounds_toArray, List.set_cons_zero, List.set_cons_succ])
        refine wpAnyH_take (i := 5) (v := ?_) rfl (by kernel_rfl) (by kernel_rfl) (by kernel_rfl) (fun _ _ _ h => h) (Or.inl ⟨by rfl, ?_⟩) (by assumption) ?_; rotate_left; (focus (intro w hSw; (try dsimp only at hSw); go_simp; try with_reducible rfl)); (try simp only [Act.put, List.getElem_toArray, List.getElem_cons_succ, List.getElem_cons_zero, List.setIfInBounds_toArray, List.set_cons_zero, List.set_cons_succ])
        refine wpAnyH_ready (rs := [6]) (by kernel_rfl) (by simp) (AllReadyH.cons rfl (fun K hK => ?_) AllReadyH.nil); go_simp; ((go_at_call 69; refine (Within_any (u.at k) (v.at k) _).mono ?_; rintro e w' ⟨rfl, hb2⟩); have hb3 := below_next hb2 hB; clear hB; have hB := hb3; clear hb3 hb2); go_wp2_with fail; refine hK.out _ _ ?_ (fun hHeld => ?_); (focus (with_reducible first | assumption | exact ⟨heap_drw _ _, heap_drw _ _⟩ | exact ⟨hB.block _ (by omega), hB.block _ (by omega)⟩)); clear hK K; (try simp only [Act.put, List.getElem_toArray, List.getElem_cons_succ, List.getElem_cons_zero, List.setIfInBounds_toArray, List.set_cons_zero, List.set_cons_succ])
        refine wpAnyH_take (i := 7) (v := ?_) rfl (by kernel_rfl) (by kernel_rfl) (by kernel_rfl) (fun _ _ _ h => h) (Or.inl ⟨by rfl, ?_⟩) (by assumption) ?_; rotate_left; (focus (intro w hSw; (try dsimp only at hSw); go_simp; try with_reducible rfl)); (try simp only [Act.put, List.getElem_toArray, List.getElem_cons_succ, List.getElem_cons_zero, List.setIfInBounds_toArray, List.set_cons_zero, List.set_cons_succ])
        refine wpAnyH_done (by kernel_rfl) ?_ _
        refine NoPanic.normal ?_
        go_wp2_with fail
        go_ret
        exact ⟨ret_bool (withinVB_no h3 hxf).symm, below_next hB hb⟩
    · obtain rfl : k = 3 := by omega
      have HA := Lib.hid (withinVB_all ha)
      clear ha
      go_wp2_with fail
      go_ret
      exact ⟨ret_bool HA.out.symm, hb⟩
set_option linter.unusedSimpArgs false in
set_option linter.unusedVariables false in
set_option maxRecDepth 100000 in
set_option maxHeartbeats 12800000 in
theorem mWithinMat_any (u v : M3) (w : World) :
    Calls Try.prog 46 #[ .agg #[.int .i64 ((u).x).x.lo, .int .i64 ((u).x).x.hi, .int .i64 ((u).x).y.lo, .int .i64 ((u).x).y.hi, .int .i64 ((u).x).z.lo, .int .i64 ((u).x).z.hi, .int .i64 ((u).y).x.lo, .int .i64 ((u).y).x.hi, .int .i64 ((u).y).y.lo, .int .i64 ((u).y).y.hi, .int .i64 ((u).y).z.lo, .int .i64 ((u).y).z.hi, .int .i64 ((u).z).x.lo, .int .i64 ((u).z).x.hi, .int .i64 ((u).z).y.lo, .int .i64 ((u).z).y.hi, .int .i64 ((u).z).z.lo, .int .i64 ((u).z).z.hi], .agg #[.int .i64 ((v).x).x.lo, .int .i64 ((v).x).x.hi, .int .i64 ((v).x).y.lo, .int .i64 ((v).x).y.hi, .int .i64 ((v).x).z.lo, .int .i64 ((v).x).z.hi, .int .i64 ((v).y).x.lo, .int .i64 ((v).y).x.hi, .int .i64 ((v).y).y.lo, .int .i64 ((v).y).y.hi, .int .i64 ((v).y).z.lo, .int .i64 ((v).y).z.hi, .int .i64 ((v).z).x.lo, .int .i64 ((v).z).x.hi, .int .i64 ((v).z).y.lo, .int .i64 ((v).z).y.hi, .int .i64 ((v).z).z.lo, .int .i64 ((v).z).z.hi] ] w fun e w' => e = .returned (.bool (withinMB u v)) ∧ Below w.heap.size w w' := by
  go_enter Try.func46, Try.ntmps46
  go_wp2_with fail
  go_loopw [6] (fun i wr => ∃ k : Nat, k ≤ 3 ∧ i = .int .i64 k ∧ MatAt wr (w.heap.size) u ∧ MatAt wr (w.heap.size + 1) v ∧ (∀ j, j < k → withinVB (u.row j) (v.row j) = true) ∧ Below w.heap.size w wr) (fun i _ => 3 - (intOf i).toNat)
  case atStart =>
    refine ⟨0, by omega, rfl, ?_, ?_, ?_, ?_⟩
    · exact (MatAt.new w u).alloc _
    · exact MatAt.at_new (v := v) (by simp)
    · exact fun j h => absurd h (by omega)
    · exact below_alloc (below_alloc (Below.refl _ _) _) _
  case round =>
    obtain ⟨k, hk, rfl, r0, r1, ha, hb⟩ := hrel
    by_cases h3 : k < 3
    · have x3 : (k : Int) < 3 := by omega
      have R0 := Lib.hid r0
      have R1 := Lib.hid r1
      have q0 := r0.lt
      have q1 := r1.lt
      have HA := Lib.hid ha
      have hB : Below wr.heap.size wr wr.drew := (Below.refl _ _).drew
      clear r0 r1 ha
      by_cases hx : withinVB (u.row k) (v.row k) = true
      · go_wp2_with fail
        refine wp_region_noPanic ?_
        refine wp_region_held_drew (S := (fun w3 => w3.heap[w.heap.size]? = wr.heap[w.heap.size]? ∧ w3.heap[w.heap.size + 1]? = wr.heap[w.heap.size + 1]?)) (by kernel_rfl) ?_ (fun hHeld => ?_)
        focus (with_reducible first | assumption | exact ⟨heap_drw _ _, heap_drw _ _⟩ | exact ⟨hB.block _ (by omega), hB.block _ (by omega)⟩)
        refine wpAnyH_take (i := 0) (v := ?_) rfl (by kernel_rfl) (by kernel_rfl) (by kernel_rfl) (fun _ _ _ h => h) (Or.inl ⟨by rfl, ?_⟩) (by assumption) ?_; rotate_left; (focus (intro w hSw; (try dsimp only at hSw); go_simp; try with_reducible rfl)); (try simp only [Act.put, List.getElem_toArray, List.getElem_cons_succ, List.getElem_cons_zero, List.setIfInBounds_toArray, List.set_cons_zero, List.set_cons_succ])
        refine wpAnyH_take (i := 1) (v := ?_) rfl (by kernel_rfl) (by kernel_rfl) (by kernel_rfl) (fun _ _ _ h => h) (Or.inl ⟨by rfl, ?_⟩) (by assumption) ?_; rotate_left; (focus (intro w hSw; (try dsimp only at hSw); go_simp; try with_reducible rfl)); (try simp only [Act.put, List.getElem_toArray, List.getElem_cons_succ, List.getElem_cons_zero, List.setIfInBounds_toArray, List.set_cons_zero, List.set_cons_succ])
        refine wpAnyH_take (i := 2) (v := .agg (vecC (u.row k))) rfl (by kernel_rfl) (by kernel_rfl) (by kernel_rfl) (fun _ _ _ h => h) (yieldsIf_load_mid (by rfl) 24 _ rfl (w.heap.size) (k * 6) (by go_simp) (vecC (u.row k)).toList _ (fun _ h => MatAt.row_range (h.1.trans R0.out) h3) under_row rfl info_row) (by assumption) ?_; (try simp only [Act.put, List.getElem_toArray, List.getElem_cons_succ, List.getElem_cons_zero, List.setIfInBounds_toArray, List.set_cons_zero, List.set_cons_succ])
        refine wpAnyH_take (i := 3) (v := ?_) rfl (by kernel_rfl) (by kernel_rfl) (by kernel_rfl) (fun _ _ _ h => h) (Or.inl ⟨by rfl, ?_⟩) (by assumption) ?_; rotate_left; (focus (intro w hSw; (try dsimp only at hSw); go_simp; try with_reducible rfl)); (try simp only [Act.put, List.getElem_toArray, List.getElem_cons_succ, List.getElem_cons_zero, List.setIfInBounds_toArray, List.set_cons_zero, List.set_cons_succ])
        refine wpAnyH_take (i := 4) (v := ?_) rfl (by kernel_rfl) (by kernel_rfl) (by kernel_rfl) (fun _ _ _ h => h) (Or.inl ⟨by rfl, ?_⟩) (by assumption) ?_; rotate_left; (focus (intro w hSw; (try dsimp only at hSw); go_simp; try with_reducible rfl)); (try simp only [Act.put, List.getElem_toArray, List.getElem_cons_succ, List.getElem_cons_zero, List.setIfInBounds_toArray, List.set_cons_zero, List.set_cons_succ])
        refine wpAnyH_take (i := 5) (v := .agg (vecC (v.row k))) rfl (by kernel_rfl) (by kernel_rfl) (by kernel_rfl) (fun _ _ _ h => h) (yieldsIf_load_mid (by rfl) 24 _ rfl (w.heap.size + 1) (k * 6) (by go_simp) (vecC (v.row k)).toList _ (fun _ h => MatAt.row_range (h.2.trans R1.out) h3) under_row rfl info_row) (by assumption) ?_; (try simp only [Act.put, List.getElem_toArray, List.getElem_cons_succ, List.getElem_cons_zero, List.setIfInBounds_toArray, List.set_cons_zero, List.set_cons_succ])
        refine wpAnyH_ready (rs := [6]) (by kernel_rfl) (by simp) (AllReadyH.cons rfl (fun K hK => ?_) AllReadyH.nil); go_simp; ((go_at_call 47; refine (mWithin_any (u.row k) (v.row k) _).mono ?_; rintro e w' ⟨rfl, hb2⟩); have hb3 := below_next hb2 hB; clear hB; have hB := hb3; clear hb3 hb2); go_wp2_with fail; refine hK.out _ _ ?_ (fun hHeld => ?_); (focus (with_reducible first | assumption | exact ⟨heap_drw _ _, heap_drw _ _⟩ | exact ⟨hB.block _ (by omega), hB.block _ (by omega)⟩)); clear hK K; (try simp only [Act.put, List.getElem_toArray, List.getElem_cons_succ, List.getElem_cons_zero, List.setIfInBounds_toArray, List.set_cons_zero, List.set_cons_succ])
        refine wpAnyH_take (i := 7) (v := ?_) rfl (by kernel_rfl) (by kernel_rfl) (by kernel_rfl) (fun _ _ _ h => h) (Or.inl ⟨by rfl, ?_⟩) (by assumption) ?_; rotate_left; (focus (intro w hSw; (try dsimp only at hSw); go_simp; try with_reducible rfl)); (try simp only [Act.put, List.getElem_toArray, List.getElem_cons_succ, List.getElem_cons_zero, List.setIfInBounds_toArray, List.set_cons_zero, List.set_cons_succ])
        refine wpAnyH_done (by kernel_rfl) ?_ _
        refine NoPanic.normal ?_
        go_wp2_with fail
        go_roundw
        case rel =>
          refine ⟨k + 1, by omega, by go_num, ?_, ?_, ?_, ?_⟩
          · exact (hHeld.1.trans R0.out : _)
          · exact (hHeld.2.trans R1.out : _)
          · intro j hj
            by_cases h : j = k
            · rw [h]; exact hx
            · exact HA.out j (by omega)
          · exact below_next hB hb
        case measure => simp [intOf]; omega
      · have hxf : withinVB (u.row k) (v.row k) = false := by simpa using hx
        clear hx
        go_wp2_with fail
        refine wp_region_noPanic ?_
        refine wp_region_held_drew (S := (fun w3 => w3.heap[w.heap.size]? = wr.heap[w.heap.size]? ∧ w3.heap[w.heap.size + 1]? = wr.heap[w.heap.size + 1]?)) (by kernel_rfl) ?_ (fun hHeld => ?_)
        focus (with_reducible first | assumption | exact ⟨heap_drw _ _, heap_drw _ _⟩ | exact ⟨hB.block _ (by omega), hB.block _ (by omega)⟩)
        refine wpAnyH_take (i := 0) (v := ?_) rfl (by kernel_rfl) (by kernel_rfl) (by kernel_rfl) (fun _ _ _ h => h) (Or.inl ⟨by rfl, ?_⟩) (by assumption) ?_; rotate_left; (focus (intro w hSw; (try dsimp only at hSw); go_simp; try with_reducible rfl)); (try simp only [Act.put, List.getElem_toArray, List.getElem_cons_succ, List.getElem_cons_zero, List.setIfInBounds_toArray, List.set_cons_zero, List.set_cons_succ])
        refine wpAnyH_take (i := 1) (v := ?_) rfl (by kernel_rfl) (by kernel_rfl) (by kernel_rfl) (fun _ _ _ h => h) (Or.inl ⟨by rfl, ?_⟩) (by assumption) ?_; rotate_left; (focus (intro w hSw; (try dsimp only at hSw); go_simp; try with_reducible rfl)); (try simp only [Act.put, List.getElem_toArray, List.getElem_cons_succ, List.getElem_cons_zero, List.setIfInBounds_toArray, List.set_cons_zero, List.set_cons_succ])
        refine wpAnyH_take (i := 2) (v := .agg (vecC (u.row k))) rfl (by kernel_rfl) (by kernel_rfl) (by kernel_rfl) (fun _ _ _ h => h) (yieldsIf_load_mid (by rfl) 24 _ rfl (w.heap.size) (k * 6) (by go_simp) (vecC (u.row k)).toList _ (fun _ h => MatAt.row_range (h.1.trans R0.out) h3) under_row rfl info_row) (by assumption) ?_; (try simp only [Act.put, List.getElem_toArray, List.getElem_cons_succ, List.getElem_cons_zero, List.setIfInBounds_toArray, List.set_cons_zero, List.set_cons_succ])
        refine wpAnyH_take (i := 3) (v := ?_) rfl (by kernel_rfl) (by kernel_rfl) (by kernel_rfl) (fun _ _ _ h => h) (Or.inl ⟨by rfl, ?_⟩) (by assumption) ?_; rotate_left; (focus (intro w hSw; (try dsimp only at hSw); go_simp; try with_reducible rfl)); (try simp only [Act.put, List.getElem_toArray, List.getElem_cons_succ, List.getElem_cons_zero, List.setIfInBounds_toArray, List.set_cons_zero, List.set_cons_succ])
        refine wpAnyH_take (i := 4) (v := ?_) rfl (by kernel_rfl) (by kernel_rfl) (by kernel_rfl) (fun _ _ _ h => h) (Or.inl ⟨by rfl, ?_⟩) (by assumption) ?_; rotate_left; (focus (intro w hSw; (try dsimp only at hSw); go_simp; try with_reducible rfl)); (try simp only [Act.put, List.getElem_toArray, List.getElem_cons_succ, List.getElem_cons_zero, List.setIfInBounds_toArray, List.set_cons_zero, List.set_cons_succ])
        refine wpAnyH_take (i := 5) (v := .agg (vecC (v.row k))) rfl (by kernel_rfl) (by kernel_rfl) (by kernel_rfl) (fun _ _ _ h => h) (yieldsIf_load_mid (by rfl) 24 _ rfl (w.heap.size + 1) (k * 6) (by go_simp) (vecC (v.row k)).toList _ (fun _ h => MatAt.row_range (h.2.trans R1.out) h3) under_row rfl info_row) (by assumption) ?_; (try simp only [Act.put, List.getElem_toArray, List.getElem_cons_succ, List.getElem_cons_zero, List.setIfInBounds_toArray, List.set_cons_zero, List.set_cons_succ])
        refine wpAnyH_ready (rs := [6]) (by kernel_rfl) (by simp) (AllReadyH.cons rfl (fun K hK => ?_) AllReadyH.nil); go_simp; ((go_at_call 47; refine (mWithin_any (u.row k) (v.row k) _).mono ?_; rintro e w' ⟨rfl, hb2⟩); have hb3 := below_next hb2 hB; clear hB; have hB := hb3; clear hb3 hb2); go_wp2_with fail; refine hK.out _ _ ?_ (fun hHeld => ?_); (focus (with_reducible first | assumption | exact ⟨heap_drw _ _, heap_drw _ _⟩ | exact ⟨hB.block _ (by omega), hB.block _ (by omega)⟩)); clear hK K; (try simp only [Act.put, List.getElem_toArray, List.getElem_cons_succ, List.getElem_cons_zero, List.setIfInBounds_toArray, List.set_cons_zero, List.set_cons_succ])
        refine wpAnyH_take (i := 7) (v := ?_) rfl (by kernel_rfl) (by kernel_rfl) (by kernel_rfl) (fun _ _ _ h => h) (Or.inl ⟨by rfl, ?_⟩) (by assumption) ?_; rotate_left; (focus (intro w hSw; (try dsimp only at hSw); go_simp; try with_reducible rfl)); (try simp only [Act.put, List.getElem_toArray, List.getElem_cons_succ, List.getElem_cons_zero, List.setIfInBounds_toArray, List.set_cons_zero, List.set_cons_succ])
        refine wpAnyH_done (by kernel_rfl) ?_ _
        refine NoPanic.normal ?_
        go_wp2_with fail
        go_ret
        exact ⟨ret_bool (withinMB_no h3 hxf).symm, below_next hB hb⟩
    · obtain rfl : k = 3 := by omega
      have HA := Lib.hid (withinMB_all ha)
      clear ha
      go_wp2_with fail
      go_ret
      exact ⟨ret_bool HA.out.symm, hb⟩
end Go.Proofs.Ytdplgiccpjlelaa
