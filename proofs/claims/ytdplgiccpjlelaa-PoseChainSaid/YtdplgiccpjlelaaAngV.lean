/- Proved: the developers' sine and cosine over an interval of angles. Conditions: as each theorem states. -/
import Derived.Test.YtdplgiccpjlelaaIvK
import Derived.Test.YtdplgiccpjlelaaAngO
import Derived.Test.YtdplgiccpjlelaaAngY
import Derived.Test.YtdplgiccpjlelaaIvH
import Derived.Deep.RegionHeld3
import Derived.Deep.DeepCutAuto
namespace Go.Proofs.Ytdplgiccpjlelaa
open Go.RowKit

theorem alloc_dr {w : World} {o : Obj} {k : Nat} (h : k < w.heap.size) : (w.alloc o).drew.heap[k]? = w.heap[k]? := Go.Deep.blk_alloc_lt _ _ _ h
theorem heap_alloc_up {w : World} {o p : Obj} {k : Nat} (h : w.heap[k]? = some p) (_hk : True ∨ k < w.heap.size) : (w.alloc o).heap[k]? = some p := (Go.Deep.blk_alloc_lt _ _ _ (lt_heap h)).trans h
theorem below_alloc2 {W w : World} {o : Obj} (h : Below W.heap.size W w) : Below W.heap.size W (w.alloc o) := below_alloc h o
set_option linter.unusedSimpArgs false in
set_option linter.unusedVariables false in
set_option maxRecDepth 100000 in
set_option maxHeartbeats 12800000 in
theorem overSin_not (a : Iv) (top bottom : Int) (w : World) (hv : ¬Valid a) :
    Calls Try.prog 72 #[ .agg #[.int .i64 a.lo, .int .i64 a.hi], .func (.func 74) #[] #[], .int .i64 top, .int .i64 bottom ] w fun e w' => e = .returned (.agg #[.int .i64 (overI a (sinA a.lo) (sinA a.hi) top bottom).lo, .int .i64 (overI a (sinA a.lo) (sinA a.hi) top bottom).hi]) ∧ Below w.heap.size w w' := by
  have e0 := validB_false hv
  rw [over_not hv]
  go_enter Try.func72, Try.ntmps72
  go_wp2_with (first | (go_at_call 55; refine (Valid_any _ _).mono ?_; rintro e w' ⟨rfl, hb2⟩; first | ((first | replace hb := below_next hb2 hb | replace hb := below_next hb2 (below_drewN hb) | replace hb := below_next hb2 (below_alloc hb _) | replace hb := below_next hb2 (below_drewN (below_alloc hb _)) | replace hb := below_next hb2 (below_alloc (below_drewN hb) _) | replace hb := below_next hb2 (below_alloc (below_alloc hb _) _)); clear hb2 hc hf; obtain ⟨hc, hf⟩ := bcell hb) | (have hb := hb2; clear hb2; obtain ⟨hc, hf⟩ := bcell hb)))
  exact bodyPost_ret (v := .agg #[.int .i64 0, .int .i64 0]) (by first | (simp [results, Try.results72, go_sem, hc]; done) | (simp [results, Try.results72, go_sem]; done)) rfl ⟨rfl, by (repeat (first | exact Below.refl _ _ | (refine below_up ?_ hb; clear hb hc hf) | refine Below.setCell ?_ (by (try simp) <;> omega) _ | refine Below.alloc ?_ (by (try simp) <;> omega) _ | refine below_drewN ?_ | refine Below.drew ?_))⟩
set_option linter.unusedSimpArgs false in
set_option linter.unusedVariables false in
set_option maxRecDepth 100000 in
set_option maxHeartbeats 12800000 in
theorem overSin_wide (a : Iv) (top bottom : Int) (w : World) (hv : Valid a) (hw : 65536 ≤ a.hi - a.lo) :
    Calls Try.prog 72 #[ .agg #[.int .i64 a.lo, .int .i64 a.hi], .func (.func 74) #[] #[], .int .i64 top, .int .i64 bottom ] w fun e w' => e = .returned (.agg #[.int .i64 (overI a (sinA a.lo) (sinA a.hi) top bottom).lo, .int .i64 (overI a (sinA a.lo) (sinA a.hi) top bottom).hi]) ∧ Below w.heap.size w w' := by
  have e0 := validB_true hv
  have e1 := wid_valid hv
  rw [over_wide hv hw]
  go_enter Try.func72, Try.ntmps72
  go_wp2_with (first | (go_at_call 55; refine (Valid_any _ _).mono ?_; rintro e w' ⟨rfl, hb2⟩; first | ((first | replace hb := below_next hb2 hb | replace hb := below_next hb2 (below_drewN hb) | replace hb := below_next hb2 (below_alloc hb _) | replace hb := below_next hb2 (below_drewN (below_alloc hb _)) | replace hb := below_next hb2 (below_alloc (below_drewN hb) _) | replace hb := below_next hb2 (below_alloc (below_alloc hb _) _)); clear hb2 hc hf; obtain ⟨hc, hf⟩ := bcell hb) | (have hb := hb2; clear hb2; obtain ⟨hc, hf⟩ := bcell hb)) | (go_at_call 84; refine (Width_any _ _).mono ?_; rintro e w' ⟨rfl, hb2⟩; first | ((first | replace hb := below_next hb2 hb | replace hb := below_next hb2 (below_drewN hb) | replace hb := below_next hb2 (below_alloc hb _) | replace hb := below_next hb2 (below_drewN (below_alloc hb _)) | replace hb := below_next hb2 (below_alloc (below_drewN hb) _) | replace hb := below_next hb2 (below_alloc (below_alloc hb _) _)); clear hb2 hc hf; obtain ⟨hc, hf⟩ := bcell hb) | (have hb := hb2; clear hb2; obtain ⟨hc, hf⟩ := bcell hb)))
  exact bodyPost_ret (v := .agg #[.int .i64 (-65536), .int .i64 65536]) (by first | (simp [results, Try.results72, go_sem, hc]; done) | (simp [results, Try.results72, go_sem]; done)) rfl ⟨rfl, by (repeat (first | exact Below.refl _ _ | (refine below_up ?_ hb; clear hb hc hf) | refine Below.setCell ?_ (by (try simp) <;> omega) _ | refine Below.alloc ?_ (by (try simp) <;> omega) _ | refine below_drewN ?_ | refine Below.drew ?_))⟩
set_option linter.unusedSimpArgs false in
set_option linter.unusedVariables false in
set_option maxRecDepth 100000 in
set_option maxHeartbeats 12800000 in
theorem overSin_in (a y : Iv) (top bottom : Int) (w : World) (hy : withBottom a (withTop a (hulI (sinA a.lo) (sinA a.hi)) top) bottom = y) (hv : Valid a) (hw : ¬65536 ≤ a.hi - a.lo) (t0 : 0 ≤ top) (t1 : top ≤ 65536) (u0 : 0 ≤ bottom) (u1 : bottom ≤ 65536) :
    Calls Try.prog 72 #[ .agg #[.int .i64 a.lo, .int .i64 a.hi], .func (.func 74) #[] #[], .int .i64 top, .int .i64 bottom ] w fun e w' => e = .returned (.agg #[.int .i64 y.lo, .int .i64 y.hi]) ∧ Below w.heap.size w w' := by
  have e0 := validB_true hv
  have e1 := wid_valid hv
  have Hy := Lib.hid hy
  clear hy
  have A0 := Lib.hid (show IvAt ((w.alloc (.cells #[.int .i64 a.lo, .int .i64 a.hi] 23)).alloc (.cells #[.int .i64 0, .int .i64 0] 23)) w.heap.size a from (IvAt.new w a).alloc _)
  have R0 := Lib.hid (show IvAt ((w.alloc (.cells #[.int .i64 a.lo, .int .i64 a.hi] 23)).alloc (.cells #[.int .i64 0, .int .i64 0] 23)) (w.heap.size + 1) zeroI from IvAt.zero (by simp))
  have B0 := Lib.hid (show Below w.heap.size w ((w.alloc (.cells #[.int .i64 a.lo, .int .i64 a.hi] 23)).alloc (.cells #[.int .i64 0, .int .i64 0] 23)) from ((Below.refl _ _).alloc (Nat.le_refl _) _).alloc (by simp) _)
  go_enter Try.func72, Try.ntmps72
  go_wp2_with fail
  refine (Valid_any _ _).mono ?_
  rintro e w1 ⟨rfl, hb1⟩
  have A1 := A0.out.below hb1
  obtain ⟨a0, a1⟩ := And.intro A1.c0 A1.c1
  have R1 := Lib.hid (R0.out.below hb1)
  have B1 := Lib.hid (below_next hb1 B0.out)
  have H1 := Lib.hid A1
  clear hb1 A0 R0 B0 A1
  go_wp2_with fail
  refine (Width_any _ _).mono ?_
  rintro e w2 ⟨rfl, hb2⟩
  have A2 := H1.out.below hb2
  have R2 := R1.out.below hb2
  have B2 := Lib.hid (below_next hb2 B1.out)
  have hA := Lib.hid A2
  have hR := Lib.hid R2
  have g0 : ∀ w3 : World, w3.heap[w.heap.size]? = w2.heap[w.heap.size]? → w3.cell? ⟨w.heap.size, 0, none⟩ = some (.int .i64 a.lo) := fun w3 h => IvAt.c0 (x := a) (h.trans hA.out)
  have g1 : ∀ w3 : World, w3.heap[w.heap.size]? = w2.heap[w.heap.size]? → w3.cell? ⟨w.heap.size, 1, none⟩ = some (.int .i64 a.hi) := fun w3 h => IvAt.c1 (x := a) (h.trans hA.out)
  have q0 : w.heap.size + 1 < w2.heap.size := R2.lt
  clear H1 R1 B1 hb2 a0 a1 A2 R2
  go_wp2_with fail
  go_cut [9] (fun v wx => ∃ n, v = .pointer (some ⟨n, 0, none⟩) ∧ OvIs w wx (w.heap.size + 1) n a (hulI (sinA a.lo) (sinA a.hi)))
  case first =>
    refine wp_region_held_drew (S := (fun w3 => w3.heap[w.heap.size]? = w2.heap[w.heap.size]?)) (by kernel_rfl) ?_ (fun hHeld => ?_)
    focus (first | assumption | rfl | exact (Go.Deep.blk_alloc_lt _ _ _ (by omega)).trans (by assumption) | exact (hb2.block _ (lt_heap (hHeld.trans hA.out))).trans hHeld | exact (alloc_dr (lt_heap (hHeld.trans hA.out))).trans hHeld | exact (Go.Deep.blk_alloc_lt _ _ _ (lt_heap (hHeld.trans hA.out))).trans hHeld | (rw [heap_setCell_other _ _ _ _ (by dsimp only; omega), heap_setCell_other _ _ _ _ (by dsimp only; omega)]; exact hHeld))
    refine wpAnyH_take (i := 0) (v := ?_) rfl (by kernel_rfl) (by kernel_rfl) (by kernel_rfl) (fun _ _ _ h => h) (Or.inl ⟨by rfl, ?_⟩) (by assumption) ?_; rotate_left; (focus (intro w hSw; (try dsimp only at hSw); go_simp; try with_reducible rfl)); (try simp only [Act.put, List.getElem_toArray, List.getElem_cons_succ, List.getElem_cons_zero, List.setIfInBounds_toArray, List.set_cons_zero, List.set_cons_succ])
    refine wpAnyH_take (i := 1) (v := ?_) rfl (by kernel_rfl) (by kernel_rfl) (by kernel_rfl) (fun _ _ _ h => h) (Or.inl ⟨by rfl, ?_⟩) (by assumption) ?_; rotate_left; (focus (intro w hSw; (try dsimp only at hSw); go_simp; try with_reducible rfl)); (try simp only [Act.put, List.getElem_toArray, List.getElem_cons_succ, List.getElem_cons_zero, List.setIfInBounds_toArray, List.set_cons_zero, List.set_cons_succ])
    refine wpAnyH_take (i := 2) (v := ?_) rfl (by kernel_rfl) (by kernel_rfl) (by kernel_rfl) (fun _ _ _ h => h) (Or.inl ⟨by rfl, ?_⟩) (by assumption) ?_; rotate_left; (focus (intro w hSw; (try dsimp only at hSw); go_simp; try with_reducible rfl)); (try simp only [Act.put, List.getElem_toArray, List.getElem_cons_succ, List.getElem_cons_zero, List.setIfInBounds_toArray, List.set_cons_zero, List.set_cons_succ])
    refine wpAnyH_take (i := 4) (v := ?_) rfl (by kernel_rfl) (by kernel_rfl) (by kernel_rfl) (fun _ _ _ h => h) (Or.inl ⟨by rfl, ?_⟩) (by assumption) ?_; rotate_left; (focus (intro w hSw; (try dsimp only at hSw); go_simp; try with_reducible rfl)); (try simp only [Act.put, List.getElem_toArray, List.getElem_cons_succ, List.getElem_cons_zero, List.setIfInBounds_toArray, List.set_cons_zero, List.set_cons_succ])
    refine wpAnyH_take (i := 5) (v := ?_) rfl (by kernel_rfl) (by kernel_rfl) (by kernel_rfl) (fun _ _ _ h => h) (Or.inl ⟨by rfl, ?_⟩) (by assumption) ?_; rotate_left; (focus (intro w hSw; (try dsimp only at hSw); go_simp; try with_reducible rfl)); (try simp only [Act.put, List.getElem_toArray, List.getElem_cons_succ, List.getElem_cons_zero, List.setIfInBounds_toArray, List.set_cons_zero, List.set_cons_succ])
    refine wpAnyH_take (i := 6) (v := ?_) rfl (by kernel_rfl) (by kernel_rfl) (by kernel_rfl) (fun _ _ _ h => h) (Or.inl ⟨by rfl, ?_⟩) (by assumption) ?_; rotate_left; (focus (intro w hSw; (try dsimp only at hSw); go_simp; try with_reducible rfl)); (try simp only [Act.put, List.getElem_toArray, List.getElem_cons_succ, List.getElem_cons_zero, List.setIfInBounds_toArray, List.set_cons_zero, List.set_cons_succ])
    refine wpAnyH_ready (rs := [3, 9]) (by kernel_rfl) (by simp) (AllReadyH.cons rfl (fun K hK => ?_) (AllReadyH.cons rfl (fun K hK => ?_) (AllReadyH.nil)))
    · go_simp; ((go_at_call 74; refine (Sin_any _ _).mono ?_; rintro e w' ⟨rfl, hb2⟩); have hz := hb2.size; (try simp at hz); (try replace hn := hn.below hb2)); go_wp2_with fail; refine hK.out _ _ ?_ (fun hHeld => ?_); (focus (first | assumption | rfl | exact (Go.Deep.blk_alloc_lt _ _ _ (by omega)).trans (by assumption) | exact (hb2.block _ (lt_heap (hHeld.trans hA.out))).trans hHeld | exact (alloc_dr (lt_heap (hHeld.trans hA.out))).trans hHeld | exact (Go.Deep.blk_alloc_lt _ _ _ (lt_heap (hHeld.trans hA.out))).trans hHeld | (rw [heap_setCell_other _ _ _ _ (by dsimp only; omega), heap_setCell_other _ _ _ _ (by dsimp only; omega)]; exact hHeld))); clear hK K; (try simp only [Act.put, List.getElem_toArray, List.getElem_cons_succ, List.getElem_cons_zero, List.setIfInBounds_toArray, List.set_cons_zero, List.set_cons_succ])
      refine wpAnyH_ready (rs := [7, 9]) (by kernel_rfl) (by simp) (AllReadyH.cons rfl (fun K hK => ?_) (AllReadyH.cons rfl (fun K hK => ?_) (AllReadyH.nil)))
      · go_simp; ((go_at_call 74; refine (Sin_any _ _).mono ?_; rintro e w' ⟨rfl, hb2⟩); have hz := hb2.size; (try simp at hz); (try replace hn := hn.below hb2)); go_wp2_with fail; refine hK.out _ _ ?_ (fun hHeld => ?_); (focus (first | assumption | rfl | exact (Go.Deep.blk_alloc_lt _ _ _ (by omega)).trans (by assumption) | exact (hb2.block _ (lt_heap (hHeld.trans hA.out))).trans hHeld | exact (alloc_dr (lt_heap (hHeld.trans hA.out))).trans hHeld | exact (Go.Deep.blk_alloc_lt _ _ _ (lt_heap (hHeld.trans hA.out))).trans hHeld | (rw [heap_setCell_other _ _ _ _ (by dsimp only; omega), heap_setCell_other _ _ _ _ (by dsimp only; omega)]; exact hHeld))); clear hK K; (try simp only [Act.put, List.getElem_toArray, List.getElem_cons_succ, List.getElem_cons_zero, List.setIfInBounds_toArray, List.set_cons_zero, List.set_cons_succ])
        refine wpAnyH_ready (rs := [8, 9]) (by kernel_rfl) (by simp) (AllReadyH.cons rfl (fun K hK => ?_) (AllReadyH.cons rfl (fun K hK => ?_) (AllReadyH.nil)))
        · go_simp; ((go_at_call 85; refine (Hull_any _ _ _).mono ?_; rintro e w' ⟨rfl, hb2⟩); have hz := hb2.size; (try simp at hz); (try replace hn := hn.below hb2); (try have n0 := hn.c0); (try have n1 := hn.c1); (try have n2 := hn.f0); (try have n3 := hn.f1)); go_wp2_with fail; refine hK.out _ _ ?_ (fun hHeld => ?_); (focus (first | assumption | rfl | exact (Go.Deep.blk_alloc_lt _ _ _ (by omega)).trans (by assumption) | exact (hb2.block _ (lt_heap (hHeld.trans hA.out))).trans hHeld | exact (alloc_dr (lt_heap (hHeld.trans hA.out))).trans hHeld | exact (Go.Deep.blk_alloc_lt _ _ _ (lt_heap (hHeld.trans hA.out))).trans hHeld | (rw [heap_setCell_other _ _ _ _ (by dsimp only; omega), heap_setCell_other _ _ _ _ (by dsimp only; omega)]; exact hHeld))); clear hK K; (try simp only [Act.put, List.getElem_toArray, List.getElem_cons_succ, List.getElem_cons_zero, List.setIfInBounds_toArray, List.set_cons_zero, List.set_cons_succ])
          refine wpAnyH_ready (rs := [9]) (by kernel_rfl) (by simp) (AllReadyH.cons rfl (fun K hK => ?_) (AllReadyH.nil))
          go_simp; refine hK.out _ _ ?_ (fun hHeld => ?_); (focus (first | assumption | rfl | exact (Go.Deep.blk_alloc_lt _ _ _ (by omega)).trans (by assumption) | exact (hb2.block _ (lt_heap (hHeld.trans hA.out))).trans hHeld | exact (alloc_dr (lt_heap (hHeld.trans hA.out))).trans hHeld | exact (Go.Deep.blk_alloc_lt _ _ _ (lt_heap (hHeld.trans hA.out))).trans hHeld | (rw [heap_setCell_other _ _ _ _ (by dsimp only; omega), heap_setCell_other _ _ _ _ (by dsimp only; omega)]; exact hHeld))); clear hK K; (try simp only [Act.put, List.getElem_toArray, List.getElem_cons_succ, List.getElem_cons_zero, List.setIfInBounds_toArray, List.set_cons_zero, List.set_cons_succ]); have hn : IvAt (w'.alloc (.cells #[.int .i64 0, .int .i64 0] 23)) w'.heap.size zeroI := heap_alloc_new _ _
          refine wpAnyH_ready (rs := [10]) (by kernel_rfl) (by simp) (AllReadyH.cons rfl (fun K hK => ?_) (AllReadyH.nil))
          go_simp; refine hK.out _ _ ?_ (fun hHeld => ?_); (focus (first | assumption | rfl | exact (Go.Deep.blk_alloc_lt _ _ _ (by omega)).trans (by assumption) | exact (hb2.block _ (lt_heap (hHeld.trans hA.out))).trans hHeld | exact (alloc_dr (lt_heap (hHeld.trans hA.out))).trans hHeld | exact (Go.Deep.blk_alloc_lt _ _ _ (lt_heap (hHeld.trans hA.out))).trans hHeld | (rw [heap_setCell_other _ _ _ _ (by dsimp only; omega), heap_setCell_other _ _ _ _ (by dsimp only; omega)]; exact hHeld))); clear hK K; (try simp only [Act.put, List.getElem_toArray, List.getElem_cons_succ, List.getElem_cons_zero, List.setIfInBounds_toArray, List.set_cons_zero, List.set_cons_succ])
          refine wpAnyH_done (by kernel_rfl) ?_ _
          go_wp2_with fail
          go_meet
          refine ⟨_, rfl, ?_⟩
          (with_reducible first | refine OvIs.set (x := zeroI) ?_ (hulI (sinA a.lo) (sinA a.hi)) | skip)
          refine ⟨?_, ?_, ?_, ?_, by omega, by omega⟩
          · (repeat (with_reducible first | exact B2.out | refine Below.drew ?_ | refine below_alloc2 ?_ | refine below_next (by assumption) ?_))
          · (repeat (with_reducible first | exact hA.out | exact hR.out | exact IvAt.zero rfl | exact IvAt.new _ _ | refine IvAt.drew ?_ | refine IvAt.alloc ?_ _ | refine IvAt.below ?_ (by assumption)))
          · (repeat (with_reducible first | exact hA.out | exact hR.out | exact IvAt.zero rfl | exact IvAt.new _ _ | refine IvAt.drew ?_ | refine IvAt.alloc ?_ _ | refine IvAt.below ?_ (by assumption)))
          · (repeat (with_reducible first | exact hA.out | exact hR.out | exact IvAt.zero rfl | exact IvAt.new _ _ | refine IvAt.drew ?_ | refine IvAt.alloc ?_ _ | refine IvAt.below ?_ (by assumption)))
        · go_simp; refine hK.out _ _ ?_ (fun hHeld => ?_); (focus (first | assumption | rfl | exact (Go.Deep.blk_alloc_lt _ _ _ (by omega)).trans (by assumption) | exact (hb2.block _ (lt_heap (hHeld.trans hA.out))).trans hHeld | exact (alloc_dr (lt_heap (hHeld.trans hA.out))).trans hHeld | exact (Go.Deep.blk_alloc_lt _ _ _ (lt_heap (hHeld.trans hA.out))).trans hHeld | (rw [heap_setCell_other _ _ _ _ (by dsimp only; omega), heap_setCell_other _ _ _ _ (by dsimp only; omega)]; exact hHeld))); clear hK K; (try simp only [Act.put, List.getElem_toArray, List.getElem_cons_succ, List.getElem_cons_zero, List.setIfInBounds_toArray, List.set_cons_zero, List.set_cons_succ]); have hn : IvAt (w'.alloc (.cells #[.int .i64 0, .int .i64 0] 23)) w'.heap.size zeroI := heap_alloc_new _ _
          refine wpAnyH_ready (rs := [8]) (by kernel_rfl) (by simp) (AllReadyH.cons rfl (fun K hK => ?_) (AllReadyH.nil))
          go_simp; ((go_at_call 85; refine (Hull_any _ _ _).mono ?_; rintro e w' ⟨rfl, hb2⟩); have hz := hb2.size; (try simp at hz); (try replace hn := hn.below hb2); (try have n0 := hn.c0); (try have n1 := hn.c1); (try have n2 := hn.f0); (try have n3 := hn.f1)); go_wp2_with fail; refine hK.out _ _ ?_ (fun hHeld => ?_); (focus (first | assumption | rfl | exact (Go.Deep.blk_alloc_lt _ _ _ (by omega)).trans (by assumption) | exact (hb2.block _ (lt_heap (hHeld.trans hA.out))).trans hHeld | exact (alloc_dr (lt_heap (hHeld.trans hA.out))).trans hHeld | exact (Go.Deep.blk_alloc_lt _ _ _ (lt_heap (hHeld.trans hA.out))).trans hHeld | (rw [heap_setCell_other _ _ _ _ (by dsimp only; omega), heap_setCell_other _ _ _ _ (by dsimp only; omega)]; exact hHeld))); clear hK K; (try simp only [Act.put, List.getElem_toArray, List.getElem_cons_succ, List.getElem_cons_zero, List.setIfInBounds_toArray, List.set_cons_zero, List.set_cons_succ])
          refine wpAnyH_ready (rs := [10]) (by kernel_rfl) (by simp) (AllReadyH.cons rfl (fun K hK => ?_) (AllReadyH.nil))
          go_simp; refine hK.out _ _ ?_ (fun hHeld => ?_); (focus (first | assumption | rfl | exact (Go.Deep.blk_alloc_lt _ _ _ (by omega)).trans (by assumption) | exact (hb2.block _ (lt_heap (hHeld.trans hA.out))).trans hHeld | exact (alloc_dr (lt_heap (hHeld.trans hA.out))).trans hHeld | exact (Go.Deep.blk_alloc_lt _ _ _ (lt_heap (hHeld.trans hA.out))).trans hHeld | (rw [heap_setCell_other _ _ _ _ (by dsimp only; omega), heap_setCell_other _ _ _ _ (by dsimp only; omega)]; exact hHeld))); clear hK K; (try simp only [Act.put, List.getElem_toArray, List.getElem_cons_succ, List.getElem_cons_zero, List.setIfInBounds_toArray, List.set_cons_zero, List.set_cons_succ])
          refine wpAnyH_done (by kernel_rfl) ?_ _
          go_wp2_with fail
          go_meet
          refine ⟨_, rfl, ?_⟩
          (with_reducible first | refine OvIs.set (x := zeroI) ?_ (hulI (sinA a.lo) (sinA a.hi)) | skip)
          refine ⟨?_, ?_, ?_, ?_, by omega, by omega⟩
          · (repeat (with_reducible first | exact B2.out | refine Below.drew ?_ | refine below_alloc2 ?_ | refine below_next (by assumption) ?_))
          · (repeat (with_reducible first | exact hA.out | exact hR.out | exact IvAt.zero rfl | exact IvAt.new _ _ | refine IvAt.drew ?_ | refine IvAt.alloc ?_ _ | refine IvAt.below ?_ (by assumption)))
          · (repeat (with_reducible first | exact hA.out | exact hR.out | exact IvAt.zero rfl | exact IvAt.new _ _ | refine IvAt.drew ?_ | refine IvAt.alloc ?_ _ | refine IvAt.below ?_ (by assumption)))
          · (repeat (with_reducible first | exact hA.out | exact hR.out | exact IvAt.zero rfl | exact IvAt.new _ _ | refine IvAt.drew ?_ | refine IvAt.alloc ?_ _ | refine IvAt.below ?_ (by assumption)))
      · go_simp; refine hK.out _ _ ?_ (fun hHeld => ?_); (focus (first | assumption | rfl | exact (Go.Deep.blk_alloc_lt _ _ _ (by omega)).trans (by assumption) | exact (hb2.block _ (lt_heap (hHeld.trans hA.out))).trans hHeld | exact (alloc_dr (lt_heap (hHeld.trans hA.out))).trans hHeld | exact (Go.Deep.blk_alloc_lt _ _ _ (lt_heap (hHeld.trans hA.out))).trans hHeld | (rw [heap_setCell_other _ _ _ _ (by dsimp only; omega), heap_setCell_other _ _ _ _ (by dsimp only; omega)]; exact hHeld))); clear hK K; (try simp only [Act.put, List.getElem_toArray, List.getElem_cons_succ, List.getElem_cons_zero, List.setIfInBounds_toArray, List.set_cons_zero, List.set_cons_succ]); have hn : IvAt (w'.alloc (.cells #[.int .i64 0, .int .i64 0] 23)) w'.heap.size zeroI := heap_alloc_new _ _
        refine wpAnyH_ready (rs := [7]) (by kernel_rfl) (by simp) (AllReadyH.cons rfl (fun K hK => ?_) (AllReadyH.nil))
        go_simp; ((go_at_call 74; refine (Sin_any _ _).mono ?_; rintro e w' ⟨rfl, hb2⟩); have hz := hb2.size; (try simp at hz); (try replace hn := hn.below hb2)); go_wp2_with fail; refine hK.out _ _ ?_ (fun hHeld => ?_); (focus (first | assumption | rfl | exact (Go.Deep.blk_alloc_lt _ _ _ (by omega)).trans (by assumption) | exact (hb2.block _ (lt_heap (hHeld.trans hA.out))).trans hHeld | exact (alloc_dr (lt_heap (hHeld.trans hA.out))).trans hHeld | exact (Go.Deep.blk_alloc_lt _ _ _ (lt_heap (hHeld.trans hA.out))).trans hHeld | (rw [heap_setCell_other _ _ _ _ (by dsimp only; omega), heap_setCell_other _ _ _ _ (by dsimp only; omega)]; exact hHeld))); clear hK K; (try simp only [Act.put, List.getElem_toArray, List.getElem_cons_succ, List.getElem_cons_zero, List.setIfInBounds_toArray, List.set_cons_zero, List.set_cons_succ])
        refine wpAnyH_ready (rs := [8]) (by kernel_rfl) (by simp) (AllReadyH.cons rfl (fun K hK => ?_) (AllReadyH.nil))
        go_simp; ((go_at_call 85; refine (Hull_any _ _ _).mono ?_; rintro e w' ⟨rfl, hb2⟩); have hz := hb2.size; (try simp at hz); (try replace hn := hn.below hb2); (try have n0 := hn.c0); (try have n1 := hn.c1); (try have n2 := hn.f0); (try have n3 := hn.f1)); go_wp2_with fail; refine hK.out _ _ ?_ (fun hHeld => ?_); (focus (first | assumption | rfl | exact (Go.Deep.blk_alloc_lt _ _ _ (by omega)).trans (by assumption) | exact (hb2.block _ (lt_heap (hHeld.trans hA.out))).trans hHeld | exact (alloc_dr (lt_heap (hHeld.trans hA.out))).trans hHeld | exact (Go.Deep.blk_alloc_lt _ _ _ (lt_heap (hHeld.trans hA.out))).trans hHeld | (rw [heap_setCell_other _ _ _ _ (by dsimp only; omega), heap_setCell_other _ _ _ _ (by dsimp only; omega)]; exact hHeld))); clear hK K; (try simp only [Act.put, List.getElem_toArray, List.getElem_cons_succ, List.getElem_cons_zero, List.setIfInBounds_toArray, List.set_cons_zero, List.set_cons_succ])
        refine wpAnyH_ready (rs := [10]) (by kernel_rfl) (by simp) (AllReadyH.cons rfl (fun K hK => ?_) (AllReadyH.nil))
        go_simp; refine hK.out _ _ ?_ (fun hHeld => ?_); (focus (first | assumption | rfl | exact (Go.Deep.blk_alloc_lt _ _ _ (by omega)).trans (by assumption) | exact (hb2.block _ (lt_heap (hHeld.trans hA.out))).trans hHeld | exact (alloc_dr (lt_heap (hHeld.trans hA.out))).trans hHeld | exact (Go.Deep.blk_alloc_lt _ _ _ (lt_heap (hHeld.trans hA.out))).trans hHeld | (rw [heap_setCell_other _ _ _ _ (by dsimp only; omega), heap_setCell_other _ _ _ _ (by dsimp only; omega)]; exact hHeld))); clear hK K; (try simp only [Act.put, List.getElem_toArray, List.getElem_cons_succ, List.getElem_cons_zero, List.setIfInBounds_toArray, List.set_cons_zero, List.set_cons_succ])
        refine wpAnyH_done (by kernel_rfl) ?_ _
        go_wp2_with fail
        go_meet
        refine ⟨_, rfl, ?_⟩
        (with_reducible first | refine OvIs.set (x := zeroI) ?_ (hulI (sinA a.lo) (sinA a.hi)) | skip)
        refine ⟨?_, ?_, ?_, ?_, by omega, by omega⟩
        · (repeat (with_reducible first | exact B2.out | refine Below.drew ?_ | refine below_alloc2 ?_ | refine below_next (by assumption) ?_))
        · (repeat (with_reducible first | exact hA.out | exact hR.out | exact IvAt.zero rfl | exact IvAt.new _ _ | refine IvAt.drew ?_ | refine IvAt.alloc ?_ _ | refine IvAt.below ?_ (by assumption)))
        · (repeat (with_reducible first | exact hA.out | exact hR.out | exact IvAt.zero rfl | exact IvAt.new _ _ | refine IvAt.drew ?_ | refine IvAt.alloc ?_ _ | refine IvAt.below ?_ (by assumption)))
        · (repeat (with_reducible first | exact hA.out | exact hR.out | exact IvAt.zero rfl | exact IvAt.new _ _ | refine IvAt.drew ?_ | refine IvAt.alloc ?_ _ | refine IvAt.below ?_ (by assumption)))
    · go_simp; refine hK.out _ _ ?_ (fun hHeld => ?_); (focus (first | assumption | rfl | exact (Go.Deep.blk_alloc_lt _ _ _ (by omega)).trans (by assumption) | exact (hb2.block _ (lt_heap (hHeld.trans hA.out))).trans hHeld | exact (alloc_dr (lt_heap (hHeld.trans hA.out))).trans hHeld | exact (Go.Deep.blk_alloc_lt _ _ _ (lt_heap (hHeld.trans hA.out))).trans hHeld | (rw [heap_setCell_other _ _ _ _ (by dsimp only; omega), heap_setCell_other _ _ _ _ (by dsimp only; omega)]; exact hHeld))); clear hK K; (try simp only [Act.put, List.getElem_toArray, List.getElem_cons_succ, List.getElem_cons_zero, List.setIfInBounds_toArray, List.set_cons_zero, List.set_cons_succ]); have hn : IvAt (w2.alloc (.cells #[.int .i64 0, .int .i64 0] 23)).drew w2.heap.size zeroI := heap_alloc_new _ _
      refine wpAnyH_ready (rs := [3]) (by kernel_rfl) (by simp) (AllReadyH.cons rfl (fun K hK => ?_) (AllReadyH.nil))
      go_simp; ((go_at_call 74; refine (Sin_any _ _).mono ?_; rintro e w' ⟨rfl, hb2⟩); have hz := hb2.size; (try simp at hz); (try replace hn := hn.below hb2)); go_wp2_with fail; refine hK.out _ _ ?_ (fun hHeld => ?_); (focus (first | assumption | rfl | exact (Go.Deep.blk_alloc_lt _ _ _ (by omega)).trans (by assumption) | exact (hb2.block _ (lt_heap (hHeld.trans hA.out))).trans hHeld | exact (alloc_dr (lt_heap (hHeld.trans hA.out))).trans hHeld | exact (Go.Deep.blk_alloc_lt _ _ _ (lt_heap (hHeld.trans hA.out))).trans hHeld | (rw [heap_setCell_other _ _ _ _ (by dsimp only; omega), heap_setCell_other _ _ _ _ (by dsimp only; omega)]; exact hHeld))); clear hK K; (try simp only [Act.put, List.getElem_toArray, List.getElem_cons_succ, List.getElem_cons_zero, List.setIfInBounds_toArray, List.set_cons_zero, List.set_cons_succ])
      refine wpAnyH_ready (rs := [7]) (by kernel_rfl) (by simp) (AllReadyH.cons rfl (fun K hK => ?_) (AllReadyH.nil))
      go_simp; ((go_at_call 74; refine (Sin_any _ _).mono ?_; rintro e w' ⟨rfl, hb2⟩); have hz := hb2.size; (try simp at hz); (try replace hn := hn.below hb2)); go_wp2_with fail; refine hK.out _ _ ?_ (fun hHeld => ?_); (focus (first | assumption | rfl | exact (Go.Deep.blk_alloc_lt _ _ _ (by omega)).trans (by assumption) | exact (hb2.block _ (lt_heap (hHeld.trans hA.out))).trans hHeld | exact (alloc_dr (lt_heap (hHeld.trans hA.out))).trans hHeld | exact (Go.Deep.blk_alloc_lt _ _ _ (lt_heap (hHeld.trans hA.out))).trans hHeld | (rw [heap_setCell_other _ _ _ _ (by dsimp only; omega), heap_setCell_other _ _ _ _ (by dsimp only; omega)]; exact hHeld))); clear hK K; (try simp only [Act.put, List.getElem_toArray, List.getElem_cons_succ, List.getElem_cons_zero, List.setIfInBounds_toArray, List.set_cons_zero, List.set_cons_succ])
      refine wpAnyH_ready (rs := [8]) (by kernel_rfl) (by simp) (AllReadyH.cons rfl (fun K hK => ?_) (AllReadyH.nil))
      go_simp; ((go_at_call 85; refine (Hull_any _ _ _).mono ?_; rintro e w' ⟨rfl, hb2⟩); have hz := hb2.size; (try simp at hz); (try replace hn := hn.below hb2); (try have n0 := hn.c0); (try have n1 := hn.c1); (try have n2 := hn.f0); (try have n3 := hn.f1)); go_wp2_with fail; refine hK.out _ _ ?_ (fun hHeld => ?_); (focus (first | assumption | rfl | exact (Go.Deep.blk_alloc_lt _ _ _ (by omega)).trans (by assumption) | exact (hb2.block _ (lt_heap (hHeld.trans hA.out))).trans hHeld | exact (alloc_dr (lt_heap (hHeld.trans hA.out))).trans hHeld | exact (Go.Deep.blk_alloc_lt _ _ _ (lt_heap (hHeld.trans hA.out))).trans hHeld | (rw [heap_setCell_other _ _ _ _ (by dsimp only; omega), heap_setCell_other _ _ _ _ (by dsimp only; omega)]; exact hHeld))); clear hK K; (try simp only [Act.put, List.getElem_toArray, List.getElem_cons_succ, List.getElem_cons_zero, List.setIfInBounds_toArray, List.set_cons_zero, List.set_cons_succ])
      refine wpAnyH_ready (rs := [10]) (by kernel_rfl) (by simp) (AllReadyH.cons rfl (fun K hK => ?_) (AllReadyH.nil))
      go_simp; refine hK.out _ _ ?_ (fun hHeld => ?_); (focus (first | assumption | rfl | exact (Go.Deep.blk_alloc_lt _ _ _ (by omega)).trans (by assumption) | exact (hb2.block _ (lt_heap (hHeld.trans hA.out))).trans hHeld | exact (alloc_dr (lt_heap (hHeld.trans hA.out))).trans hHeld | exact (Go.Deep.blk_alloc_lt _ _ _ (lt_heap (hHeld.trans hA.out))).trans hHeld | (rw [heap_setCell_other _ _ _ _ (by dsimp only; omega), heap_setCell_other _ _ _ _ (by dsimp only; omega)]; exact hHeld))); clear hK K; (try simp only [Act.put, List.getElem_toArray, List.getElem_cons_succ, List.getElem_cons_zero, List.setIfInBounds_toArray, List.set_cons_zero, List.set_cons_succ])
      refine wpAnyH_done (by kernel_rfl) ?_ _
      go_wp2_with fail
      go_meet
      refine ⟨_, rfl, ?_⟩
      (with_reducible first | refine OvIs.set (x := zeroI) ?_ (hulI (sinA a.lo) (sinA a.hi)) | skip)
      refine ⟨?_, ?_, ?_, ?_, by omega, by omega⟩
      · (repeat (with_reducible first | exact B2.out | refine Below.drew ?_ | refine below_alloc2 ?_ | refine below_next (by assumption) ?_))
      · (repeat (with_reducible first | exact hA.out | exact hR.out | exact IvAt.zero rfl | exact IvAt.new _ _ | refine IvAt.drew ?_ | refine IvAt.alloc ?_ _ | refine IvAt.below ?_ (by assumption)))
      · (repeat (with_reducible first | exact hA.out | exact hR.out | exact IvAt.zero rfl | exact IvAt.new _ _ | refine IvAt.drew ?_ | refine IvAt.alloc ?_ _ | refine IvAt.below ?_ (by assumption)))
      · (repeat (with_reducible first | exact hA.out | exact hR.out | exact IvAt.zero rfl | exact IvAt.new _ _ | refine IvAt.drew ?_ | refine IvAt.alloc ?_ _ | refine IvAt.below ?_ (by assumption)))
  case rest =>
  obtain ⟨n, rfl, hOV⟩ := hcut
  have OV := Lib.hid hOV
  clear hOV g0 g1 hA hR B2 q0
  by_cases ht : Hits a top
  · have e1 : decide (Hits a top) = true := decide_eq_true ht
    have b0 := OV.out.arg.c0
    have b1 := OV.out.arg.c1
    go_wp2_with fail
    refine (meets_any _ _ _ hv (by omega) (by omega)).mono ?_
    rintro e wm ⟨rfl, hb2⟩
    replace OV := Lib.hid (OV.out.below hb2)
    clear hb2 b0 b1
    have b0 := OV.out.arg.c0
    have b1 := OV.out.arg.c1
    have d0 := OV.out.val.c0
    have d1 := OV.out.val.c1
    have i0 := OV.out.res.c0
    have i1 := OV.out.res.c1
    have i2 := OV.out.res.f0
    have i3 := OV.out.res.f1
    go_wp2_with fail
    clear b0 b1 d0 d1 i0 i1 i2 i3
    go_cut [] (fun wx => OvIs w wx (w.heap.size + 1) n a (hulI (hulI (sinA a.lo) (sinA a.hi)) (ofI (65536))))
    case first =>
      have ov := OV.out.drew
      have d0 := ov.val.c0; have d1 := ov.val.c1; have d2 := ov.val.f0; have d3 := ov.val.f1
      refine wp_region_held_drew (S := (fun _ => True)) (by kernel_rfl) ?_ (fun hHeld => ?_)
      focus (exact True.intro)
      refine wpAnyH_ready (rs := [0, 1]) (by kernel_rfl) (by simp) (AllReadyH.cons rfl (fun K hK => ?_) (AllReadyH.cons rfl (fun K hK => ?_) (AllReadyH.nil)))
      · go_simp; refine hK.out _ _ ?_ (fun hHeld => ?_); (focus (exact True.intro)); clear hK K; (try simp only [Act.put, List.getElem_toArray, List.getElem_cons_succ, List.getElem_cons_zero, List.setIfInBounds_toArray, List.set_cons_zero, List.set_cons_succ])
        refine wpAnyH_ready (rs := [1]) (by kernel_rfl) (by simp) (AllReadyH.cons rfl (fun K hK => ?_) (AllReadyH.nil))
        go_simp; ((go_at_call 54; refine (Of_any _ _).mono ?_; rintro e w' ⟨rfl, hb2⟩); have ov := ov.below hb2; clear hb2; have d0 := ov.val.c0; have d1 := ov.val.c1; have d2 := ov.val.f0; have d3 := ov.val.f1); go_wp2_with fail; refine hK.out _ _ ?_ (fun hHeld => ?_); (focus (exact True.intro)); clear hK K; (try simp only [Act.put, List.getElem_toArray, List.getElem_cons_succ, List.getElem_cons_zero, List.setIfInBounds_toArray, List.set_cons_zero, List.set_cons_succ])
        refine wpAnyH_ready (rs := [2]) (by kernel_rfl) (by simp) (AllReadyH.cons rfl (fun K hK => ?_) (AllReadyH.nil))
        go_simp; ((go_at_call 85; refine (Hull_any _ _ _).mono ?_; rintro e w' ⟨rfl, hb2⟩); have ov := ov.below hb2; clear hb2; have d0 := ov.val.c0; have d1 := ov.val.c1; have d2 := ov.val.f0; have d3 := ov.val.f1); go_wp2_with fail; refine hK.out _ _ ?_ (fun hHeld => ?_); (focus (exact True.intro)); clear hK K; (try simp only [Act.put, List.getElem_toArray, List.getElem_cons_succ, List.getElem_cons_zero, List.setIfInBounds_toArray, List.set_cons_zero, List.set_cons_succ])
        refine wpAnyH_ready (rs := [3]) (by kernel_rfl) (by simp) (AllReadyH.cons rfl (fun K hK => ?_) (AllReadyH.nil))
        go_simp; refine hK.out _ _ ?_ (fun hHeld => ?_); (focus (exact True.intro)); clear hK K; (try simp only [Act.put, List.getElem_toArray, List.getElem_cons_succ, List.getElem_cons_zero, List.setIfInBounds_toArray, List.set_cons_zero, List.set_cons_succ])
        refine wpAnyH_done (by kernel_rfl) ?_ _
        go_wp2_with fail
        go_meet
        exact ov.set _
      · go_simp; ((go_at_call 54; refine (Of_any _ _).mono ?_; rintro e w' ⟨rfl, hb2⟩); have ov := ov.below hb2; clear hb2; have d0 := ov.val.c0; have d1 := ov.val.c1; have d2 := ov.val.f0; have d3 := ov.val.f1); go_wp2_with fail; refine hK.out _ _ ?_ (fun hHeld => ?_); (focus (exact True.intro)); clear hK K; (try simp only [Act.put, List.getElem_toArray, List.getElem_cons_succ, List.getElem_cons_zero, List.setIfInBounds_toArray, List.set_cons_zero, List.set_cons_succ])
        refine wpAnyH_ready (rs := [0]) (by kernel_rfl) (by simp) (AllReadyH.cons rfl (fun K hK => ?_) (AllReadyH.nil))
        go_simp; refine hK.out _ _ ?_ (fun hHeld => ?_); (focus (exact True.intro)); clear hK K; (try simp only [Act.put, List.getElem_toArray, List.getElem_cons_succ, List.getElem_cons_zero, List.setIfInBounds_toArray, List.set_cons_zero, List.set_cons_succ])
        refine wpAnyH_ready (rs := [2]) (by kernel_rfl) (by simp) (AllReadyH.cons rfl (fun K hK => ?_) (AllReadyH.nil))
        go_simp; ((go_at_call 85; refine (Hull_any _ _ _).mono ?_; rintro e w' ⟨rfl, hb2⟩); have ov := ov.below hb2; clear hb2; have d0 := ov.val.c0; have d1 := ov.val.c1; have d2 := ov.val.f0; have d3 := ov.val.f1); go_wp2_with fail; refine hK.out _ _ ?_ (fun hHeld => ?_); (focus (exact True.intro)); clear hK K; (try simp only [Act.put, List.getElem_toArray, List.getElem_cons_succ, List.getElem_cons_zero, List.setIfInBounds_toArray, List.set_cons_zero, List.set_cons_succ])
        refine wpAnyH_ready (rs := [3]) (by kernel_rfl) (by simp) (AllReadyH.cons rfl (fun K hK => ?_) (AllReadyH.nil))
        go_simp; refine hK.out _ _ ?_ (fun hHeld => ?_); (focus (exact True.intro)); clear hK K; (try simp only [Act.put, List.getElem_toArray, List.getElem_cons_succ, List.getElem_cons_zero, List.setIfInBounds_toArray, List.set_cons_zero, List.set_cons_succ])
        refine wpAnyH_done (by kernel_rfl) ?_ _
        go_wp2_with fail
        go_meet
        exact ov.set _
    case rest =>
      have OV := Lib.hid hcut
      clear hcut
      by_cases hbt : Hits a bottom
      · have e2 : decide (Hits a bottom) = true := decide_eq_true hbt
        have b0 := OV.out.arg.c0
        have b1 := OV.out.arg.c1
        go_wp2_with fail
        refine (meets_any _ _ _ hv (by omega) (by omega)).mono ?_
        rintro e wm ⟨rfl, hb2⟩
        replace OV := Lib.hid (OV.out.below hb2)
        clear hb2 b0 b1
        have b0 := OV.out.arg.c0
        have b1 := OV.out.arg.c1
        have d0 := OV.out.val.c0
        have d1 := OV.out.val.c1
        have i0 := OV.out.res.c0
        have i1 := OV.out.res.c1
        have i2 := OV.out.res.f0
        have i3 := OV.out.res.f1
        go_wp2_with fail
        clear b0 b1 d0 d1 i0 i1 i2 i3
        go_cut [] (fun wx => OvIs w wx (w.heap.size + 1) n a (hulI (hulI (hulI (sinA a.lo) (sinA a.hi)) (ofI 65536)) (ofI (-65536))))
        case first =>
          have ov := OV.out.drew
          have d0 := ov.val.c0; have d1 := ov.val.c1; have d2 := ov.val.f0; have d3 := ov.val.f1
          refine wp_region_held_drew (S := (fun _ => True)) (by kernel_rfl) ?_ (fun hHeld => ?_)
          focus (exact True.intro)
          refine wpAnyH_ready (rs := [0, 1]) (by kernel_rfl) (by simp) (AllReadyH.cons rfl (fun K hK => ?_) (AllReadyH.cons rfl (fun K hK => ?_) (AllReadyH.nil)))
          · go_simp; refine hK.out _ _ ?_ (fun hHeld => ?_); (focus (exact True.intro)); clear hK K; (try simp only [Act.put, List.getElem_toArray, List.getElem_cons_succ, List.getElem_cons_zero, List.setIfInBounds_toArray, List.set_cons_zero, List.set_cons_succ])
            refine wpAnyH_ready (rs := [1]) (by kernel_rfl) (by simp) (AllReadyH.cons rfl (fun K hK => ?_) (AllReadyH.nil))
            go_simp; ((go_at_call 54; refine (Of_any _ _).mono ?_; rintro e w' ⟨rfl, hb2⟩); have ov := ov.below hb2; clear hb2; have d0 := ov.val.c0; have d1 := ov.val.c1; have d2 := ov.val.f0; have d3 := ov.val.f1); go_wp2_with fail; refine hK.out _ _ ?_ (fun hHeld => ?_); (focus (exact True.intro)); clear hK K; (try simp only [Act.put, List.getElem_toArray, List.getElem_cons_succ, List.getElem_cons_zero, List.setIfInBounds_toArray, List.set_cons_zero, List.set_cons_succ])
            refine wpAnyH_ready (rs := [2]) (by kernel_rfl) (by simp) (AllReadyH.cons rfl (fun K hK => ?_) (AllReadyH.nil))
            go_simp; ((go_at_call 85; refine (Hull_any _ _ _).mono ?_; rintro e w' ⟨rfl, hb2⟩); have ov := ov.below hb2; clear hb2; have d0 := ov.val.c0; have d1 := ov.val.c1; have d2 := ov.val.f0; have d3 := ov.val.f1); go_wp2_with fail; refine hK.out _ _ ?_ (fun hHeld => ?_); (focus (exact True.intro)); clear hK K; (try simp only [Act.put, List.getElem_toArray, List.getElem_cons_succ, List.getElem_cons_zero, List.setIfInBounds_toArray, List.set_cons_zero, List.set_cons_succ])
            refine wpAnyH_ready (rs := [3]) (by kernel_rfl) (by simp) (AllReadyH.cons rfl (fun K hK => ?_) (AllReadyH.nil))
            go_simp; refine hK.out _ _ ?_ (fun hHeld => ?_); (focus (exact True.intro)); clear hK K; (try simp only [Act.put, List.getElem_toArray, List.getElem_cons_succ, List.getElem_cons_zero, List.setIfInBounds_toArray, List.set_cons_zero, List.set_cons_succ])
            refine wpAnyH_done (by kernel_rfl) ?_ _
            go_wp2_with fail
            go_meet
            exact ov.set _
          · go_simp; ((go_at_call 54; refine (Of_any _ _).mono ?_; rintro e w' ⟨rfl, hb2⟩); have ov := ov.below hb2; clear hb2; have d0 := ov.val.c0; have d1 := ov.val.c1; have d2 := ov.val.f0; have d3 := ov.val.f1); go_wp2_with fail; refine hK.out _ _ ?_ (fun hHeld => ?_); (focus (exact True.intro)); clear hK K; (try simp only [Act.put, List.getElem_toArray, List.getElem_cons_succ, List.getElem_cons_zero, List.setIfInBounds_toArray, List.set_cons_zero, List.set_cons_succ])
            refine wpAnyH_ready (rs := [0]) (by kernel_rfl) (by simp) (AllReadyH.cons rfl (fun K hK => ?_) (AllReadyH.nil))
            go_simp; refine hK.out _ _ ?_ (fun hHeld => ?_); (focus (exact True.intro)); clear hK K; (try simp only [Act.put, List.getElem_toArray, List.getElem_cons_succ, List.getElem_cons_zero, List.setIfInBounds_toArray, List.set_cons_zero, List.set_cons_succ])
            refine wpAnyH_ready (rs := [2]) (by kernel_rfl) (by simp) (AllReadyH.cons rfl (fun K hK => ?_) (AllReadyH.nil))
            go_simp; ((go_at_call 85; refine (Hull_any _ _ _).mono ?_; rintro e w' ⟨rfl, hb2⟩); have ov := ov.below hb2; clear hb2; have d0 := ov.val.c0; have d1 := ov.val.c1; have d2 := ov.val.f0; have d3 := ov.val.f1); go_wp2_with fail; refine hK.out _ _ ?_ (fun hHeld => ?_); (focus (exact True.intro)); clear hK K; (try simp only [Act.put, List.getElem_toArray, List.getElem_cons_succ, List.getElem_cons_zero, List.setIfInBounds_toArray, List.set_cons_zero, List.set_cons_succ])
            refine wpAnyH_ready (rs := [3]) (by kernel_rfl) (by simp) (AllReadyH.cons rfl (fun K hK => ?_) (AllReadyH.nil))
            go_simp; refine hK.out _ _ ?_ (fun hHeld => ?_); (focus (exact True.intro)); clear hK K; (try simp only [Act.put, List.getElem_toArray, List.getElem_cons_succ, List.getElem_cons_zero, List.setIfInBounds_toArray, List.set_cons_zero, List.set_cons_succ])
            refine wpAnyH_done (by kernel_rfl) ?_ _
            go_wp2_with fail
            go_meet
            exact ov.set _
        case rest =>
          have OV := Lib.hid hcut
          clear hcut
          have OE := OV.out
          obtain ⟨b0, b1⟩ := And.intro OE.val.c0 OE.val.c1
          obtain ⟨i0, i1, i2, i3⟩ := And.intro OE.res.c0 (And.intro OE.res.c1 (And.intro OE.res.f0 OE.res.f1))
          have q1 := OE.r1
          have BB := Lib.hid OE.base
          clear OE
          go_wp2_with fail
          (try simp only [Exit.inBlock, Exit.then])
          have hY : y = (hulI (hulI (hulI (sinA a.lo) (sinA a.hi)) (ofI 65536)) (ofI (-65536))) := by rw [← Hy.out]; unfold withBottom withTop; rw [if_pos hbt, if_pos ht]
          refine bodyPost_ret (v := .agg #[.int .i64 ((hulI (hulI (hulI (sinA a.lo) (sinA a.hi)) (ofI 65536)) (ofI (-65536)))).lo, .int .i64 ((hulI (hulI (hulI (sinA a.lo) (sinA a.hi)) (ofI 65536)) (ofI (-65536)))).hi]) ?_ rfl ⟨by rw [hY], Below.setCell (Below.setCell BB.out (by dsimp only; omega) _) (by dsimp only; omega) _⟩
          simp [results, Try.results72, go_sem, i0, i1]
      · have e2 : decide (Hits a bottom) = false := decide_eq_false hbt
        have b0 := OV.out.arg.c0
        have b1 := OV.out.arg.c1
        go_wp2_with fail
        refine (meets_any _ _ _ hv (by omega) (by omega)).mono ?_
        rintro e wm ⟨rfl, hb2⟩
        replace OV := Lib.hid (OV.out.below hb2)
        clear hb2 b0 b1
        have b0 := OV.out.arg.c0
        have b1 := OV.out.arg.c1
        have d0 := OV.out.val.c0
        have d1 := OV.out.val.c1
        have i0 := OV.out.res.c0
        have i1 := OV.out.res.c1
        have i2 := OV.out.res.f0
        have i3 := OV.out.res.f1
        go_wp2_with fail
        clear b0 b1 d0 d1 i0 i1 i2 i3
        have OE := OV.out
        obtain ⟨b0, b1⟩ := And.intro OE.val.c0 OE.val.c1
        obtain ⟨i0, i1, i2, i3⟩ := And.intro OE.res.c0 (And.intro OE.res.c1 (And.intro OE.res.f0 OE.res.f1))
        have q1 := OE.r1
        have BB := Lib.hid OE.base
        clear OE
        go_wp2_with fail
        (try simp only [Exit.inBlock, Exit.then])
        have hY : y = (hulI (hulI (sinA a.lo) (sinA a.hi)) (ofI 65536)) := by rw [← Hy.out]; unfold withBottom withTop; rw [if_neg hbt, if_pos ht]
        refine bodyPost_ret (v := .agg #[.int .i64 ((hulI (hulI (sinA a.lo) (sinA a.hi)) (ofI 65536))).lo, .int .i64 ((hulI (hulI (sinA a.lo) (sinA a.hi)) (ofI 65536))).hi]) ?_ rfl ⟨by rw [hY], Below.setCell (Below.setCell BB.out (by dsimp only; omega) _) (by dsimp only; omega) _⟩
        simp [results, Try.results72, go_sem, i0, i1]
  · have e1 : decide (Hits a top) = false := decide_eq_false ht
    have b0 := OV.out.arg.c0
    have b1 := OV.out.arg.c1
    go_wp2_with fail
    refine (meets_any _ _ _ hv (by omega) (by omega)).mono ?_
    rintro e wm ⟨rfl, hb2⟩
    replace OV := Lib.hid (OV.out.below hb2)
    clear hb2 b0 b1
    have b0 := OV.out.arg.c0
    have b1 := OV.out.arg.c1
    have d0 := OV.out.val.c0
    have d1 := OV.out.val.c1
    have i0 := OV.out.res.c0
    have i1 := OV.out.res.c1
    have i2 := OV.out.res.f0
    have i3 := OV.out.res.f1
    go_wp2_with fail
    clear b0 b1 d0 d1 i0 i1 i2 i3
    by_cases hbt : Hits a bottom
    · have e2 : decide (Hits a bottom) = true := decide_eq_true hbt
      have b0 := OV.out.arg.c0
      have b1 := OV.out.arg.c1
      go_wp2_with fail
      refine (meets_any _ _ _ hv (by omega) (by omega)).mono ?_
      rintro e wm ⟨rfl, hb2⟩
      replace OV := Lib.hid (OV.out.below hb2)
      clear hb2 b0 b1
      have b0 := OV.out.arg.c0
      have b1 := OV.out.arg.c1
      have d0 := OV.out.val.c0
      have d1 := OV.out.val.c1
      have i0 := OV.out.res.c0
      have i1 := OV.out.res.c1
      have i2 := OV.out.res.f0
      have i3 := OV.out.res.f1
      go_wp2_with fail
      clear b0 b1 d0 d1 i0 i1 i2 i3
      go_cut [] (fun wx => OvIs w wx (w.heap.size + 1) n a (hulI (hulI (sinA a.lo) (sinA a.hi)) (ofI (-65536))))
      case first =>
        have ov := OV.out.drew
        have d0 := ov.val.c0; have d1 := ov.val.c1; have d2 := ov.val.f0; have d3 := ov.val.f1
        refine wp_region_held_drew (S := (fun _ => True)) (by kernel_rfl) ?_ (fun hHeld => ?_)
        focus (exact True.intro)
        refine wpAnyH_ready (rs := [0, 1]) (by kernel_rfl) (by simp) (AllReadyH.cons rfl (fun K hK => ?_) (AllReadyH.cons rfl (fun K hK => ?_) (AllReadyH.nil)))
        · go_simp; refine hK.out _ _ ?_ (fun hHeld => ?_); (focus (exact True.intro)); clear hK K; (try simp only [Act.put, List.getElem_toArray, List.getElem_cons_succ, List.getElem_cons_zero, List.setIfInBounds_toArray, List.set_cons_zero, List.set_cons_succ])
          refine wpAnyH_ready (rs := [1]) (by kernel_rfl) (by simp) (AllReadyH.cons rfl (fun K hK => ?_) (AllReadyH.nil))
          go_simp; ((go_at_call 54; refine (Of_any _ _).mono ?_; rintro e w' ⟨rfl, hb2⟩); have ov := ov.below hb2; clear hb2; have d0 := ov.val.c0; have d1 := ov.val.c1; have d2 := ov.val.f0; have d3 := ov.val.f1); go_wp2_with fail; refine hK.out _ _ ?_ (fun hHeld => ?_); (focus (exact True.intro)); clear hK K; (try simp only [Act.put, List.getElem_toArray, List.getElem_cons_succ, List.getElem_cons_zero, List.setIfInBounds_toArray, List.set_cons_zero, List.set_cons_succ])
          refine wpAnyH_ready (rs := [2]) (by kernel_rfl) (by simp) (AllReadyH.cons rfl (fun K hK => ?_) (AllReadyH.nil))
          go_simp; ((go_at_call 85; refine (Hull_any _ _ _).mono ?_; rintro e w' ⟨rfl, hb2⟩); have ov := ov.below hb2; clear hb2; have d0 := ov.val.c0; have d1 := ov.val.c1; have d2 := ov.val.f0; have d3 := ov.val.f1); go_wp2_with fail; refine hK.out _ _ ?_ (fun hHeld => ?_); (focus (exact True.intro)); clear hK K; (try simp only [Act.put, List.getElem_toArray, List.getElem_cons_succ, List.getElem_cons_zero, List.setIfInBounds_toArray, List.set_cons_zero, List.set_cons_succ])
          refine wpAnyH_ready (rs := [3]) (by kernel_rfl) (by simp) (AllReadyH.cons rfl (fun K hK => ?_) (AllReadyH.nil))
          go_simp; refine hK.out _ _ ?_ (fun hHeld => ?_); (focus (exact True.intro)); clear hK K; (try simp only [Act.put, List.getElem_toArray, List.getElem_cons_succ, List.getElem_cons_zero, List.setIfInBounds_toArray, List.set_cons_zero, List.set_cons_succ])
          refine wpAnyH_done (by kernel_rfl) ?_ _
          go_wp2_with fail
          go_meet
          exact ov.set _
        · go_simp; ((go_at_call 54; refine (Of_any _ _).mono ?_; rintro e w' ⟨rfl, hb2⟩); have ov := ov.below hb2; clear hb2; have d0 := ov.val.c0; have d1 := ov.val.c1; have d2 := ov.val.f0; have d3 := ov.val.f1); go_wp2_with fail; refine hK.out _ _ ?_ (fun hHeld => ?_); (focus (exact True.intro)); clear hK K; (try simp only [Act.put, List.getElem_toArray, List.getElem_cons_succ, List.getElem_cons_zero, List.setIfInBounds_toArray, List.set_cons_zero, List.set_cons_succ])
          refine wpAnyH_ready (rs := [0]) (by kernel_rfl) (by simp) (AllReadyH.cons rfl (fun K hK => ?_) (AllReadyH.nil))
          go_simp; refine hK.out _ _ ?_ (fun hHeld => ?_); (focus (exact True.intro)); clear hK K; (try simp only [Act.put, List.getElem_toArray, List.getElem_cons_succ, List.getElem_cons_zero, List.setIfInBounds_toArray, List.set_cons_zero, List.set_cons_succ])
          refine wpAnyH_ready (rs := [2]) (by kernel_rfl) (by simp) (AllReadyH.cons rfl (fun K hK => ?_) (AllReadyH.nil))
          go_simp; ((go_at_call 85; refine (Hull_any _ _ _).mono ?_; rintro e w' ⟨rfl, hb2⟩); have ov := ov.below hb2; clear hb2; have d0 := ov.val.c0; have d1 := ov.val.c1; have d2 := ov.val.f0; have d3 := ov.val.f1); go_wp2_with fail; refine hK.out _ _ ?_ (fun hHeld => ?_); (focus (exact True.intro)); clear hK K; (try simp only [Act.put, List.getElem_toArray, List.getElem_cons_succ, List.getElem_cons_zero, List.setIfInBounds_toArray, List.set_cons_zero, List.set_cons_succ])
          refine wpAnyH_ready (rs := [3]) (by kernel_rfl) (by simp) (AllReadyH.cons rfl (fun K hK => ?_) (AllReadyH.nil))
          go_simp; refine hK.out _ _ ?_ (fun hHeld => ?_); (focus (exact True.intro)); clear hK K; (try simp only [Act.put, List.getElem_toArray, List.getElem_cons_succ, List.getElem_cons_zero, List.setIfInBounds_toArray, List.set_cons_zero, List.set_cons_succ])
          refine wpAnyH_done (by kernel_rfl) ?_ _
          go_wp2_with fail
          go_meet
          exact ov.set _
      case rest =>
        have OV := Lib.hid hcut
        clear hcut
        have OE := OV.out
        obtain ⟨b0, b1⟩ := And.intro OE.val.c0 OE.val.c1
        obtain ⟨i0, i1, i2, i3⟩ := And.intro OE.res.c0 (And.intro OE.res.c1 (And.intro OE.res.f0 OE.res.f1))
        have q1 := OE.r1
        have BB := Lib.hid OE.base
        clear OE
        go_wp2_with fail
        (try simp only [Exit.inBlock, Exit.then])
        have hY : y = (hulI (hulI (sinA a.lo) (sinA a.hi)) (ofI (-65536))) := by rw [← Hy.out]; unfold withBottom withTop; rw [if_pos hbt, if_neg ht]
        refine bodyPost_ret (v := .agg #[.int .i64 ((hulI (hulI (sinA a.lo) (sinA a.hi)) (ofI (-65536)))).lo, .int .i64 ((hulI (hulI (sinA a.lo) (sinA a.hi)) (ofI (-65536)))).hi]) ?_ rfl ⟨by rw [hY], Below.setCell (Below.setCell BB.out (by dsimp only; omega) _) (by dsimp only; omega) _⟩
        simp [results, Try.results72, go_sem, i0, i1]
    · have e2 : decide (Hits a bottom) = false := decide_eq_false hbt
      have b0 := OV.out.arg.c0
      have b1 := OV.out.arg.c1
      go_wp2_with fail
      refine (meets_any _ _ _ hv (by omega) (by omega)).mono ?_
      rintro e wm ⟨rfl, hb2⟩
      replace OV := Lib.hid (OV.out.below hb2)
      clear hb2 b0 b1
      have b0 := OV.out.arg.c0
      have b1 := OV.out.arg.c1
      have d0 := OV.out.val.c0
      have d1 := OV.out.val.c1
      have i0 := OV.out.res.c0
      have i1 := OV.out.res.c1
      have i2 := OV.out.res.f0
      have i3 := OV.out.res.f1
      go_wp2_with fail
      clear b0 b1 d0 d1 i0 i1 i2 i3
      have OE := OV.out
      obtain ⟨b0, b1⟩ := And.intro OE.val.c0 OE.val.c1
      obtain ⟨i0, i1, i2, i3⟩ := And.intro OE.res.c0 (And.intro OE.res.c1 (And.intro OE.res.f0 OE.res.f1))
      have q1 := OE.r1
      have BB := Lib.hid OE.base
      clear OE
      go_wp2_with fail
      (try simp only [Exit.inBlock, Exit.then])
      have hY : y = (hulI (sinA a.lo) (sinA a.hi)) := by rw [← Hy.out]; unfold withBottom withTop; rw [if_neg hbt, if_neg ht]
      refine bodyPost_ret (v := .agg #[.int .i64 ((hulI (sinA a.lo) (sinA a.hi))).lo, .int .i64 ((hulI (sinA a.lo) (sinA a.hi))).hi]) ?_ rfl ⟨by rw [hY], Below.setCell (Below.setCell BB.out (by dsimp only; omega) _) (by dsimp only; omega) _⟩
      simp [results, Try.results72, go_sem, i0, i1]
theorem overSin_any (a : Iv) (top bottom : Int) (w : World) (t0 : 0 ≤ top) (t1 : top ≤ 65536) (u0 : 0 ≤ bottom) (u1 : bottom ≤ 65536) :
    Calls Try.prog 72 #[ .agg #[.int .i64 a.lo, .int .i64 a.hi], .func (.func 74) #[] #[], .int .i64 top, .int .i64 bottom ] w fun e w' => e = .returned (.agg #[.int .i64 (overI a (sinA a.lo) (sinA a.hi) top bottom).lo, .int .i64 (overI a (sinA a.lo) (sinA a.hi) top bottom).hi]) ∧ Below w.heap.size w w' := by
  by_cases hv : Valid a
  · by_cases hw : 65536 ≤ a.hi - a.lo
    · exact overSin_wide a top bottom w hv hw
    · exact overSin_in a _ top bottom w (over_in hv hw).symm hv hw t0 t1 u0 u1
  · exact overSin_not a top bottom w hv
set_option linter.unusedSimpArgs false in
set_option linter.unusedVariables false in
set_option maxRecDepth 100000 in
set_option maxHeartbeats 12800000 in
theorem SinOver_any (a : Iv) (w : World) :
    Calls Try.prog 57 #[ .agg #[.int .i64 a.lo, .int .i64 a.hi] ] w fun e w' => e = .returned (.agg #[.int .i64 (sinO a).lo, .int .i64 (sinO a).hi]) ∧ Below w.heap.size w w' := by
  show Calls _ _ _ _ fun e w' => e = .returned (.agg #[.int .i64 (overI a (sinA a.lo) (sinA a.hi) 16384 49152).lo, .int .i64 (overI a (sinA a.lo) (sinA a.hi) 16384 49152).hi]) ∧ Below w.heap.size w w'
  go_enter Try.func57, Try.ntmps57
  go_wp2_with (first | (go_at_call 72; refine (overSin_any a 16384 49152 _ (by decide) (by decide) (by decide) (by decide)).mono ?_; rintro e w' ⟨rfl, hb2⟩; first | ((first | replace hb := below_next hb2 hb | replace hb := below_next hb2 (below_drewN hb) | replace hb := below_next hb2 (below_alloc hb _) | replace hb := below_next hb2 (below_drewN (below_alloc hb _)) | replace hb := below_next hb2 (below_alloc (below_drewN hb) _) | replace hb := below_next hb2 (below_alloc (below_alloc hb _) _)); clear hb2 hc hf; obtain ⟨hc, hf⟩ := bcell hb) | (have hb := hb2; clear hb2; obtain ⟨hc, hf⟩ := bcell hb)))
  exact bodyPost_ret (v := .agg #[.int .i64 (overI a (sinA a.lo) (sinA a.hi) 16384 49152).lo, .int .i64 (overI a (sinA a.lo) (sinA a.hi) 16384 49152).hi]) (by first | (simp [results, Try.results57, go_sem, hc]; done) | (simp [results, Try.results57, go_sem]; done)) rfl ⟨rfl, by (repeat (first | exact Below.refl _ _ | (refine below_up ?_ hb; clear hb hc hf) | refine Below.setCell ?_ (by (try simp) <;> omega) _ | refine Below.alloc ?_ (by (try simp) <;> omega) _ | refine below_drewN ?_ | refine Below.drew ?_))⟩
end Go.Proofs.Ytdplgiccpjlelaa
