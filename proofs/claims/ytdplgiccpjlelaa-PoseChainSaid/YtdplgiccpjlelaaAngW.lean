/- Proved: the reference's sine and cosine over an interval of angles. Conditions: as each theorem states. -/
import Derived.Test.YtdplgiccpjlelaaIvK
import Derived.Test.YtdplgiccpjlelaaAngO
import Derived.Test.YtdplgiccpjlelaaAngZ
import Derived.Test.YtdplgiccpjlelaaIvH
import Derived.Deep.RegionHeld3
import Derived.Deep.DeepCutAuto
namespace Go.Proofs.Ytdplgiccpjlelaa
open Go.RowKit

set_option linter.unusedSimpArgs false in
set_option linter.unusedVariables false in
set_option maxRecDepth 100000 in
set_option maxHeartbeats 12800000 in
theorem rover_not (a l h : Iv) (top bottom : Int) (w : World) (hv : ¬Valid a) :
    Calls Try.prog 75 #[ .agg #[.int .i64 a.lo, .int .i64 a.hi], .agg #[.int .i64 l.lo, .int .i64 l.hi], .agg #[.int .i64 h.lo, .int .i64 h.hi], .int .i64 top, .int .i64 bottom ] w fun e w' => e = .returned (.agg #[.int .i64 (overI a l h top bottom).lo, .int .i64 (overI a l h top bottom).hi]) ∧ Below w.heap.size w w' := by
  have e0 := validB_false hv
  rw [over_not hv]
  go_enter Try.func75, Try.ntmps75
  go_wp2_with (first | (go_at_call 51; refine (rValid_any _ _).mono ?_; rintro e w' ⟨rfl, hb2⟩; first | ((first | replace hb := below_next hb2 hb | replace hb := below_next hb2 (below_drewN hb) | replace hb := below_next hb2 (below_alloc hb _) | replace hb := below_next hb2 (below_drewN (below_alloc hb _)) | replace hb := below_next hb2 (below_alloc (below_drewN hb) _) | replace hb := below_next hb2 (below_alloc (below_alloc hb _) _)); clear hb2 hc hf; obtain ⟨hc, hf⟩ := bcell hb) | (have hb := hb2; clear hb2; obtain ⟨hc, hf⟩ := bcell hb)))
  exact bodyPost_ret (v := .agg #[.int .i64 0, .int .i64 0]) (by first | (simp [results, Try.results75, go_sem, hc]; done) | (simp [results, Try.results75, go_sem]; done)) rfl ⟨rfl, by (repeat (first | exact Below.refl _ _ | (refine below_up ?_ hb; clear hb hc hf) | refine Below.setCell ?_ (by (try simp) <;> omega) _ | refine Below.alloc ?_ (by (try simp) <;> omega) _ | refine below_drewN ?_ | refine Below.drew ?_))⟩
set_option linter.unusedSimpArgs false in
set_option linter.unusedVariables false in
set_option maxRecDepth 100000 in
set_option maxHeartbeats 12800000 in
theorem rover_wide (a l h : Iv) (top bottom : Int) (w : World) (hv : Valid a) (hw : 65536 ≤ a.hi - a.lo) :
    Calls Try.prog 75 #[ .agg #[.int .i64 a.lo, .int .i64 a.hi], .agg #[.int .i64 l.lo, .int .i64 l.hi], .agg #[.int .i64 h.lo, .int .i64 h.hi], .int .i64 top, .int .i64 bottom ] w fun e w' => e = .returned (.agg #[.int .i64 (overI a l h top bottom).lo, .int .i64 (overI a l h top bottom).hi]) ∧ Below w.heap.size w w' := by
  have e0 := validB_true hv
  rw [over_wide hv hw]
  obtain ⟨v0, v1, v2⟩ := hv
  go_enter Try.func75, Try.ntmps75
  go_wp2_with (first | (go_at_call 51; refine (rValid_any _ _).mono ?_; rintro e w' ⟨rfl, hb2⟩; first | ((first | replace hb := below_next hb2 hb | replace hb := below_next hb2 (below_drewN hb) | replace hb := below_next hb2 (below_alloc hb _) | replace hb := below_next hb2 (below_drewN (below_alloc hb _)) | replace hb := below_next hb2 (below_alloc (below_drewN hb) _) | replace hb := below_next hb2 (below_alloc (below_alloc hb _) _)); clear hb2 hc hf; obtain ⟨hc, hf⟩ := bcell hb) | (have hb := hb2; clear hb2; obtain ⟨hc, hf⟩ := bcell hb)))
  exact bodyPost_ret (v := .agg #[.int .i64 (-65536), .int .i64 65536]) (by first | (simp [results, Try.results75, go_sem, hc]; done) | (simp [results, Try.results75, go_sem]; done)) rfl ⟨rfl, by (repeat (first | exact Below.refl _ _ | (refine below_up ?_ hb; clear hb hc hf) | refine Below.setCell ?_ (by (try simp) <;> omega) _ | refine Below.alloc ?_ (by (try simp) <;> omega) _ | refine below_drewN ?_ | refine Below.drew ?_))⟩
set_option linter.unusedSimpArgs false in
set_option linter.unusedVariables false in
set_option maxRecDepth 100000 in
set_option maxHeartbeats 12800000 in
theorem rover_in (a l h y : Iv) (top bottom : Int) (w : World) (hy : withBottom a (withTop a (hulI l h) top) bottom = y) (hv : Valid a) (hw : ¬65536 ≤ a.hi - a.lo) (t0 : 0 ≤ top) (t1 : top ≤ 65536) (u0 : 0 ≤ bottom) (u1 : bottom ≤ 65536) :
    Calls Try.prog 75 #[ .agg #[.int .i64 a.lo, .int .i64 a.hi], .agg #[.int .i64 l.lo, .int .i64 l.hi], .agg #[.int .i64 h.lo, .int .i64 h.hi], .int .i64 top, .int .i64 bottom ] w fun e w' => e = .returned (.agg #[.int .i64 y.lo, .int .i64 y.hi]) ∧ Below w.heap.size w w' := by
  have e0 := validB_true hv
  have Hy := Lib.hid hy
  clear hy
  obtain ⟨v0, v1, v2⟩ := id hv
  have A0 := Lib.hid (show IvAt ((((w.alloc (.cells #[.int .i64 a.lo, .int .i64 a.hi] 23)).alloc (.cells #[.int .i64 l.lo, .int .i64 l.hi] 23)).alloc (.cells #[.int .i64 h.lo, .int .i64 h.hi] 23)).alloc (.cells #[.int .i64 0, .int .i64 0] 23)) w.heap.size a from (((IvAt.new w a).alloc _).alloc _).alloc _)
  have L0 := Lib.hid (show IvAt ((((w.alloc (.cells #[.int .i64 a.lo, .int .i64 a.hi] 23)).alloc (.cells #[.int .i64 l.lo, .int .i64 l.hi] 23)).alloc (.cells #[.int .i64 h.lo, .int .i64 h.hi] 23)).alloc (.cells #[.int .i64 0, .int .i64 0] 23)) (w.heap.size + 1) l from by have := IvAt.new (w.alloc (.cells #[.int .i64 a.lo, .int .i64 a.hi] 23)) l; simp at this; exact (this.alloc _).alloc _)
  have H0 := Lib.hid (show IvAt ((((w.alloc (.cells #[.int .i64 a.lo, .int .i64 a.hi] 23)).alloc (.cells #[.int .i64 l.lo, .int .i64 l.hi] 23)).alloc (.cells #[.int .i64 h.lo, .int .i64 h.hi] 23)).alloc (.cells #[.int .i64 0, .int .i64 0] 23)) (w.heap.size + 1 + 1) h from by have := IvAt.new ((w.alloc (.cells #[.int .i64 a.lo, .int .i64 a.hi] 23)).alloc (.cells #[.int .i64 l.lo, .int .i64 l.hi] 23)) h; simp at this; exact this.alloc _)
  have R0 := Lib.hid (show IvAt ((((w.alloc (.cells #[.int .i64 a.lo, .int .i64 a.hi] 23)).alloc (.cells #[.int .i64 l.lo, .int .i64 l.hi] 23)).alloc (.cells #[.int .i64 h.lo, .int .i64 h.hi] 23)).alloc (.cells #[.int .i64 0, .int .i64 0] 23)) (w.heap.size + 1 + 1 + 1) zeroI from IvAt.zero (by simp))
  have B0 := Lib.hid (show Below w.heap.size w ((((w.alloc (.cells #[.int .i64 a.lo, .int .i64 a.hi] 23)).alloc (.cells #[.int .i64 l.lo, .int .i64 l.hi] 23)).alloc (.cells #[.int .i64 h.lo, .int .i64 h.hi] 23)).alloc (.cells #[.int .i64 0, .int .i64 0] 23)) from below_alloc (below_alloc (below_alloc (below_alloc (Below.refl _ _) _) _) _) _)
  go_enter Try.func75, Try.ntmps75
  go_wp2_with fail
  refine (rValid_any _ _).mono ?_
  rintro e w1 ⟨rfl, hb1⟩
  have A1 := Lib.hid (A0.out.below hb1)
  have L1 := Lib.hid (L0.out.below hb1)
  have H1 := Lib.hid (H0.out.below hb1)
  have R1 := Lib.hid (R0.out.below hb1)
  have B1 := Lib.hid (below_next hb1 B0.out)
  have a0 := A1.out.c0
  have a1 := A1.out.c1
  have l0 := L1.out.c0
  have l1 := L1.out.c1
  have h0 := H1.out.c0
  have h1 := H1.out.c1
  clear hb1 A0 L0 H0 R0 B0
  go_wp2_with fail
  refine (rHull_any _ _ _).mono ?_
  rintro e w2 ⟨rfl, hb2⟩
  have hOV : OvIs w (w2.alloc (.cells #[.int .i64 (hulI l h).lo, .int .i64 (hulI l h).hi] 23)) (w.heap.size + 1 + 1 + 1) w2.heap.size a (hulI l h) :=
    ⟨below_alloc (below_next hb2 B1.out) _, (A1.out.below hb2).alloc _, (R1.out.below hb2).alloc _, IvAt.new _ _, by omega, (R1.out.below hb2).lt⟩
  have OV0 := Lib.hid hOV
  have b0 := hOV.arg.c0
  have b1 := hOV.arg.c1
  clear hOV hb2 A1 L1 H1 R1 B1 a0 a1 l0 l1 h0 h1
  go_wp2_with fail
  obtain ⟨wc, hwc⟩ : ∃ wc : World, wc = w2.alloc (.cells #[.int .i64 (hulI l h).lo, .int .i64 (hulI l h).hi] 23) := ⟨_, rfl⟩
  obtain ⟨n, hn⟩ : ∃ n : Nat, n = w2.heap.size := ⟨_, rfl⟩
  rw [← hwc, ← hn] at OV0 ⊢
  clear hwc hn b0 b1
  have OV := OV0
  clear OV0
  by_cases ht : Hits a top
  · have e1 : decide (Hits a top) = true := decide_eq_true ht
    have b0 := OV.out.arg.c0
    have b1 := OV.out.arg.c1
    go_wp2_with fail
    refine (rmeets_any _ _ _ hv (by omega) (by omega)).mono ?_
    rintro e wm ⟨rfl, hb2⟩
    replace OV := Lib.hid (OV.out.below hb2)
    clear hb2 b0 b1
    have b0 := OV.out.arg.c0
    have b1 := OV.out.arg.c1
    have d0 := OV.out.val.c0
    have d1 := OV.out.val.c1
    have i0 := OV.out.res.c0
    have i1 := OV.out.res.c1
    have i2 := OV.out.res.f0
    have i3 := OV.out.res.f1
    go_wp2_with fail
    clear b0 b1 d0 d1 i0 i1 i2 i3
    go_cut [] (fun wx => OvIs w wx (w.heap.size + 1 + 1 + 1) n a (hulI (hulI l h) (ofI (65536))))
    case first =>
      have ov := OV.out.drew
      have d0 := ov.val.c0; have d1 := ov.val.c1; have d2 := ov.val.f0; have d3 := ov.val.f1
      refine wp_region_held_drew (S := (fun _ => True)) (by kernel_rfl) ?_ (fun hHeld => ?_)
      focus (exact True.intro)
      refine wpAnyH_ready (rs := [0, 1]) (by kernel_rfl) (by simp) (AllReadyH.cons rfl (fun K hK => ?_) (AllReadyH.cons rfl (fun K hK => ?_) (AllReadyH.nil)))
      · go_simp; refine hK.out _ _ ?_ (fun hHeld => ?_); (focus (exact True.intro)); clear hK K; (try simp only [Act.put, List.getElem_toArray, List.getElem_cons_succ, List.getElem_cons_zero, List.setIfInBounds_toArray, List.set_cons_zero, List.set_cons_succ])
        refine wpAnyH_ready (rs := [1]) (by kernel_rfl) (by simp) (AllReadyH.cons rfl (fun K hK => ?_) (AllReadyH.nil))
        go_simp; ((go_at_call 33; refine (rOf_any _ _).mono ?_; rintro e w' ⟨rfl, hb2⟩); have ov := ov.below hb2; clear hb2; have d0 := ov.val.c0; have d1 := ov.val.c1; have d2 := ov.val.f0; have d3 := ov.val.f1); go_wp2_with fail; refine hK.out _ _ ?_ (fun hHeld => ?_); (focus (exact True.intro)); clear hK K; (try simp only [Act.put, List.getElem_toArray, List.getElem_cons_succ, List.getElem_cons_zero, List.setIfInBounds_toArray, List.set_cons_zero, List.set_cons_succ])
        refine wpAnyH_ready (rs := [2]) (by kernel_rfl) (by simp) (AllReadyH.cons rfl (fun K hK => ?_) (AllReadyH.nil))
        go_simp; ((go_at_call 89; refine (rHull_any _ _ _).mono ?_; rintro e w' ⟨rfl, hb2⟩); have ov := ov.below hb2; clear hb2; have d0 := ov.val.c0; have d1 := ov.val.c1; have d2 := ov.val.f0; have d3 := ov.val.f1); go_wp2_with fail; refine hK.out _ _ ?_ (fun hHeld => ?_); (focus (exact True.intro)); clear hK K; (try simp only [Act.put, List.getElem_toArray, List.getElem_cons_succ, List.getElem_cons_zero, List.setIfInBounds_toArray, List.set_cons_zero, List.set_cons_succ])
        refine wpAnyH_ready (rs := [3]) (by kernel_rfl) (by simp) (AllReadyH.cons rfl (fun K hK => ?_) (AllReadyH.nil))
        go_simp; refine hK.out _ _ ?_ (fun hHeld => ?_); (focus (exact True.intro)); clear hK K; (try simp only [Act.put, List.getElem_toArray, List.getElem_cons_succ, List.getElem_cons_zero, List.setIfInBounds_toArray, List.set_cons_zero, List.set_cons_succ])
        refine wpAnyH_done (by kernel_rfl) ?_ _
        go_wp2_with fail
        go_meet
        exact ov.set _
      · go_simp; ((go_at_call 33; refine (rOf_any _ _).mono ?_; rintro e w' ⟨rfl, hb2⟩); have ov := ov.below hb2; clear hb2; have d0 := ov.val.c0; have d1 := ov.val.c1; have d2 := ov.val.f0; have d3 := ov.val.f1); go_wp2_with fail; refine hK.out _ _ ?_ (fun hHeld => ?_); (focus (exact True.intro)); clear hK K; (try simp only [Act.put, List.getElem_toArray, List.getElem_cons_succ, List.getElem_cons_zero, List.setIfInBounds_toArray, List.set_cons_zero, List.set_cons_succ])
        refine wpAnyH_ready (rs := [0]) (by kernel_rfl) (by simp) (AllReadyH.cons rfl (fun K hK => ?_) (AllReadyH.nil))
        go_simp; refine hK.out _ _ ?_ (fun hHeld => ?_); (focus (exact True.intro)); clear hK K; (try simp only [Act.put, List.getElem_toArray, List.getElem_cons_succ, List.getElem_cons_zero, List.setIfInBounds_toArray, List.set_cons_zero, List.set_cons_succ])
        refine wpAnyH_ready (rs := [2]) (by kernel_rfl) (by simp) (AllReadyH.cons rfl (fun K hK => ?_) (AllReadyH.nil))
        go_simp; ((go_at_call 89; refine (rHull_any _ _ _).mono ?_; rintro e w' ⟨rfl, hb2⟩); have ov := ov.below hb2; clear hb2; have d0 := ov.val.c0; have d1 := ov.val.c1; have d2 := ov.val.f0; have d3 := ov.val.f1); go_wp2_with fail; refine hK.out _ _ ?_ (fun hHeld => ?_); (focus (exact True.intro)); clear hK K; (try simp only [Act.put, List.getElem_toArray, List.getElem_cons_succ, List.getElem_cons_zero, List.setIfInBounds_toArray, List.set_cons_zero, List.set_cons_succ])
        refine wpAnyH_ready (rs := [3]) (by kernel_rfl) (by simp) (AllReadyH.cons rfl (fun K hK => ?_) (AllReadyH.nil))
        go_simp; refine hK.out _ _ ?_ (fun hHeld => ?_); (focus (exact True.intro)); clear hK K; (try simp only [Act.put, List.getElem_toArray, List.getElem_cons_succ, List.getElem_cons_zero, List.setIfInBounds_toArray, List.set_cons_zero, List.set_cons_succ])
        refine wpAnyH_done (by kernel_rfl) ?_ _
        go_wp2_with fail
        go_meet
        exact ov.set _
    case rest =>
      have OV := Lib.hid hcut
      clear hcut
      by_cases hbt : Hits a bottom
      · have e2 : decide (Hits a bottom) = true := decide_eq_true hbt
        have b0 := OV.out.arg.c0
        have b1 := OV.out.arg.c1
        go_wp2_with fail
        refine (rmeets_any _ _ _ hv (by omega) (by omega)).mono ?_
        rintro e wm ⟨rfl, hb2⟩
        replace OV := Lib.hid (OV.out.below hb2)
        clear hb2 b0 b1
        have b0 := OV.out.arg.c0
        have b1 := OV.out.arg.c1
        have d0 := OV.out.val.c0
        have d1 := OV.out.val.c1
        have i0 := OV.out.res.c0
        have i1 := OV.out.res.c1
        have i2 := OV.out.res.f0
        have i3 := OV.out.res.f1
        go_wp2_with fail
        clear b0 b1 d0 d1 i0 i1 i2 i3
        go_cut [] (fun wx => OvIs w wx (w.heap.size + 1 + 1 + 1) n a (hulI (hulI (hulI l h) (ofI 65536)) (ofI (-65536))))
        case first =>
          have ov := OV.out.drew
          have d0 := ov.val.c0; have d1 := ov.val.c1; have d2 := ov.val.f0; have d3 := ov.val.f1
          refine wp_region_held_drew (S := (fun _ => True)) (by kernel_rfl) ?_ (fun hHeld => ?_)
          focus (exact True.intro)
          refine wpAnyH_ready (rs := [0, 1]) (by kernel_rfl) (by simp) (AllReadyH.cons rfl (fun K hK => ?_) (AllReadyH.cons rfl (fun K hK => ?_) (AllReadyH.nil)))
          · go_simp; refine hK.out _ _ ?_ (fun hHeld => ?_); (focus (exact True.intro)); clear hK K; (try simp only [Act.put, List.getElem_toArray, List.getElem_cons_succ, List.getElem_cons_zero, List.setIfInBounds_toArray, List.set_cons_zero, List.set_cons_succ])
            refine wpAnyH_ready (rs := [1]) (by kernel_rfl) (by simp) (AllReadyH.cons rfl (fun K hK => ?_) (AllReadyH.nil))
            go_simp; ((go_at_call 33; refine (rOf_any _ _).mono ?_; rintro e w' ⟨rfl, hb2⟩); have ov := ov.below hb2; clear hb2; have d0 := ov.val.c0; have d1 := ov.val.c1; have d2 := ov.val.f0; have d3 := ov.val.f1); go_wp2_with fail; refine hK.out _ _ ?_ (fun hHeld => ?_); (focus (exact True.intro)); clear hK K; (try simp only [Act.put, List.getElem_toArray, List.getElem_cons_succ, List.getElem_cons_zero, List.setIfInBounds_toArray, List.set_cons_zero, List.set_cons_succ])
            refine wpAnyH_ready (rs := [2]) (by kernel_rfl) (by simp) (AllReadyH.cons rfl (fun K hK => ?_) (AllReadyH.nil))
            go_simp; ((go_at_call 89; refine (rHull_any _ _ _).mono ?_; rintro e w' ⟨rfl, hb2⟩); have ov := ov.below hb2; clear hb2; have d0 := ov.val.c0; have d1 := ov.val.c1; have d2 := ov.val.f0; have d3 := ov.val.f1); go_wp2_with fail; refine hK.out _ _ ?_ (fun hHeld => ?_); (focus (exact True.intro)); clear hK K; (try simp only [Act.put, List.getElem_toArray, List.getElem_cons_succ, List.getElem_cons_zero, List.setIfInBounds_toArray, List.set_cons_zero, List.set_cons_succ])
            refine wpAnyH_ready (rs := [3]) (by kernel_rfl) (by simp) (AllReadyH.cons rfl (fun K hK => ?_) (AllReadyH.nil))
            go_simp; refine hK.out _ _ ?_ (fun hHeld => ?_); (focus (exact True.intro)); clear hK K; (try simp only [Act.put, List.getElem_toArray, List.getElem_cons_succ, List.getElem_cons_zero, List.setIfInBounds_toArray, List.set_cons_zero, List.set_cons_succ])
            refine wpAnyH_done (by kernel_rfl) ?_ _
            go_wp2_with fail
            go_meet
            exact ov.set _
          · go_simp; ((go_at_call 33; refine (rOf_any _ _).mono ?_; rintro e w' ⟨rfl, hb2⟩); have ov := ov.below hb2; clear hb2; have d0 := ov.val.c0; have d1 := ov.val.c1; have d2 := ov.val.f0; have d3 := ov.val.f1); go_wp2_with fail; refine hK.out _ _ ?_ (fun hHeld => ?_); (focus (exact True.intro)); clear hK K; (try simp only [Act.put, List.getElem_toArray, List.getElem_cons_succ, List.getElem_cons_zero, List.setIfInBounds_toArray, List.set_cons_zero, List.set_cons_succ])
            refine wpAnyH_ready (rs := [0]) (by kernel_rfl) (by simp) (AllReadyH.cons rfl (fun K hK => ?_) (AllReadyH.nil))
            go_simp; refine hK.out _ _ ?_ (fun hHeld => ?_); (focus (exact True.intro)); clear hK K; (try simp only [Act.put, List.getElem_toArray, List.getElem_cons_succ, List.getElem_cons_zero, List.setIfInBounds_toArray, List.set_cons_zero, List.set_cons_succ])
            refine wpAnyH_ready (rs := [2]) (by kernel_rfl) (by simp) (AllReadyH.cons rfl (fun K hK => ?_) (AllReadyH.nil))
            go_simp; ((go_at_call 89; refine (rHull_any _ _ _).mono ?_; rintro e w' ⟨rfl, hb2⟩); have ov := ov.below hb2; clear hb2; have d0 := ov.val.c0; have d1 := ov.val.c1; have d2 := ov.val.f0; have d3 := ov.val.f1); go_wp2_with fail; refine hK.out _ _ ?_ (fun hHeld => ?_); (focus (exact True.intro)); clear hK K; (try simp only [Act.put, List.getElem_toArray, List.getElem_cons_succ, List.getElem_cons_zero, List.setIfInBounds_toArray, List.set_cons_zero, List.set_cons_succ])
            refine wpAnyH_ready (rs := [3]) (by kernel_rfl) (by simp) (AllReadyH.cons rfl (fun K hK => ?_) (AllReadyH.nil))
            go_simp; refine hK.out _ _ ?_ (fun hHeld => ?_); (focus (exact True.intro)); clear hK K; (try simp only [Act.put, List.getElem_toArray, List.getElem_cons_succ, List.getElem_cons_zero, List.setIfInBounds_toArray, List.set_cons_zero, List.set_cons_succ])
            refine wpAnyH_done (by kernel_rfl) ?_ _
            go_wp2_with fail
            go_meet
            exact ov.set _
        case rest =>
          have OV := Lib.hid hcut
          clear hcut
          have OE := OV.out
          obtain ⟨b0, b1⟩ := And.intro OE.val.c0 OE.val.c1
          obtain ⟨i0, i1, i2, i3⟩ := And.intro OE.res.c0 (And.intro OE.res.c1 (And.intro OE.res.f0 OE.res.f1))
          have q1 := OE.r1
          have BB := Lib.hid OE.base
          clear OE
          go_wp2_with fail
          (try simp only [Exit.inBlock, Exit.then])
          have hY : y = (hulI (hulI (hulI l h) (ofI 65536)) (ofI (-65536))) := by rw [← Hy.out]; unfold withBottom withTop; rw [if_pos hbt, if_pos ht]
          refine bodyPost_ret (v := .agg #[.int .i64 ((hulI (hulI (hulI l h) (ofI 65536)) (ofI (-65536)))).lo, .int .i64 ((hulI (hulI (hulI l h) (ofI 65536)) (ofI (-65536)))).hi]) ?_ rfl ⟨by rw [hY], Below.setCell (Below.setCell BB.out (by dsimp only; omega) _) (by dsimp only; omega) _⟩
          simp [results, Try.results75, go_sem, i0, i1]
      · have e2 : decide (Hits a bottom) = false := decide_eq_false hbt
        have b0 := OV.out.arg.c0
        have b1 := OV.out.arg.c1
        go_wp2_with fail
        refine (rmeets_any _ _ _ hv (by omega) (by omega)).mono ?_
        rintro e wm ⟨rfl, hb2⟩
        replace OV := Lib.hid (OV.out.below hb2)
        clear hb2 b0 b1
        have b0 := OV.out.arg.c0
        have b1 := OV.out.arg.c1
        have d0 := OV.out.val.c0
        have d1 := OV.out.val.c1
        have i0 := OV.out.res.c0
        have i1 := OV.out.res.c1
        have i2 := OV.out.res.f0
        have i3 := OV.out.res.f1
        go_wp2_with fail
        clear b0 b1 d0 d1 i0 i1 i2 i3
        have OE := OV.out
        obtain ⟨b0, b1⟩ := And.intro OE.val.c0 OE.val.c1
        obtain ⟨i0, i1, i2, i3⟩ := And.intro OE.res.c0 (And.intro OE.res.c1 (And.intro OE.res.f0 OE.res.f1))
        have q1 := OE.r1
        have BB := Lib.hid OE.base
        clear OE
        go_wp2_with fail
        (try simp only [Exit.inBlock, Exit.then])
        have hY : y = (hulI (hulI l h) (ofI 65536)) := by rw [← Hy.out]; unfold withBottom withTop; rw [if_neg hbt, if_pos ht]
        refine bodyPost_ret (v := .agg #[.int .i64 ((hulI (hulI l h) (ofI 65536))).lo, .int .i64 ((hulI (hulI l h) (ofI 65536))).hi]) ?_ rfl ⟨by rw [hY], Below.setCell (Below.setCell BB.out (by dsimp only; omega) _) (by dsimp only; omega) _⟩
        simp [results, Try.results75, go_sem, i0, i1]
  · have e1 : decide (Hits a top) = false := decide_eq_false ht
    have b0 := OV.out.arg.c0
    have b1 := OV.out.arg.c1
    go_wp2_with fail
    refine (rmeets_any _ _ _ hv (by omega) (by omega)).mono ?_
    rintro e wm ⟨rfl, hb2⟩
    replace OV := Lib.hid (OV.out.below hb2)
    clear hb2 b0 b1
    have b0 := OV.out.arg.c0
    have b1 := OV.out.arg.c1
    have d0 := OV.out.val.c0
    have d1 := OV.out.val.c1
    have i0 := OV.out.res.c0
    have i1 := OV.out.res.c1
    have i2 := OV.out.res.f0
    have i3 := OV.out.res.f1
    go_wp2_with fail
    clear b0 b1 d0 d1 i0 i1 i2 i3
    by_cases hbt : Hits a bottom
    · have e2 : decide (Hits a bottom) = true := decide_eq_true hbt
      have b0 := OV.out.arg.c0
      have b1 := OV.out.arg.c1
      go_wp2_with fail
      refine (rmeets_any _ _ _ hv (by omega) (by omega)).mono ?_
      rintro e wm ⟨rfl, hb2⟩
      replace OV := Lib.hid (OV.out.below hb2)
      clear hb2 b0 b1
      have b0 := OV.out.arg.c0
      have b1 := OV.out.arg.c1
      have d0 := OV.out.val.c0
      have d1 := OV.out.val.c1
      have i0 := OV.out.res.c0
      have i1 := OV.out.res.c1
      have i2 := OV.out.res.f0
      have i3 := OV.out.res.f1
      go_wp2_with fail
      clear b0 b1 d0 d1 i0 i1 i2 i3
      go_cut [] (fun wx => OvIs w wx (w.heap.size + 1 + 1 + 1) n a (hulI (hulI l h) (ofI (-65536))))
      case first =>
        have ov := OV.out.drew
        have d0 := ov.val.c0; have d1 := ov.val.c1; have d2 := ov.val.f0; have d3 := ov.val.f1
        refine wp_region_held_drew (S := (fun _ => True)) (by kernel_rfl) ?_ (fun hHeld => ?_)
        focus (exact True.intro)
        refine wpAnyH_ready (rs := [0, 1]) (by kernel_rfl) (by simp) (AllReadyH.cons rfl (fun K hK => ?_) (AllReadyH.cons rfl (fun K hK => ?_) (AllReadyH.nil)))
        · go_simp; refine hK.out _ _ ?_ (fun hHeld => ?_); (focus (exact True.intro)); clear hK K; (try simp only [Act.put, List.getElem_toArray, List.getElem_cons_succ, List.getElem_cons_zero, List.setIfInBounds_toArray, List.set_cons_zero, List.set_cons_succ])
          refine wpAnyH_ready (rs := [1]) (by kernel_rfl) (by simp) (AllReadyH.cons rfl (fun K hK => ?_) (AllReadyH.nil))
          go_simp; ((go_at_call 33; refine (rOf_any _ _).mono ?_; rintro e w' ⟨rfl, hb2⟩); have ov := ov.below hb2; clear hb2; have d0 := ov.val.c0; have d1 := ov.val.c1; have d2 := ov.val.f0; have d3 := ov.val.f1); go_wp2_with fail; refine hK.out _ _ ?_ (fun hHeld => ?_); (focus (exact True.intro)); clear hK K; (try simp only [Act.put, List.getElem_toArray, List.getElem_cons_succ, List.getElem_cons_zero, List.setIfInBounds_toArray, List.set_cons_zero, List.set_cons_succ])
          refine wpAnyH_ready (rs := [2]) (by kernel_rfl) (by simp) (AllReadyH.cons rfl (fun K hK => ?_) (AllReadyH.nil))
          go_simp; ((go_at_call 89; refine (rHull_any _ _ _).mono ?_; rintro e w' ⟨rfl, hb2⟩); have ov := ov.below hb2; clear hb2; have d0 := ov.val.c0; have d1 := ov.val.c1; have d2 := ov.val.f0; have d3 := ov.val.f1); go_wp2_with fail; refine hK.out _ _ ?_ (fun hHeld => ?_); (focus (exact True.intro)); clear hK K; (try simp only [Act.put, List.getElem_toArray, List.getElem_cons_succ, List.getElem_cons_zero, List.setIfInBounds_toArray, List.set_cons_zero, List.set_cons_succ])
          refine wpAnyH_ready (rs := [3]) (by kernel_rfl) (by simp) (AllReadyH.cons rfl (fun K hK => ?_) (AllReadyH.nil))
          go_simp; refine hK.out _ _ ?_ (fun hHeld => ?_); (focus (exact True.intro)); clear hK K; (try simp only [Act.put, List.getElem_toArray, List.getElem_cons_succ, List.getElem_cons_zero, List.setIfInBounds_toArray, List.set_cons_zero, List.set_cons_succ])
          refine wpAnyH_done (by kernel_rfl) ?_ _
          go_wp2_with fail
          go_meet
          exact ov.set _
        · go_simp; ((go_at_call 33; refine (rOf_any _ _).mono ?_; rintro e w' ⟨rfl, hb2⟩); have ov := ov.below hb2; clear hb2; have d0 := ov.val.c0; have d1 := ov.val.c1; have d2 := ov.val.f0; have d3 := ov.val.f1); go_wp2_with fail; refine hK.out _ _ ?_ (fun hHeld => ?_); (focus (exact True.intro)); clear hK K; (try simp only [Act.put, List.getElem_toArray, List.getElem_cons_succ, List.getElem_cons_zero, List.setIfInBounds_toArray, List.set_cons_zero, List.set_cons_succ])
          refine wpAnyH_ready (rs := [0]) (by kernel_rfl) (by simp) (AllReadyH.cons rfl (fun K hK => ?_) (AllReadyH.nil))
          go_simp; refine hK.out _ _ ?_ (fun hHeld => ?_); (focus (exact True.intro)); clear hK K; (try simp only [Act.put, List.getElem_toArray, List.getElem_cons_succ, List.getElem_cons_zero, List.setIfInBounds_toArray, List.set_cons_zero, List.set_cons_succ])
          refine wpAnyH_ready (rs := [2]) (by kernel_rfl) (by simp) (AllReadyH.cons rfl (fun K hK => ?_) (AllReadyH.nil))
          go_simp; ((go_at_call 89; refine (rHull_any _ _ _).mono ?_; rintro e w' ⟨rfl, hb2⟩); have ov := ov.below hb2; clear hb2; have d0 := ov.val.c0; have d1 := ov.val.c1; have d2 := ov.val.f0; have d3 := ov.val.f1); go_wp2_with fail; refine hK.out _ _ ?_ (fun hHeld => ?_); (focus (exact True.intro)); clear hK K; (try simp only [Act.put, List.getElem_toArray, List.getElem_cons_succ, List.getElem_cons_zero, List.setIfInBounds_toArray, List.set_cons_zero, List.set_cons_succ])
          refine wpAnyH_ready (rs := [3]) (by kernel_rfl) (by simp) (AllReadyH.cons rfl (fun K hK => ?_) (AllReadyH.nil))
          go_simp; refine hK.out _ _ ?_ (fun hHeld => ?_); (focus (exact True.intro)); clear hK K; (try simp only [Act.put, List.getElem_toArray, List.getElem_cons_succ, List.getElem_cons_zero, List.setIfInBounds_toArray, List.set_cons_zero, List.set_cons_succ])
          refine wpAnyH_done (by kernel_rfl) ?_ _
          go_wp2_with fail
          go_meet
          exact ov.set _
      case rest =>
        have OV := Lib.hid hcut
        clear hcut
        have OE := OV.out
        obtain ⟨b0, b1⟩ := And.intro OE.val.c0 OE.val.c1
        obtain ⟨i0, i1, i2, i3⟩ := And.intro OE.res.c0 (And.intro OE.res.c1 (And.intro OE.res.f0 OE.res.f1))
        have q1 := OE.r1
        have BB := Lib.hid OE.base
        clear OE
        go_wp2_with fail
        (try simp only [Exit.inBlock, Exit.then])
        have hY : y = (hulI (hulI l h) (ofI (-65536))) := by rw [← Hy.out]; unfold withBottom withTop; rw [if_pos hbt, if_neg ht]
        refine bodyPost_ret (v := .agg #[.int .i64 ((hulI (hulI l h) (ofI (-65536)))).lo, .int .i64 ((hulI (hulI l h) (ofI (-65536)))).hi]) ?_ rfl ⟨by rw [hY], Below.setCell (Below.setCell BB.out (by dsimp only; omega) _) (by dsimp only; omega) _⟩
        simp [results, Try.results75, go_sem, i0, i1]
    · have e2 : decide (Hits a bottom) = false := decide_eq_false hbt
      have b0 := OV.out.arg.c0
      have b1 := OV.out.arg.c1
      go_wp2_with fail
      refine (rmeets_any _ _ _ hv (by omega) (by omega)).mono ?_
      rintro e wm ⟨rfl, hb2⟩
      replace OV := Lib.hid (OV.out.below hb2)
      clear hb2 b0 b1
      have b0 := OV.out.arg.c0
      have b1 := OV.out.arg.c1
      have d0 := OV.out.val.c0
      have d1 := OV.out.val.c1
      have i0 := OV.out.res.c0
      have i1 := OV.out.res.c1
      have i2 := OV.out.res.f0
      have i3 := OV.out.res.f1
      go_wp2_with fail
      clear b0 b1 d0 d1 i0 i1 i2 i3
      have OE := OV.out
      obtain ⟨b0, b1⟩ := And.intro OE.val.c0 OE.val.c1
      obtain ⟨i0, i1, i2, i3⟩ := And.intro OE.res.c0 (And.intro OE.res.c1 (And.intro OE.res.f0 OE.res.f1))
      have q1 := OE.r1
      have BB := Lib.hid OE.base
      clear OE
      go_wp2_with fail
      (try simp only [Exit.inBlock, Exit.then])
      have hY : y = (hulI l h) := by rw [← Hy.out]; unfold withBottom withTop; rw [if_neg hbt, if_neg ht]
      refine bodyPost_ret (v := .agg #[.int .i64 ((hulI l h)).lo, .int .i64 ((hulI l h)).hi]) ?_ rfl ⟨by rw [hY], Below.setCell (Below.setCell BB.out (by dsimp only; omega) _) (by dsimp only; omega) _⟩
      simp [results, Try.results75, go_sem, i0, i1]
theorem rover_any (a l h : Iv) (top bottom : Int) (w : World) (t0 : 0 ≤ top) (t1 : top ≤ 65536) (u0 : 0 ≤ bottom) (u1 : bottom ≤ 65536) :
    Calls Try.prog 75 #[ .agg #[.int .i64 a.lo, .int .i64 a.hi], .agg #[.int .i64 l.lo, .int .i64 l.hi], .agg #[.int .i64 h.lo, .int .i64 h.hi], .int .i64 top, .int .i64 bottom ] w fun e w' => e = .returned (.agg #[.int .i64 (overI a l h top bottom).lo, .int .i64 (overI a l h top bottom).hi]) ∧ Below w.heap.size w w' := by
  by_cases hv : Valid a
  · by_cases hw : 65536 ≤ a.hi - a.lo
    · exact rover_wide a l h top bottom w hv hw
    · exact rover_in a l h _ top bottom w (over_in hv hw).symm hv hw t0 t1 u0 u1
  · exact rover_not a l h top bottom w hv
set_option linter.unusedSimpArgs false in
set_option linter.unusedVariables false in
set_option maxRecDepth 100000 in
set_option maxHeartbeats 12800000 in
theorem rSinOver_any (a : Iv) (w : World) :
    Calls Try.prog 60 #[ .agg #[.int .i64 a.lo, .int .i64 a.hi] ] w fun e w' => e = .returned (.agg #[.int .i64 (sinO a).lo, .int .i64 (sinO a).hi]) ∧ Below w.heap.size w w' := by
  show Calls _ _ _ _ fun e w' => e = .returned (.agg #[.int .i64 (overI a (sinA a.lo) (sinA a.hi) 16384 49152).lo, .int .i64 (overI a (sinA a.lo) (sinA a.hi) 16384 49152).hi]) ∧ Below w.heap.size w w'
  have A0 := Lib.hid (show IvAt ((w.alloc (.cells #[.int .i64 a.lo, .int .i64 a.hi] 23)).alloc (.cells #[.int .i64 0, .int .i64 0] 23)) w.heap.size a from (IvAt.new w a).alloc _)
  have R0 := Lib.hid (show IvAt ((w.alloc (.cells #[.int .i64 a.lo, .int .i64 a.hi] 23)).alloc (.cells #[.int .i64 0, .int .i64 0] 23)) (w.heap.size + 1) zeroI from IvAt.zero (by simp))
  have B0 := Lib.hid (show Below w.heap.size w ((w.alloc (.cells #[.int .i64 a.lo, .int .i64 a.hi] 23)).alloc (.cells #[.int .i64 0, .int .i64 0] 23)) from below_alloc (below_alloc (Below.refl _ _) _) _)
  go_enter Try.func60, Try.ntmps60
  go_wp2_with fail
  obtain ⟨V, hV⟩ : ∃ V : World, V = (w.alloc (.cells #[.int .i64 a.lo, .int .i64 a.hi] 23)).alloc (.cells #[.int .i64 0, .int .i64 0] 23) := ⟨_, rfl⟩
  rw [← hV] at A0 R0 B0 ⊢
  clear hV
  have hA := A0
  have hR := R0.out.drew
  have hb := B0.out.drew
  have i0 := hR.c0
  have i1 := hR.c1
  have i2 := hR.f0
  have i3 := hR.f1
  have g0 : ∀ w3 : World, w3.heap[w.heap.size]? = V.heap[w.heap.size]? → w3.cell? ⟨w.heap.size, 0, none⟩ = some (.int .i64 a.lo) := fun w3 h => IvAt.c0 (x := a) (h.trans hA.out)
  have g1 : ∀ w3 : World, w3.heap[w.heap.size]? = V.heap[w.heap.size]? → w3.cell? ⟨w.heap.size, 1, none⟩ = some (.int .i64 a.hi) := fun w3 h => IvAt.c1 (x := a) (h.trans hA.out)
  refine wp_region_held_drew (S := (fun w3 => w3.heap[w.heap.size]? = V.heap[w.heap.size]?)) (by kernel_rfl) ?_ (fun hHeld => ?_)
  focus (first | assumption | rfl | exact (hb2.block _ (lt_heap (hHeld.trans hA.out))).trans hHeld | (rw [heap_setCell_other _ _ _ _ (by dsimp only; omega), heap_setCell_other _ _ _ _ (by dsimp only; omega)]; exact hHeld))
  refine wpAnyH_take (i := 0) (v := ?_) rfl (by kernel_rfl) (by kernel_rfl) (by kernel_rfl) (fun _ _ _ h => h) (Or.inl ⟨by rfl, ?_⟩) (by assumption) ?_; rotate_left; (focus (intro w hSw; (try dsimp only at hSw); go_simp; try with_reducible rfl)); (try simp only [Act.put, List.getElem_toArray, List.getElem_cons_succ, List.getElem_cons_zero, List.setIfInBounds_toArray, List.set_cons_zero, List.set_cons_succ])
  refine wpAnyH_take (i := 1) (v := ?_) rfl (by kernel_rfl) (by kernel_rfl) (by kernel_rfl) (fun _ _ _ h => h) (Or.inl ⟨by rfl, ?_⟩) (by assumption) ?_; rotate_left; (focus (intro w hSw; (try dsimp only at hSw); go_simp; try with_reducible rfl)); (try simp only [Act.put, List.getElem_toArray, List.getElem_cons_succ, List.getElem_cons_zero, List.setIfInBounds_toArray, List.set_cons_zero, List.set_cons_succ])
  refine wpAnyH_take (i := 2) (v := ?_) rfl (by kernel_rfl) (by kernel_rfl) (by kernel_rfl) (fun _ _ _ h => h) (Or.inl ⟨by rfl, ?_⟩) (by assumption) ?_; rotate_left; (focus (intro w hSw; (try dsimp only at hSw); go_simp; try with_reducible rfl)); (try simp only [Act.put, List.getElem_toArray, List.getElem_cons_succ, List.getElem_cons_zero, List.setIfInBounds_toArray, List.set_cons_zero, List.set_cons_succ])
  refine wpAnyH_take (i := 4) (v := ?_) rfl (by kernel_rfl) (by kernel_rfl) (by kernel_rfl) (fun _ _ _ h => h) (Or.inl ⟨by rfl, ?_⟩) (by assumption) ?_; rotate_left; (focus (intro w hSw; (try dsimp only at hSw); go_simp; try with_reducible rfl)); (try simp only [Act.put, List.getElem_toArray, List.getElem_cons_succ, List.getElem_cons_zero, List.setIfInBounds_toArray, List.set_cons_zero, List.set_cons_succ])
  refine wpAnyH_take (i := 5) (v := ?_) rfl (by kernel_rfl) (by kernel_rfl) (by kernel_rfl) (fun _ _ _ h => h) (Or.inl ⟨by rfl, ?_⟩) (by assumption) ?_; rotate_left; (focus (intro w hSw; (try dsimp only at hSw); go_simp; try with_reducible rfl)); (try simp only [Act.put, List.getElem_toArray, List.getElem_cons_succ, List.getElem_cons_zero, List.setIfInBounds_toArray, List.set_cons_zero, List.set_cons_succ])
  refine wpAnyH_ready (rs := [3]) (by kernel_rfl) (by simp) (AllReadyH.cons rfl (fun K hK => ?_) AllReadyH.nil); go_simp; ((go_at_call 77; refine (rSin_any _ _).mono ?_; rintro e w' ⟨rfl, hb2⟩); replace hR := hR.below hb2; replace hb := below_next hb2 hb; have i0 := hR.c0; have i1 := hR.c1; have i2 := hR.f0; have i3 := hR.f1); go_wp2_with fail; refine hK.out _ _ ?_ (fun hHeld => ?_); (focus (first | assumption | rfl | exact (hb2.block _ (lt_heap (hHeld.trans hA.out))).trans hHeld | (rw [heap_setCell_other _ _ _ _ (by dsimp only; omega), heap_setCell_other _ _ _ _ (by dsimp only; omega)]; exact hHeld))); clear hK K; (try simp only [Act.put, List.getElem_toArray, List.getElem_cons_succ, List.getElem_cons_zero, List.setIfInBounds_toArray, List.set_cons_zero, List.set_cons_succ])
  refine wpAnyH_ready (rs := [6]) (by kernel_rfl) (by simp) (AllReadyH.cons rfl (fun K hK => ?_) AllReadyH.nil); go_simp; ((go_at_call 77; refine (rSin_any _ _).mono ?_; rintro e w' ⟨rfl, hb2⟩); replace hR := hR.below hb2; replace hb := below_next hb2 hb; have i0 := hR.c0; have i1 := hR.c1; have i2 := hR.f0; have i3 := hR.f1); go_wp2_with fail; refine hK.out _ _ ?_ (fun hHeld => ?_); (focus (first | assumption | rfl | exact (hb2.block _ (lt_heap (hHeld.trans hA.out))).trans hHeld | (rw [heap_setCell_other _ _ _ _ (by dsimp only; omega), heap_setCell_other _ _ _ _ (by dsimp only; omega)]; exact hHeld))); clear hK K; (try simp only [Act.put, List.getElem_toArray, List.getElem_cons_succ, List.getElem_cons_zero, List.setIfInBounds_toArray, List.set_cons_zero, List.set_cons_succ])
  refine wpAnyH_ready (rs := [7]) (by kernel_rfl) (by simp) (AllReadyH.cons rfl (fun K hK => ?_) AllReadyH.nil); go_simp; ((go_at_call 75; refine (rover_any _ _ _ _ _ _ (by decide) (by decide) (by decide) (by decide)).mono ?_; rintro e w' ⟨rfl, hb2⟩); replace hR := hR.below hb2; replace hb := below_next hb2 hb; have i0 := hR.c0; have i1 := hR.c1; have i2 := hR.f0; have i3 := hR.f1); go_wp2_with fail; refine hK.out _ _ ?_ (fun hHeld => ?_); (focus (first | assumption | rfl | exact (hb2.block _ (lt_heap (hHeld.trans hA.out))).trans hHeld | (rw [heap_setCell_other _ _ _ _ (by dsimp only; omega), heap_setCell_other _ _ _ _ (by dsimp only; omega)]; exact hHeld))); clear hK K; (try simp only [Act.put, List.getElem_toArray, List.getElem_cons_succ, List.getElem_cons_zero, List.setIfInBounds_toArray, List.set_cons_zero, List.set_cons_succ])
  refine wpAnyH_ready (rs := [8]) (by kernel_rfl) (by simp) (AllReadyH.cons rfl (fun K hK => ?_) AllReadyH.nil); go_simp; refine hK.out _ _ ?_ (fun hHeld => ?_); (focus (first | assumption | rfl | exact (hb2.block _ (lt_heap (hHeld.trans hA.out))).trans hHeld | (rw [heap_setCell_other _ _ _ _ (by dsimp only; omega), heap_setCell_other _ _ _ _ (by dsimp only; omega)]; exact hHeld))); clear hK K; (try simp only [Act.put, List.getElem_toArray, List.getElem_cons_succ, List.getElem_cons_zero, List.setIfInBounds_toArray, List.set_cons_zero, List.set_cons_succ])
  refine wpAnyH_done (by kernel_rfl) ?_ _
  go_wp2_with fail
  (try simp only [Exit.inBlock, Exit.then])
  refine bodyPost_ret (v := .agg #[.int .i64 (overI a (sinA a.lo) (sinA a.hi) 16384 49152).lo, .int .i64 (overI a (sinA a.lo) (sinA a.hi) 16384 49152).hi]) ?_ rfl ⟨rfl, Below.setCell (Below.setCell hb (by dsimp only; omega) _) (by dsimp only; omega) _⟩
  simp [results, Try.results60, go_sem, i0, i1]
set_option linter.unusedSimpArgs false in
set_option linter.unusedVariables false in
set_option maxRecDepth 100000 in
set_option maxHeartbeats 12800000 in
theorem rCosOver_any (a : Iv) (w : World) :
    Calls Try.prog 59 #[ .agg #[.int .i64 a.lo, .int .i64 a.hi] ] w fun e w' => e = .returned (.agg #[.int .i64 (cosO a).lo, .int .i64 (cosO a).hi]) ∧ Below w.heap.size w w' := by
  show Calls _ _ _ _ fun e w' => e = .returned (.agg #[.int .i64 (overI a (cosA a.lo) (cosA a.hi) 0 32768).lo, .int .i64 (overI a (cosA a.lo) (cosA a.hi) 0 32768).hi]) ∧ Below w.heap.size w w'
  have A0 := Lib.hid (show IvAt ((w.alloc (.cells #[.int .i64 a.lo, .int .i64 a.hi] 23)).alloc (.cells #[.int .i64 0, .int .i64 0] 23)) w.heap.size a from (IvAt.new w a).alloc _)
  have R0 := Lib.hid (show IvAt ((w.alloc (.cells #[.int .i64 a.lo, .int .i64 a.hi] 23)).alloc (.cells #[.int .i64 0, .int .i64 0] 23)) (w.heap.size + 1) zeroI from IvAt.zero (by simp))
  have B0 := Lib.hid (show Below w.heap.size w ((w.alloc (.cells #[.int .i64 a.lo, .int .i64 a.hi] 23)).alloc (.cells #[.int .i64 0, .int .i64 0] 23)) from below_alloc (below_alloc (Below.refl _ _) _) _)
  go_enter Try.func59, Try.ntmps59
  go_wp2_with fail
  obtain ⟨V, hV⟩ : ∃ V : World, V = (w.alloc (.cells #[.int .i64 a.lo, .int .i64 a.hi] 23)).alloc (.cells #[.int .i64 0, .int .i64 0] 23) := ⟨_, rfl⟩
  rw [← hV] at A0 R0 B0 ⊢
  clear hV
  have hA := A0
  have hR := R0.out.drew
  have hb := B0.out.drew
  have i0 := hR.c0
  have i1 := hR.c1
  have i2 := hR.f0
  have i3 := hR.f1
  have g0 : ∀ w3 : World, w3.heap[w.heap.size]? = V.heap[w.heap.size]? → w3.cell? ⟨w.heap.size, 0, none⟩ = some (.int .i64 a.lo) := fun w3 h => IvAt.c0 (x := a) (h.trans hA.out)
  have g1 : ∀ w3 : World, w3.heap[w.heap.size]? = V.heap[w.heap.size]? → w3.cell? ⟨w.heap.size, 1, none⟩ = some (.int .i64 a.hi) := fun w3 h => IvAt.c1 (x := a) (h.trans hA.out)
  refine wp_region_held_drew (S := (fun w3 => w3.heap[w.heap.size]? = V.heap[w.heap.size]?)) (by kernel_rfl) ?_ (fun hHeld => ?_)
  focus (first | assumption | rfl | exact (hb2.block _ (lt_heap (hHeld.trans hA.out))).trans hHeld | (rw [heap_setCell_other _ _ _ _ (by dsimp only; omega), heap_setCell_other _ _ _ _ (by dsimp only; omega)]; exact hHeld))
  refine wpAnyH_take (i := 0) (v := ?_) rfl (by kernel_rfl) (by kernel_rfl) (by kernel_rfl) (fun _ _ _ h => h) (Or.inl ⟨by rfl, ?_⟩) (by assumption) ?_; rotate_left; (focus (intro w hSw; (try dsimp only at hSw); go_simp; try with_reducible rfl)); (try simp only [Act.put, List.getElem_toArray, List.getElem_cons_succ, List.getElem_cons_zero, List.setIfInBounds_toArray, List.set_cons_zero, List.set_cons_succ])
  refine wpAnyH_take (i := 1) (v := ?_) rfl (by kernel_rfl) (by kernel_rfl) (by kernel_rfl) (fun _ _ _ h => h) (Or.inl ⟨by rfl, ?_⟩) (by assumption) ?_; rotate_left; (focus (intro w hSw; (try dsimp only at hSw); go_simp; try with_reducible rfl)); (try simp only [Act.put, List.getElem_toArray, List.getElem_cons_succ, List.getElem_cons_zero, List.setIfInBounds_toArray, List.set_cons_zero, List.set_cons_succ])
  refine wpAnyH_take (i := 2) (v := ?_) rfl (by kernel_rfl) (by kernel_rfl) (by kernel_rfl) (fun _ _ _ h => h) (Or.inl ⟨by rfl, ?_⟩) (by assumption) ?_; rotate_left; (focus (intro w hSw; (try dsimp only at hSw); go_simp; try with_reducible rfl)); (try simp only [Act.put, List.getElem_toArray, List.getElem_cons_succ, List.getElem_cons_zero, List.setIfInBounds_toArray, List.set_cons_zero, List.set_cons_succ])
  refine wpAnyH_take (i := 4) (v := ?_) rfl (by kernel_rfl) (by kernel_rfl) (by kernel_rfl) (fun _ _ _ h => h) (Or.inl ⟨by rfl, ?_⟩) (by assumption) ?_; rotate_left; (focus (intro w hSw; (try dsimp only at hSw); go_simp; try with_reducible rfl)); (try simp only [Act.put, List.getElem_toArray, List.getElem_cons_succ, List.getElem_cons_zero, List.setIfInBounds_toArray, List.set_cons_zero, List.set_cons_succ])
  refine wpAnyH_take (i := 5) (v := ?_) rfl (by kernel_rfl) (by kernel_rfl) (by kernel_rfl) (fun _ _ _ h => h) (Or.inl ⟨by rfl, ?_⟩) (by assumption) ?_; rotate_left; (focus (intro w hSw; (try dsimp only at hSw); go_simp; try with_reducible rfl)); (try simp only [Act.put, List.getElem_toArray, List.getElem_cons_succ, List.getElem_cons_zero, List.setIfInBounds_toArray, List.set_cons_zero, List.set_cons_succ])
  refine wpAnyH_ready (rs := [3]) (by kernel_rfl) (by simp) (AllReadyH.cons rfl (fun K hK => ?_) AllReadyH.nil); go_simp; ((go_at_call 76; refine (rCos_any _ _).mono ?_; rintro e w' ⟨rfl, hb2⟩); replace hR := hR.below hb2; replace hb := below_next hb2 hb; have i0 := hR.c0; have i1 := hR.c1; have i2 := hR.f0; have i3 := hR.f1); go_wp2_with fail; refine hK.out _ _ ?_ (fun hHeld => ?_); (focus (first | assumption | rfl | exact (hb2.block _ (lt_heap (hHeld.trans hA.out))).trans hHeld | (rw [heap_setCell_other _ _ _ _ (by dsimp only; omega), heap_setCell_other _ _ _ _ (by dsimp only; omega)]; exact hHeld))); clear hK K; (try simp only [Act.put, List.getElem_toArray, List.getElem_cons_succ, List.getElem_cons_zero, List.setIfInBounds_toArray, List.set_cons_zero, List.set_cons_succ])
  refine wpAnyH_ready (rs := [6]) (by kernel_rfl) (by simp) (AllReadyH.cons rfl (fun K hK => ?_) AllReadyH.nil); go_simp; ((go_at_call 76; refine (rCos_any _ _).mono ?_; rintro e w' ⟨rfl, hb2⟩); replace hR := hR.below hb2; replace hb := below_next hb2 hb; have i0 := hR.c0; have i1 := hR.c1; have i2 := hR.f0; have i3 := hR.f1); go_wp2_with fail; refine hK.out _ _ ?_ (fun hHeld => ?_); (focus (first | assumption | rfl | exact (hb2.block _ (lt_heap (hHeld.trans hA.out))).trans hHeld | (rw [heap_setCell_other _ _ _ _ (by dsimp only; omega), heap_setCell_other _ _ _ _ (by dsimp only; omega)]; exact hHeld))); clear hK K; (try simp only [Act.put, List.getElem_toArray, List.getElem_cons_succ, List.getElem_cons_zero, List.setIfInBounds_toArray, List.set_cons_zero, List.set_cons_succ])
  refine wpAnyH_ready (rs := [7]) (by kernel_rfl) (by simp) (AllReadyH.cons rfl (fun K hK => ?_) AllReadyH.nil); go_simp; ((go_at_call 75; refine (rover_any _ _ _ _ _ _ (by decide) (by decide) (by decide) (by decide)).mono ?_; rintro e w' ⟨rfl, hb2⟩); replace hR := hR.below hb2; replace hb := below_next hb2 hb; have i0 := hR.c0; have i1 := hR.c1; have i2 := hR.f0; have i3 := hR.f1); go_wp2_with fail; refine hK.out _ _ ?_ (fun hHeld => ?_); (focus (first | assumption | rfl | exact (hb2.block _ (lt_heap (hHeld.trans hA.out))).trans hHeld | (rw [heap_setCell_other _ _ _ _ (by dsimp only; omega), heap_setCell_other _ _ _ _ (by dsimp only; omega)]; exact hHeld))); clear hK K; (try simp only [Act.put, List.getElem_toArray, List.getElem_cons_succ, List.getElem_cons_zero, List.setIfInBounds_toArray, List.set_cons_zero, List.set_cons_succ])
  refine wpAnyH_ready (rs := [8]) (by kernel_rfl) (by simp) (AllReadyH.cons rfl (fun K hK => ?_) AllReadyH.nil); go_simp; refine hK.out _ _ ?_ (fun hHeld => ?_); (focus (first | assumption | rfl | exact (hb2.block _ (lt_heap (hHeld.trans hA.out))).trans hHeld | (rw [heap_setCell_other _ _ _ _ (by dsimp only; omega), heap_setCell_other _ _ _ _ (by dsimp only; omega)]; exact hHeld))); clear hK K; (try simp only [Act.put, List.getElem_toArray, List.getElem_cons_succ, List.getElem_cons_zero, List.setIfInBounds_toArray, List.set_cons_zero, List.set_cons_succ])
  refine wpAnyH_done (by kernel_rfl) ?_ _
  go_wp2_with fail
  (try simp only [Exit.inBlock, Exit.then])
  refine bodyPost_ret (v := .agg #[.int .i64 (overI a (cosA a.lo) (cosA a.hi) 0 32768).lo, .int .i64 (overI a (cosA a.lo) (cosA a.hi) 0 32768).hi]) ?_ rfl ⟨rfl, Below.setCell (Below.setCell hb (by dsimp only; omega) _) (by dsimp only; omega) _⟩
  simp [results, Try.results59, go_sem, i0, i1]
end Go.Proofs.Ytdplgiccpjlelaa
