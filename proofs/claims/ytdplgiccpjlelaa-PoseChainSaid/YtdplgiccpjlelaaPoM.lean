/- Proved: the maker of motions of the statements of layer 5. Conditions: as each theorem states. -/
import Derived.Test.YtdplgiccpjlelaaPoF
import Derived.Test.YtdplgiccpjlelaaMtK
namespace Go.Proofs.Ytdplgiccpjlelaa
open Go.RowKit

theorem PoseAt.but {b q : Nat} {u v : World} {x : Mo} (h : PoseAt u q x) (k : But b u v) (hq : q ≠ b) : PoseAt v q x := (k.block q h.lt hq).trans h
def MotionI (B b : Nat) (w : World) (e : Ending) (w' : World) : Prop := ∃ (p : Mo) (t : W3), MotI p t ∧ e = .returned (.agg #[.int .i64 ((p).r.x).x.lo, .int .i64 ((p).r.x).x.hi, .int .i64 ((p).r.x).y.lo, .int .i64 ((p).r.x).y.hi, .int .i64 ((p).r.x).z.lo, .int .i64 ((p).r.x).z.hi, .int .i64 ((p).r.y).x.lo, .int .i64 ((p).r.y).x.hi, .int .i64 ((p).r.y).y.lo, .int .i64 ((p).r.y).y.hi, .int .i64 ((p).r.y).z.lo, .int .i64 ((p).r.y).z.hi, .int .i64 ((p).r.z).x.lo, .int .i64 ((p).r.z).x.hi, .int .i64 ((p).r.z).y.lo, .int .i64 ((p).r.z).y.hi, .int .i64 ((p).r.z).z.lo, .int .i64 ((p).r.z).z.hi, .int .i64 ((p).t).x.lo, .int .i64 ((p).t).x.hi, .int .i64 ((p).t).y.lo, .int .i64 ((p).t).y.hi, .int .i64 ((p).t).z.lo, .int .i64 ((p).t).z.hi]) ∧ Src B w' b ∧ But b w w'
theorem store_pose {P : Program} {W : World} {b : Nat} {u : Mo} (v : Mo) (h : PoseAt W b u) : (storeCells ⟨b, 0, none⟩ (poseC v).toList).run P W = .ok () (W.setRow b (poseC v)) := by
  have := run_storeCells_from (P := P) b 29 (poseC v).toList 0 (poseC u) W h rfl (by unfold poseC; simp [Value.oneCell'])
  exact this
set_option linter.unusedSimpArgs false in
set_option linter.unusedVariables false in
set_option maxRecDepth 100000 in
set_option maxHeartbeats 12800000 in
theorem motion_any (B b : Nat) (wide : Bool) (w : World) (h : Src B w b) :
    Calls Try.prog 11 #[ .pointer (some ⟨b, 0, none⟩), .bool wide ] w (MotionI B b w) := by
  have hlt := h.lt
  have hB := h.base
  have H0 := Lib.hid (show Src B (w.alloc (.cells #[.int .i64 0, .int .i64 0, .int .i64 0, .int .i64 0, .int .i64 0, .int .i64 0, .int .i64 0, .int .i64 0, .int .i64 0, .int .i64 0, .int .i64 0, .int .i64 0, .int .i64 0, .int .i64 0, .int .i64 0, .int .i64 0, .int .i64 0, .int .i64 0, .int .i64 0, .int .i64 0, .int .i64 0, .int .i64 0, .int .i64 0, .int .i64 0] 29)) b from h.below (below_alloc (Below.refl _ _) _))
  have M0 := Lib.hid (show PoseAt (w.alloc (.cells #[.int .i64 0, .int .i64 0, .int .i64 0, .int .i64 0, .int .i64 0, .int .i64 0, .int .i64 0, .int .i64 0, .int .i64 0, .int .i64 0, .int .i64 0, .int .i64 0, .int .i64 0, .int .i64 0, .int .i64 0, .int .i64 0, .int .i64 0, .int .i64 0, .int .i64 0, .int .i64 0, .int .i64 0, .int .i64 0, .int .i64 0, .int .i64 0] 29)) w.heap.size zeroP from PoseAt.at_new (v := zeroP) rfl)
  have K0 := Lib.hid (show But b w (w.alloc (.cells #[.int .i64 0, .int .i64 0, .int .i64 0, .int .i64 0, .int .i64 0, .int .i64 0, .int .i64 0, .int .i64 0, .int .i64 0, .int .i64 0, .int .i64 0, .int .i64 0, .int .i64 0, .int .i64 0, .int .i64 0, .int .i64 0, .int .i64 0, .int .i64 0, .int .i64 0, .int .i64 0, .int .i64 0, .int .i64 0, .int .i64 0, .int .i64 0] 29)) from (But.refl b w).alloc _)
  clear h
  cases wide with
  | true =>
    go_enter Try.func11, Try.ntmps11
    go_wp2_with fail
    refine (Signed_any B b 196608 _ H0.out (by decide) (by decide)).mono ?_
    rintro e w1 ⟨x, x1, x2, rfl, hs1, hb1⟩
    have S1 := Lib.hid hs1
    have M1 := Lib.hid (M0.out.but hb1 (by omega))
    have K1 := Lib.hid (K0.out.trans hb1)
    clear hs1 hb1 H0 M0 K0
    go_wp2_with fail
    refine (Signed_any B b 196608 _ S1.out (by decide) (by decide)).mono ?_
    rintro e w2 ⟨y, y1, y2, rfl, hs2, hb2⟩
    have S2 := Lib.hid hs2
    have M2 := Lib.hid (M1.out.but hb2 (by omega))
    have K2 := Lib.hid (K1.out.trans hb2)
    clear hs2 hb2 S1 M1 K1
    go_wp2_with fail
    refine (Signed_any B b 196608 _ S2.out (by decide) (by decide)).mono ?_
    rintro e w3 ⟨z, z1, z2, rfl, hs3, hb3⟩
    have S3 := Lib.hid hs3
    have M3 := Lib.hid (M2.out.but hb3 (by omega))
    have K3 := Lib.hid (K2.out.trans hb3)
    clear hs3 hb3 S2 M2 K2
    go_wp2_with fail
    refine (rPoint_any x y z _).mono ?_
    rintro e w5 ⟨rfl, hb5⟩
    go_wp2_with fail
    refine (rShift_any (pntV x y z) _).mono ?_
    rintro e w6 ⟨rfl, hb6⟩
    have hb := below_next hb6 hb5
    have KN := K3.out.trans (But.of_below hb)
    have yk := KN.size
    have hm : MotI (shiP (pntV x y z)) ⟨x, y, z⟩ := mot_shift (t := ⟨x, y, z⟩) ⟨⟨x1, x2⟩, ⟨y1, y2⟩, z1, z2⟩
    have z0 : PoseAt (w6.alloc (.cells #[.int .i64 0, .int .i64 0, .int .i64 0, .int .i64 0, .int .i64 0, .int .i64 0, .int .i64 0, .int .i64 0, .int .i64 0, .int .i64 0, .int .i64 0, .int .i64 0, .int .i64 0, .int .i64 0, .int .i64 0, .int .i64 0, .int .i64 0, .int .i64 0, .int .i64 0, .int .i64 0, .int .i64 0, .int .i64 0, .int .i64 0, .int .i64 0] 29)) w6.heap.size zeroP := PoseAt.at_new (v := zeroP) rfl
    have P6 := Lib.hid (show PoseAt ((w6.alloc (.cells #[.int .i64 0, .int .i64 0, .int .i64 0, .int .i64 0, .int .i64 0, .int .i64 0, .int .i64 0, .int .i64 0, .int .i64 0, .int .i64 0, .int .i64 0, .int .i64 0, .int .i64 0, .int .i64 0, .int .i64 0, .int .i64 0, .int .i64 0, .int .i64 0, .int .i64 0, .int .i64 0, .int .i64 0, .int .i64 0, .int .i64 0, .int .i64 0] 29)).setRow w6.heap.size (poseC (shiP (pntV x y z)))) w6.heap.size (shiP (pntV x y z)) from z0.put _)
    have M6 := Lib.hid (show PoseAt ((w6.alloc (.cells #[.int .i64 0, .int .i64 0, .int .i64 0, .int .i64 0, .int .i64 0, .int .i64 0, .int .i64 0, .int .i64 0, .int .i64 0, .int .i64 0, .int .i64 0, .int .i64 0, .int .i64 0, .int .i64 0, .int .i64 0, .int .i64 0, .int .i64 0, .int .i64 0, .int .i64 0, .int .i64 0, .int .i64 0, .int .i64 0, .int .i64 0, .int .i64 0] 29)).setRow w6.heap.size (poseC (shiP (pntV x y z)))) w.heap.size zeroP from (((M3.out.below hb)).alloc _).row (by have := M3.out.lt; have := hb.size; omega))
    have ybz : b < w6.heap.size := by omega
    have S6 := Lib.hid (show Src B ((w6.alloc (.cells #[.int .i64 0, .int .i64 0, .int .i64 0, .int .i64 0, .int .i64 0, .int .i64 0, .int .i64 0, .int .i64 0, .int .i64 0, .int .i64 0, .int .i64 0, .int .i64 0, .int .i64 0, .int .i64 0, .int .i64 0, .int .i64 0, .int .i64 0, .int .i64 0, .int .i64 0, .int .i64 0, .int .i64 0, .int .i64 0, .int .i64 0, .int .i64 0] 29)).setRow w6.heap.size (poseC (shiP (pntV x y z)))) b from (S3.out.below hb).keep (fun q hq => by
      rw [setRow_other _ _ _ _ (by omega)]; exact Go.Deep.blk_alloc_lt _ _ _ (by omega)))
    have K6 := Lib.hid (show But b w ((w6.alloc (.cells #[.int .i64 0, .int .i64 0, .int .i64 0, .int .i64 0, .int .i64 0, .int .i64 0, .int .i64 0, .int .i64 0, .int .i64 0, .int .i64 0, .int .i64 0, .int .i64 0, .int .i64 0, .int .i64 0, .int .i64 0, .int .i64 0, .int .i64 0, .int .i64 0, .int .i64 0, .int .i64 0, .int .i64 0, .int .i64 0, .int .i64 0, .int .i64 0] 29)).setRow w6.heap.size (poseC (shiP (pntV x y z)))) from (KN.alloc _).row (by omega) _)
    have yw : w.heap.size < w6.heap.size := by have := M3.out.lt; have := hb.size; omega
    generalize shiP (pntV x y z) = p0 at hm P6 M6 S6 K6 ⊢
    have HM := Lib.hid hm
    clear hb5 hb6 hb KN S3 M3 K3 hm yk x1 x2 y1 y2 z1 z2
    go_wp2_with (refine wpList_store_row rfl 29 _ _ rfl (w6.heap.size) (poseC (p0)) rfl rfl 29 (poseC zeroP) z0 info_pose rfl (pose_one _) ?_)
    obtain ⟨U, hU⟩ : ∃ U : World, U = (w6.alloc (.cells #[.int .i64 0, .int .i64 0, .int .i64 0, .int .i64 0, .int .i64 0, .int .i64 0, .int .i64 0, .int .i64 0, .int .i64 0, .int .i64 0, .int .i64 0, .int .i64 0, .int .i64 0, .int .i64 0, .int .i64 0, .int .i64 0, .int .i64 0, .int .i64 0, .int .i64 0, .int .i64 0, .int .i64 0, .int .i64 0, .int .i64 0, .int .i64 0] 29)).setRow w6.heap.size (poseC p0) := ⟨_, rfl⟩
    obtain ⟨np, hnp⟩ : ∃ np, np = w6.heap.size := ⟨_, rfl⟩
    rw [← hU] at P6 M6 S6 K6 ⊢
    rw [← hnp] at P6 yw ybz ⊢
    clear hU z0 hnp
    refine (Next_any B b 3 _ S6.out (by decide) (by decide)).mono ?_
    rintro e w7 ⟨k0, k01, k02, rfl, hs7, hb7⟩
    have S7 := Lib.hid hs7
    have P7 := Lib.hid (P6.out.but hb7 (by omega))
    have M7 := Lib.hid (M6.out.but hb7 (by omega))
    have K7 := Lib.hid (K6.out.trans hb7)
    clear hs7 hb7 S6 P6 M6 K6
    go_wp2_with fail
    go_loopw [6] (fun i wr => ∃ (k : Nat) (p : Mo) (tt : W3), k ≤ 2 ∧ i = .int .i64 k ∧ MotI p tt ∧ PoseAt wr w.heap.size zeroP ∧ PoseAt wr np p ∧ Src B wr b ∧ But b w wr) (fun i _ => (intOf i).toNat)
    case atStart =>
      exact ⟨k0.toNat, p0, _, by omega, by rw [Int.toNat_of_nonneg k01], HM.out, M7.out, P7.out, S7.out, K7.out⟩
    case round =>
      clear S7 P7 M7 K7 HM k01 k02
      obtain ⟨k, p, tt, hk, rfl, hm, rm, rp, rs, rb⟩ := hrel
      by_cases h3 : 0 < k
      · have x3 : (0 : Int) < (k : Int) := by omega
        have HP := Lib.hid hm
        have RM := Lib.hid rm
        have RP := Lib.hid rp
        have RS := Lib.hid rs
        have RB := Lib.hid rb
        clear hm rm rp rs rb
        go_wp2_with fail
        refine (Signed_any B b 70000 _ RS.out (by decide) (by decide)).mono ?_
        rintro e w8 ⟨a, a1, a2, rfl, hs8, hb8⟩
        have S8 := Lib.hid hs8
        have M8 := Lib.hid (RM.out.but hb8 (by omega))
        have P8 := Lib.hid (RP.out.but hb8 (by omega))
        have K8 := Lib.hid (RB.out.trans hb8)
        clear hs8 hb8 RM RP RS RB
        go_wp2_with fail
        refine (Next_any B b 4000 _ S8.out (by decide) (by decide)).mono ?_
        rintro e V ⟨ww, ww1, ww2, rfl, hs9, hb9⟩
        have S9 := Lib.hid hs9
        have M9 := Lib.hid (M8.out.but hb9 (by omega))
        have P9 := Lib.hid (P8.out.but hb9 (by omega))
        have K9 := Lib.hid (K8.out.trans hb9)
        clear hs9 hb9 M8 P8 S8 K8
        have hN : But b V V.drew := (But.refl b V).drew
        have hs : Src B V.drew b := S9.out.below (Below.refl _ _).drew
        have hP : PoseAt V.drew np p := P9.out
        have yv := P9.out.lt
        have wr1 : IntKind.i64.wrap (a + ww) = a + ww := by rw [IntKind.wrap_i64]; omega
        have wr2 : IntKind.i64.wrap a = a := by rw [IntKind.wrap_i64]; omega
        go_wp2_with fail
        refine wp_region_held_drew (S := (fun _ => True)) (by kernel_rfl) ?_ (fun hHeld => ?_)
        focus trivial
        refine wpAnyH_take (i := 1) (v := ?_) rfl (by kernel_rfl) (by kernel_rfl) (by kernel_rfl) (fun _ _ _ h => h) (Or.inl ⟨by rfl, ?_⟩) (by assumption) ?_; rotate_left; (focus (intro w hSw; (try dsimp only at hSw); go_simp; try with_reducible rfl)); (try simp only [Act.put, List.getElem_toArray, List.getElem_cons_succ, List.getElem_cons_zero, List.setIfInBounds_toArray, List.set_cons_zero, List.set_cons_succ])
        refine wpAnyH_take (i := 3) (v := ?_) rfl (by kernel_rfl) (by kernel_rfl) (by kernel_rfl) (fun _ _ _ h => h) (Or.inl ⟨by rfl, ?_⟩) (by assumption) ?_; rotate_left; (focus (intro w hSw; (try dsimp only at hSw); go_simp; try with_reducible rfl)); (try simp only [Act.put, List.getElem_toArray, List.getElem_cons_succ, List.getElem_cons_zero, List.setIfInBounds_toArray, List.set_cons_zero, List.set_cons_succ])
        refine wpAnyH_take (i := 4) (v := ?_) rfl (by kernel_rfl) (by kernel_rfl) (by kernel_rfl) (fun _ _ _ h => h) (Or.inl ⟨by rfl, ?_⟩) (by assumption) ?_; rotate_left; (focus (intro w hSw; (try dsimp only at hSw); go_simp; try with_reducible rfl)); (try simp only [Act.put, List.getElem_toArray, List.getElem_cons_succ, List.getElem_cons_zero, List.setIfInBounds_toArray, List.set_cons_zero, List.set_cons_succ])
        refine wpAnyH_take (i := 5) (v := ?_) rfl (by kernel_rfl) (by kernel_rfl) (by kernel_rfl) (fun _ _ _ h => h) (Or.inl ⟨by rfl, ?_⟩) (by assumption) ?_; rotate_left; (focus (intro w hSw; (try dsimp only at hSw); go_simp; try with_reducible rfl)); (try simp only [Act.put, List.getElem_toArray, List.getElem_cons_succ, List.getElem_cons_zero, List.setIfInBounds_toArray, List.set_cons_zero, List.set_cons_succ])
        refine wpAnyH_take (i := 6) (v := ?_) rfl (by kernel_rfl) (by kernel_rfl) (by kernel_rfl) (fun _ _ _ h => h) (Or.inl ⟨by rfl, ?_⟩) (by assumption) ?_; rotate_left; (focus (intro w hSw; (try dsimp only at hSw); go_simp; try with_reducible rfl)); (try simp only [Act.put, List.getElem_toArray, List.getElem_cons_succ, List.getElem_cons_zero, List.setIfInBounds_toArray, List.set_cons_zero, List.set_cons_succ])
        refine wpAnyH_take (i := 7) (v := ?_) rfl (by kernel_rfl) (by kernel_rfl) (by kernel_rfl) (fun _ _ _ h => h) (Or.inl ⟨by rfl, ?_⟩) (by assumption) ?_; rotate_left; (focus (intro w hSw; (try dsimp only at hSw); go_simp; try with_reducible rfl)); (try simp only [Act.put, List.getElem_toArray, List.getElem_cons_succ, List.getElem_cons_zero, List.setIfInBounds_toArray, List.set_cons_zero, List.set_cons_succ])
        refine wpAnyH_ready (rs := [0, 2]) (by kernel_rfl) (by simp) (AllReadyH.cons rfl (fun K hK => ?_) (AllReadyH.cons rfl (fun K hK => ?_) (AllReadyH.nil)))
        · rw [if_pos (by rfl)]; refine wp_load_row 29 _ rfl np rfl 29 _ (0, 0) _ hP under_pose rfl info_pose ?_; refine hK.out _ _ ?_ (fun hHeld => ?_); (focus trivial); clear hK K; (try simp only [Act.put, List.getElem_toArray, List.getElem_cons_succ, List.getElem_cons_zero, List.setIfInBounds_toArray, List.set_cons_zero, List.set_cons_succ])
          refine wpAnyH_ready (rs := [2]) (by kernel_rfl) (by simp) (AllReadyH.cons rfl (fun K hK => ?_) (AllReadyH.nil))
          go_simp; ((go_at_call 27; refine (Next_any B b 3 _ hs (by decide) (by decide)).mono ?_; rintro e w' ⟨ax, ax1, ax2, rfl, hs2, hb2⟩); have hP2 := hP.but hb2 (by omega); clear hP; have hP := hP2; clear hP2; have hN2 := hN.trans hb2; clear hN; have hN := hN2; clear hN2 hs; have hs := hs2; clear hs2 hb2); go_wp2_with fail; refine hK.out _ _ ?_ (fun hHeld => ?_); (focus trivial); clear hK K; (try simp only [Act.put, List.getElem_toArray, List.getElem_cons_succ, List.getElem_cons_zero, List.setIfInBounds_toArray, List.set_cons_zero, List.set_cons_succ])
          refine wpAnyH_ready (rs := [8]) (by kernel_rfl) (by simp) (AllReadyH.cons rfl (fun K hK => ?_) (AllReadyH.nil))
          go_simp; ((go_at_call 19; refine (rTurnP_any ax ⟨a, a + ww⟩ _).mono ?_; rintro e w' ⟨rfl, hb2⟩); have hP2 := hP.below hb2; clear hP; have hP := hP2; clear hP2; have hN2 := hN.trans (But.of_below hb2); clear hN; have hN := hN2; clear hN2; have hs2 := hs.below hb2; clear hs; have hs := hs2; clear hs2 hb2); go_wp2_with fail; refine hK.out _ _ ?_ (fun hHeld => ?_); (focus trivial); clear hK K; (try simp only [Act.put, List.getElem_toArray, List.getElem_cons_succ, List.getElem_cons_zero, List.setIfInBounds_toArray, List.set_cons_zero, List.set_cons_succ])
          refine wpAnyH_ready (rs := [9]) (by kernel_rfl) (by simp) (AllReadyH.cons rfl (fun K hK => ?_) (AllReadyH.nil))
          go_simp; ((go_at_call 21; refine (rComP_any p (trnP ax ⟨a, a + ww⟩) _).mono ?_; rintro e w' ⟨rfl, hb2⟩); have hP2 := hP.below hb2; clear hP; have hP := hP2; clear hP2; have hN2 := hN.trans (But.of_below hb2); clear hN; have hN := hN2; clear hN2; have hs2 := hs.below hb2; clear hs; have hs := hs2; clear hs2 hb2); go_wp2_with fail; refine hK.out _ _ ?_ (fun hHeld => ?_); (focus trivial); clear hK K; (try simp only [Act.put, List.getElem_toArray, List.getElem_cons_succ, List.getElem_cons_zero, List.setIfInBounds_toArray, List.set_cons_zero, List.set_cons_succ])
          refine wpAnyH_ready (rs := [10]) (by kernel_rfl) (by simp) (AllReadyH.cons rfl (fun K hK => ?_) (AllReadyH.nil))
          rw [if_pos (by rfl)]; refine wp_store_row 29 _ _ rfl np (poseC (comP p (trnP ax ⟨a, a + ww⟩))) rfl rfl 29 (poseC p) hP info_pose rfl (pose_one _) ?_; refine hK.out _ _ ?_ (fun hHeld => ?_); (focus trivial); clear hK K; (try simp only [Act.put, List.getElem_toArray, List.getElem_cons_succ, List.getElem_cons_zero, List.setIfInBounds_toArray, List.set_cons_zero, List.set_cons_succ])
          refine wpAnyH_done (by kernel_rfl) ?_ _
          go_wp2_with fail
          go_roundw
          case rel =>
            refine ⟨k - 1, _, tt, by omega, by go_num, mot_turn (k := ax) (a := ⟨a, a + ww⟩) HP.out (by omega) ⟨by dsimp only; omega, by dsimp only; omega, by dsimp only; omega⟩, ?_, hP.put _, ?_, ?_⟩
            · exact (M9.out.but hN (by omega)).row (by omega)
            · exact hs.keep (fun q hq => setRow_other _ _ _ _ (by have := hs.base; omega))
            · exact (K9.out.trans hN).row (by omega) _
          case measure => simp [intOf]; omega
        · go_simp; ((go_at_call 27; refine (Next_any B b 3 _ hs (by decide) (by decide)).mono ?_; rintro e w' ⟨ax, ax1, ax2, rfl, hs2, hb2⟩); have hP2 := hP.but hb2 (by omega); clear hP; have hP := hP2; clear hP2; have hN2 := hN.trans hb2; clear hN; have hN := hN2; clear hN2 hs; have hs := hs2; clear hs2 hb2); go_wp2_with fail; refine hK.out _ _ ?_ (fun hHeld => ?_); (focus trivial); clear hK K; (try simp only [Act.put, List.getElem_toArray, List.getElem_cons_succ, List.getElem_cons_zero, List.setIfInBounds_toArray, List.set_cons_zero, List.set_cons_succ])
          refine wpAnyH_ready (rs := [0, 8]) (by kernel_rfl) (by simp) (AllReadyH.cons rfl (fun K hK => ?_) (AllReadyH.cons rfl (fun K hK => ?_) (AllReadyH.nil)))
          · rw [if_pos (by rfl)]; refine wp_load_row 29 _ rfl np rfl 29 _ (0, 0) _ hP under_pose rfl info_pose ?_; refine hK.out _ _ ?_ (fun hHeld => ?_); (focus trivial); clear hK K; (try simp only [Act.put, List.getElem_toArray, List.getElem_cons_succ, List.getElem_cons_zero, List.setIfInBounds_toArray, List.set_cons_zero, List.set_cons_succ])
            refine wpAnyH_ready (rs := [8]) (by kernel_rfl) (by simp) (AllReadyH.cons rfl (fun K hK => ?_) (AllReadyH.nil))
            go_simp; ((go_at_call 19; refine (rTurnP_any ax ⟨a, a + ww⟩ _).mono ?_; rintro e w' ⟨rfl, hb2⟩); have hP2 := hP.below hb2; clear hP; have hP := hP2; clear hP2; have hN2 := hN.trans (But.of_below hb2); clear hN; have hN := hN2; clear hN2; have hs2 := hs.below hb2; clear hs; have hs := hs2; clear hs2 hb2); go_wp2_with fail; refine hK.out _ _ ?_ (fun hHeld => ?_); (focus trivial); clear hK K; (try simp only [Act.put, List.getElem_toArray, List.getElem_cons_succ, List.getElem_cons_zero, List.setIfInBounds_toArray, List.set_cons_zero, List.set_cons_succ])
            refine wpAnyH_ready (rs := [9]) (by kernel_rfl) (by simp) (AllReadyH.cons rfl (fun K hK => ?_) (AllReadyH.nil))
            go_simp; ((go_at_call 21; refine (rComP_any p (trnP ax ⟨a, a + ww⟩) _).mono ?_; rintro e w' ⟨rfl, hb2⟩); have hP2 := hP.below hb2; clear hP; have hP := hP2; clear hP2; have hN2 := hN.trans (But.of_below hb2); clear hN; have hN := hN2; clear hN2; have hs2 := hs.below hb2; clear hs; have hs := hs2; clear hs2 hb2); go_wp2_with fail; refine hK.out _ _ ?_ (fun hHeld => ?_); (focus trivial); clear hK K; (try simp only [Act.put, List.getElem_toArray, List.getElem_cons_succ, List.getElem_cons_zero, List.setIfInBounds_toArray, List.set_cons_zero, List.set_cons_succ])
            refine wpAnyH_ready (rs := [10]) (by kernel_rfl) (by simp) (AllReadyH.cons rfl (fun K hK => ?_) (AllReadyH.nil))
            rw [if_pos (by rfl)]; refine wp_store_row 29 _ _ rfl np (poseC (comP p (trnP ax ⟨a, a + ww⟩))) rfl rfl 29 (poseC p) hP info_pose rfl (pose_one _) ?_; refine hK.out _ _ ?_ (fun hHeld => ?_); (focus trivial); clear hK K; (try simp only [Act.put, List.getElem_toArray, List.getElem_cons_succ, List.getElem_cons_zero, List.setIfInBounds_toArray, List.set_cons_zero, List.set_cons_succ])
            refine wpAnyH_done (by kernel_rfl) ?_ _
            go_wp2_with fail
            go_roundw
            case rel =>
              refine ⟨k - 1, _, tt, by omega, by go_num, mot_turn (k := ax) (a := ⟨a, a + ww⟩) HP.out (by omega) ⟨by dsimp only; omega, by dsimp only; omega, by dsimp only; omega⟩, ?_, hP.put _, ?_, ?_⟩
              · exact (M9.out.but hN (by omega)).row (by omega)
              · exact hs.keep (fun q hq => setRow_other _ _ _ _ (by have := hs.base; omega))
              · exact (K9.out.trans hN).row (by omega) _
            case measure => simp [intOf]; omega
          · go_simp; ((go_at_call 19; refine (rTurnP_any ax ⟨a, a + ww⟩ _).mono ?_; rintro e w' ⟨rfl, hb2⟩); have hP2 := hP.below hb2; clear hP; have hP := hP2; clear hP2; have hN2 := hN.trans (But.of_below hb2); clear hN; have hN := hN2; clear hN2; have hs2 := hs.below hb2; clear hs; have hs := hs2; clear hs2 hb2); go_wp2_with fail; refine hK.out _ _ ?_ (fun hHeld => ?_); (focus trivial); clear hK K; (try simp only [Act.put, List.getElem_toArray, List.getElem_cons_succ, List.getElem_cons_zero, List.setIfInBounds_toArray, List.set_cons_zero, List.set_cons_succ])
            refine wpAnyH_ready (rs := [0]) (by kernel_rfl) (by simp) (AllReadyH.cons rfl (fun K hK => ?_) (AllReadyH.nil))
            rw [if_pos (by rfl)]; refine wp_load_row 29 _ rfl np rfl 29 _ (0, 0) _ hP under_pose rfl info_pose ?_; refine hK.out _ _ ?_ (fun hHeld => ?_); (focus trivial); clear hK K; (try simp only [Act.put, List.getElem_toArray, List.getElem_cons_succ, List.getElem_cons_zero, List.setIfInBounds_toArray, List.set_cons_zero, List.set_cons_succ])
            refine wpAnyH_ready (rs := [9]) (by kernel_rfl) (by simp) (AllReadyH.cons rfl (fun K hK => ?_) (AllReadyH.nil))
            go_simp; ((go_at_call 21; refine (rComP_any p (trnP ax ⟨a, a + ww⟩) _).mono ?_; rintro e w' ⟨rfl, hb2⟩); have hP2 := hP.below hb2; clear hP; have hP := hP2; clear hP2; have hN2 := hN.trans (But.of_below hb2); clear hN; have hN := hN2; clear hN2; have hs2 := hs.below hb2; clear hs; have hs := hs2; clear hs2 hb2); go_wp2_with fail; refine hK.out _ _ ?_ (fun hHeld => ?_); (focus trivial); clear hK K; (try simp only [Act.put, List.getElem_toArray, List.getElem_cons_succ, List.getElem_cons_zero, List.setIfInBounds_toArray, List.set_cons_zero, List.set_cons_succ])
            refine wpAnyH_ready (rs := [10]) (by kernel_rfl) (by simp) (AllReadyH.cons rfl (fun K hK => ?_) (AllReadyH.nil))
            rw [if_pos (by rfl)]; refine wp_store_row 29 _ _ rfl np (poseC (comP p (trnP ax ⟨a, a + ww⟩))) rfl rfl 29 (poseC p) hP info_pose rfl (pose_one _) ?_; refine hK.out _ _ ?_ (fun hHeld => ?_); (focus trivial); clear hK K; (try simp only [Act.put, List.getElem_toArray, List.getElem_cons_succ, List.getElem_cons_zero, List.setIfInBounds_toArray, List.set_cons_zero, List.set_cons_succ])
            refine wpAnyH_done (by kernel_rfl) ?_ _
            go_wp2_with fail
            go_roundw
            case rel =>
              refine ⟨k - 1, _, tt, by omega, by go_num, mot_turn (k := ax) (a := ⟨a, a + ww⟩) HP.out (by omega) ⟨by dsimp only; omega, by dsimp only; omega, by dsimp only; omega⟩, ?_, hP.put _, ?_, ?_⟩
              · exact (M9.out.but hN (by omega)).row (by omega)
              · exact hs.keep (fun q hq => setRow_other _ _ _ _ (by have := hs.base; omega))
              · exact (K9.out.trans hN).row (by omega) _
            case measure => simp [intOf]; omega
      · obtain rfl : k = 0 := by omega
        have hst := store_pose (P := Try.prog) p rm
        go_wp2_with (first | (refine wpList_load_row rfl 29 _ rfl np rfl 29 _ (0, 0) _ rp under_pose rfl info_pose ?_))
        (try simp only [Exit.inBlock, Exit.then])
        refine bodyPost_ret (v := .agg (poseC p)) ?_ rfl ⟨p, tt, hm, rfl, rs.keep (fun q hq => setRow_other _ _ _ _ (by have := rs.base; omega)), rb.row (Nat.le_refl _) _⟩
        exact results_cell_row rfl _ _ w.heap.size 29 _ (0, 0) _ rfl (rm.put _) under_pose rfl info_pose
  | false =>
    go_enter Try.func11, Try.ntmps11
    go_wp2_with fail
    refine (Signed_any B b 196608 _ H0.out (by decide) (by decide)).mono ?_
    rintro e w1 ⟨x, x1, x2, rfl, hs1, hb1⟩
    have S1 := Lib.hid hs1
    have M1 := Lib.hid (M0.out.but hb1 (by omega))
    have K1 := Lib.hid (K0.out.trans hb1)
    clear hs1 hb1 H0 M0 K0
    go_wp2_with fail
    refine (Signed_any B b 196608 _ S1.out (by decide) (by decide)).mono ?_
    rintro e w2 ⟨y, y1, y2, rfl, hs2, hb2⟩
    have S2 := Lib.hid hs2
    have M2 := Lib.hid (M1.out.but hb2 (by omega))
    have K2 := Lib.hid (K1.out.trans hb2)
    clear hs2 hb2 S1 M1 K1
    go_wp2_with fail
    refine (Signed_any B b 196608 _ S2.out (by decide) (by decide)).mono ?_
    rintro e w3 ⟨z, z1, z2, rfl, hs3, hb3⟩
    have S3 := Lib.hid hs3
    have M3 := Lib.hid (M2.out.but hb3 (by omega))
    have K3 := Lib.hid (K2.out.trans hb3)
    clear hs3 hb3 S2 M2 K2
    go_wp2_with fail
    refine (rPoint_any x y z _).mono ?_
    rintro e w5 ⟨rfl, hb5⟩
    go_wp2_with fail
    refine (rShift_any (pntV x y z) _).mono ?_
    rintro e w6 ⟨rfl, hb6⟩
    have hb := below_next hb6 hb5
    have KN := K3.out.trans (But.of_below hb)
    have yk := KN.size
    have hm : MotI (shiP (pntV x y z)) ⟨x, y, z⟩ := mot_shift (t := ⟨x, y, z⟩) ⟨⟨x1, x2⟩, ⟨y1, y2⟩, z1, z2⟩
    have z0 : PoseAt (w6.alloc (.cells #[.int .i64 0, .int .i64 0, .int .i64 0, .int .i64 0, .int .i64 0, .int .i64 0, .int .i64 0, .int .i64 0, .int .i64 0, .int .i64 0, .int .i64 0, .int .i64 0, .int .i64 0, .int .i64 0, .int .i64 0, .int .i64 0, .int .i64 0, .int .i64 0, .int .i64 0, .int .i64 0, .int .i64 0, .int .i64 0, .int .i64 0, .int .i64 0] 29)) w6.heap.size zeroP := PoseAt.at_new (v := zeroP) rfl
    have P6 := Lib.hid (show PoseAt ((w6.alloc (.cells #[.int .i64 0, .int .i64 0, .int .i64 0, .int .i64 0, .int .i64 0, .int .i64 0, .int .i64 0, .int .i64 0, .int .i64 0, .int .i64 0, .int .i64 0, .int .i64 0, .int .i64 0, .int .i64 0, .int .i64 0, .int .i64 0, .int .i64 0, .int .i64 0, .int .i64 0, .int .i64 0, .int .i64 0, .int .i64 0, .int .i64 0, .int .i64 0] 29)).setRow w6.heap.size (poseC (shiP (pntV x y z)))) w6.heap.size (shiP (pntV x y z)) from z0.put _)
    have M6 := Lib.hid (show PoseAt ((w6.alloc (.cells #[.int .i64 0, .int .i64 0, .int .i64 0, .int .i64 0, .int .i64 0, .int .i64 0, .int .i64 0, .int .i64 0, .int .i64 0, .int .i64 0, .int .i64 0, .int .i64 0, .int .i64 0, .int .i64 0, .int .i64 0, .int .i64 0, .int .i64 0, .int .i64 0, .int .i64 0, .int .i64 0, .int .i64 0, .int .i64 0, .int .i64 0, .int .i64 0] 29)).setRow w6.heap.size (poseC (shiP (pntV x y z)))) w.heap.size zeroP from (((M3.out.below hb)).alloc _).row (by have := M3.out.lt; have := hb.size; omega))
    have ybz : b < w6.heap.size := by omega
    have S6 := Lib.hid (show Src B ((w6.alloc (.cells #[.int .i64 0, .int .i64 0, .int .i64 0, .int .i64 0, .int .i64 0, .int .i64 0, .int .i64 0, .int .i64 0, .int .i64 0, .int .i64 0, .int .i64 0, .int .i64 0, .int .i64 0, .int .i64 0, .int .i64 0, .int .i64 0, .int .i64 0, .int .i64 0, .int .i64 0, .int .i64 0, .int .i64 0, .int .i64 0, .int .i64 0, .int .i64 0] 29)).setRow w6.heap.size (poseC (shiP (pntV x y z)))) b from (S3.out.below hb).keep (fun q hq => by
      rw [setRow_other _ _ _ _ (by omega)]; exact Go.Deep.blk_alloc_lt _ _ _ (by omega)))
    have K6 := Lib.hid (show But b w ((w6.alloc (.cells #[.int .i64 0, .int .i64 0, .int .i64 0, .int .i64 0, .int .i64 0, .int .i64 0, .int .i64 0, .int .i64 0, .int .i64 0, .int .i64 0, .int .i64 0, .int .i64 0, .int .i64 0, .int .i64 0, .int .i64 0, .int .i64 0, .int .i64 0, .int .i64 0, .int .i64 0, .int .i64 0, .int .i64 0, .int .i64 0, .int .i64 0, .int .i64 0] 29)).setRow w6.heap.size (poseC (shiP (pntV x y z)))) from (KN.alloc _).row (by omega) _)
    have yw : w.heap.size < w6.heap.size := by have := M3.out.lt; have := hb.size; omega
    generalize shiP (pntV x y z) = p0 at hm P6 M6 S6 K6 ⊢
    have HM := Lib.hid hm
    clear hb5 hb6 hb KN S3 M3 K3 hm yk x1 x2 y1 y2 z1 z2
    go_wp2_with (refine wpList_store_row rfl 29 _ _ rfl (w6.heap.size) (poseC (p0)) rfl rfl 29 (poseC zeroP) z0 info_pose rfl (pose_one _) ?_)
    obtain ⟨U, hU⟩ : ∃ U : World, U = (w6.alloc (.cells #[.int .i64 0, .int .i64 0, .int .i64 0, .int .i64 0, .int .i64 0, .int .i64 0, .int .i64 0, .int .i64 0, .int .i64 0, .int .i64 0, .int .i64 0, .int .i64 0, .int .i64 0, .int .i64 0, .int .i64 0, .int .i64 0, .int .i64 0, .int .i64 0, .int .i64 0, .int .i64 0, .int .i64 0, .int .i64 0, .int .i64 0, .int .i64 0] 29)).setRow w6.heap.size (poseC p0) := ⟨_, rfl⟩
    obtain ⟨np, hnp⟩ : ∃ np, np = w6.heap.size := ⟨_, rfl⟩
    rw [← hU] at P6 M6 S6 K6 ⊢
    rw [← hnp] at P6 yw ybz ⊢
    clear hU z0 hnp
    refine (Next_any B b 3 _ S6.out (by decide) (by decide)).mono ?_
    rintro e w7 ⟨k0, k01, k02, rfl, hs7, hb7⟩
    have S7 := Lib.hid hs7
    have P7 := Lib.hid (P6.out.but hb7 (by omega))
    have M7 := Lib.hid (M6.out.but hb7 (by omega))
    have K7 := Lib.hid (K6.out.trans hb7)
    clear hs7 hb7 S6 P6 M6 K6
    go_wp2_with fail
    go_loopw [6] (fun i wr => ∃ (k : Nat) (p : Mo) (tt : W3), k ≤ 2 ∧ i = .int .i64 k ∧ MotI p tt ∧ PoseAt wr w.heap.size zeroP ∧ PoseAt wr np p ∧ Src B wr b ∧ But b w wr) (fun i _ => (intOf i).toNat)
    case atStart =>
      exact ⟨k0.toNat, p0, _, by omega, by rw [Int.toNat_of_nonneg k01], HM.out, M7.out, P7.out, S7.out, K7.out⟩
    case round =>
      clear S7 P7 M7 K7 HM k01 k02
      obtain ⟨k, p, tt, hk, rfl, hm, rm, rp, rs, rb⟩ := hrel
      by_cases h3 : 0 < k
      · have x3 : (0 : Int) < (k : Int) := by omega
        have HP := Lib.hid hm
        have RM := Lib.hid rm
        have RP := Lib.hid rp
        have RS := Lib.hid rs
        have RB := Lib.hid rb
        clear hm rm rp rs rb
        go_wp2_with fail
        refine (Signed_any B b 70000 _ RS.out (by decide) (by decide)).mono ?_
        rintro e w8 ⟨a, a1, a2, rfl, hs8, hb8⟩
        have S8 := Lib.hid hs8
        have M8 := Lib.hid (RM.out.but hb8 (by omega))
        have P8 := Lib.hid (RP.out.but hb8 (by omega))
        have K8 := Lib.hid (RB.out.trans hb8)
        clear hs8 hb8 RM RP RS RB
        go_wp2_with fail
        refine (Next_any B b 4000 _ S8.out (by decide) (by decide)).mono ?_
        rintro e V ⟨ww, ww1, ww2, rfl, hs9, hb9⟩
        have S9 := Lib.hid hs9
        have M9 := Lib.hid (M8.out.but hb9 (by omega))
        have P9 := Lib.hid (P8.out.but hb9 (by omega))
        have K9 := Lib.hid (K8.out.trans hb9)
        clear hs9 hb9 M8 P8 S8 K8
        have hN : But b V V.drew := (But.refl b V).drew
        have hs : Src B V.drew b := S9.out.below (Below.refl _ _).drew
        have hP : PoseAt V.drew np p := P9.out
        have yv := P9.out.lt
        have wr1 : IntKind.i64.wrap (a + ww) = a + ww := by rw [IntKind.wrap_i64]; omega
        have wr2 : IntKind.i64.wrap a = a := by rw [IntKind.wrap_i64]; omega
        go_wp2_with fail
        refine wp_region_held_drew (S := (fun _ => True)) (by kernel_rfl) ?_ (fun hHeld => ?_)
        focus trivial
        refine wpAnyH_take (i := 1) (v := ?_) rfl (by kernel_rfl) (by kernel_rfl) (by kernel_rfl) (fun _ _ _ h => h) (Or.inl ⟨by rfl, ?_⟩) (by assumption) ?_; rotate_left; (focus (intro w hSw; (try dsimp only at hSw); go_simp; try with_reducible rfl)); (try simp only [Act.put, List.getElem_toArray, List.getElem_cons_succ, List.getElem_cons_zero, List.setIfInBounds_toArray, List.set_cons_zero, List.set_cons_succ])
        refine wpAnyH_take (i := 3) (v := ?_) rfl (by kernel_rfl) (by kernel_rfl) (by kernel_rfl) (fun _ _ _ h => h) (Or.inl ⟨by rfl, ?_⟩) (by assumption) ?_; rotate_left; (focus (intro w hSw; (try dsimp only at hSw); go_simp; try with_reducible rfl)); (try simp only [Act.put, List.getElem_toArray, List.getElem_cons_succ, List.getElem_cons_zero, List.setIfInBounds_toArray, List.set_cons_zero, List.set_cons_succ])
        refine wpAnyH_take (i := 4) (v := ?_) rfl (by kernel_rfl) (by kernel_rfl) (by kernel_rfl) (fun _ _ _ h => h) (Or.inl ⟨by rfl, ?_⟩) (by assumption) ?_; rotate_left; (focus (intro w hSw; (try dsimp only at hSw); go_simp; try with_reducible rfl)); (try simp only [Act.put, List.getElem_toArray, List.getElem_cons_succ, List.getElem_cons_zero, List.setIfInBounds_toArray, List.set_cons_zero, List.set_cons_succ])
        refine wpAnyH_take (i := 5) (v := ?_) rfl (by kernel_rfl) (by kernel_rfl) (by kernel_rfl) (fun _ _ _ h => h) (Or.inl ⟨by rfl, ?_⟩) (by assumption) ?_; rotate_left; (focus (intro w hSw; (try dsimp only at hSw); go_simp; try with_reducible rfl)); (try simp only [Act.put, List.getElem_toArray, List.getElem_cons_succ, List.getElem_cons_zero, List.setIfInBounds_toArray, List.set_cons_zero, List.set_cons_succ])
        refine wpAnyH_take (i := 6) (v := ?_) rfl (by kernel_rfl) (by kernel_rfl) (by kernel_rfl) (fun _ _ _ h => h) (Or.inl ⟨by rfl, ?_⟩) (by assumption) ?_; rotate_left; (focus (intro w hSw; (try dsimp only at hSw); go_simp; try with_reducible rfl)); (try simp only [Act.put, List.getElem_toArray, List.getElem_cons_succ, List.getElem_cons_zero, List.setIfInBounds_toArray, List.set_cons_zero, List.set_cons_succ])
        refine wpAnyH_take (i := 7) (v := ?_) rfl (by kernel_rfl) (by kernel_rfl) (by kernel_rfl) (fun _ _ _ h => h) (Or.inl ⟨by rfl, ?_⟩) (by assumption) ?_; rotate_left; (focus (intro w hSw; (try dsimp only at hSw); go_simp; try with_reducible rfl)); (try simp only [Act.put, List.getElem_toArray, List.getElem_cons_succ, List.getElem_cons_zero, List.setIfInBounds_toArray, List.set_cons_zero, List.set_cons_succ])
        refine wpAnyH_ready (rs := [0, 2]) (by kernel_rfl) (by simp) (AllReadyH.cons rfl (fun K hK => ?_) (AllReadyH.cons rfl (fun K hK => ?_) (AllReadyH.nil)))
        · rw [if_pos (by rfl)]; refine wp_load_row 29 _ rfl np rfl 29 _ (0, 0) _ hP under_pose rfl info_pose ?_; refine hK.out _ _ ?_ (fun hHeld => ?_); (focus trivial); clear hK K; (try simp only [Act.put, List.getElem_toArray, List.getElem_cons_succ, List.getElem_cons_zero, List.setIfInBounds_toArray, List.set_cons_zero, List.set_cons_succ])
          refine wpAnyH_ready (rs := [2]) (by kernel_rfl) (by simp) (AllReadyH.cons rfl (fun K hK => ?_) (AllReadyH.nil))
          go_simp; ((go_at_call 27; refine (Next_any B b 3 _ hs (by decide) (by decide)).mono ?_; rintro e w' ⟨ax, ax1, ax2, rfl, hs2, hb2⟩); have hP2 := hP.but hb2 (by omega); clear hP; have hP := hP2; clear hP2; have hN2 := hN.trans hb2; clear hN; have hN := hN2; clear hN2 hs; have hs := hs2; clear hs2 hb2); go_wp2_with fail; refine hK.out _ _ ?_ (fun hHeld => ?_); (focus trivial); clear hK K; (try simp only [Act.put, List.getElem_toArray, List.getElem_cons_succ, List.getElem_cons_zero, List.setIfInBounds_toArray, List.set_cons_zero, List.set_cons_succ])
          refine wpAnyH_ready (rs := [8]) (by kernel_rfl) (by simp) (AllReadyH.cons rfl (fun K hK => ?_) (AllReadyH.nil))
          go_simp; ((go_at_call 19; refine (rTurnP_any ax ⟨a, a⟩ _).mono ?_; rintro e w' ⟨rfl, hb2⟩); have hP2 := hP.below hb2; clear hP; have hP := hP2; clear hP2; have hN2 := hN.trans (But.of_below hb2); clear hN; have hN := hN2; clear hN2; have hs2 := hs.below hb2; clear hs; have hs := hs2; clear hs2 hb2); go_wp2_with fail; refine hK.out _ _ ?_ (fun hHeld => ?_); (focus trivial); clear hK K; (try simp only [Act.put, List.getElem_toArray, List.getElem_cons_succ, List.getElem_cons_zero, List.setIfInBounds_toArray, List.set_cons_zero, List.set_cons_succ])
          refine wpAnyH_ready (rs := [9]) (by kernel_rfl) (by simp) (AllReadyH.cons rfl (fun K hK => ?_) (AllReadyH.nil))
          go_simp; ((go_at_call 21; refine (rComP_any p (trnP ax ⟨a, a⟩) _).mono ?_; rintro e w' ⟨rfl, hb2⟩); have hP2 := hP.below hb2; clear hP; have hP := hP2; clear hP2; have hN2 := hN.trans (But.of_below hb2); clear hN; have hN := hN2; clear hN2; have hs2 := hs.below hb2; clear hs; have hs := hs2; clear hs2 hb2); go_wp2_with fail; refine hK.out _ _ ?_ (fun hHeld => ?_); (focus trivial); clear hK K; (try simp only [Act.put, List.getElem_toArray, List.getElem_cons_succ, List.getElem_cons_zero, List.setIfInBounds_toArray, List.set_cons_zero, List.set_cons_succ])
          refine wpAnyH_ready (rs := [10]) (by kernel_rfl) (by simp) (AllReadyH.cons rfl (fun K hK => ?_) (AllReadyH.nil))
          rw [if_pos (by rfl)]; refine wp_store_row 29 _ _ rfl np (poseC (comP p (trnP ax ⟨a, a⟩))) rfl rfl 29 (poseC p) hP info_pose rfl (pose_one _) ?_; refine hK.out _ _ ?_ (fun hHeld => ?_); (focus trivial); clear hK K; (try simp only [Act.put, List.getElem_toArray, List.getElem_cons_succ, List.getElem_cons_zero, List.setIfInBounds_toArray, List.set_cons_zero, List.set_cons_succ])
          refine wpAnyH_done (by kernel_rfl) ?_ _
          go_wp2_with fail
          go_roundw
          case rel =>
            refine ⟨k - 1, _, tt, by omega, by go_num, mot_turn (k := ax) (a := ⟨a, a⟩) HP.out (by omega) ⟨by dsimp only; omega, by dsimp only; omega, by dsimp only; omega⟩, ?_, hP.put _, ?_, ?_⟩
            · exact (M9.out.but hN (by omega)).row (by omega)
            · exact hs.keep (fun q hq => setRow_other _ _ _ _ (by have := hs.base; omega))
            · exact (K9.out.trans hN).row (by omega) _
          case measure => simp [intOf]; omega
        · go_simp; ((go_at_call 27; refine (Next_any B b 3 _ hs (by decide) (by decide)).mono ?_; rintro e w' ⟨ax, ax1, ax2, rfl, hs2, hb2⟩); have hP2 := hP.but hb2 (by omega); clear hP; have hP := hP2; clear hP2; have hN2 := hN.trans hb2; clear hN; have hN := hN2; clear hN2 hs; have hs := hs2; clear hs2 hb2); go_wp2_with fail; refine hK.out _ _ ?_ (fun hHeld => ?_); (focus trivial); clear hK K; (try simp only [Act.put, List.getElem_toArray, List.getElem_cons_succ, List.getElem_cons_zero, List.setIfInBounds_toArray, List.set_cons_zero, List.set_cons_succ])
          refine wpAnyH_ready (rs := [0, 8]) (by kernel_rfl) (by simp) (AllReadyH.cons rfl (fun K hK => ?_) (AllReadyH.cons rfl (fun K hK => ?_) (AllReadyH.nil)))
          · rw [if_pos (by rfl)]; refine wp_load_row 29 _ rfl np rfl 29 _ (0, 0) _ hP under_pose rfl info_pose ?_; refine hK.out _ _ ?_ (fun hHeld => ?_); (focus trivial); clear hK K; (try simp only [Act.put, List.getElem_toArray, List.getElem_cons_succ, List.getElem_cons_zero, List.setIfInBounds_toArray, List.set_cons_zero, List.set_cons_succ])
            refine wpAnyH_ready (rs := [8]) (by kernel_rfl) (by simp) (AllReadyH.cons rfl (fun K hK => ?_) (AllReadyH.nil))
            go_simp; ((go_at_call 19; refine (rTurnP_any ax ⟨a, a⟩ _).mono ?_; rintro e w' ⟨rfl, hb2⟩); have hP2 := hP.below hb2; clear hP; have hP := hP2; clear hP2; have hN2 := hN.trans (But.of_below hb2); clear hN; have hN := hN2; clear hN2; have hs2 := hs.below hb2; clear hs; have hs := hs2; clear hs2 hb2); go_wp2_with fail; refine hK.out _ _ ?_ (fun hHeld => ?_); (focus trivial); clear hK K; (try simp only [Act.put, List.getElem_toArray, List.getElem_cons_succ, List.getElem_cons_zero, List.setIfInBounds_toArray, List.set_cons_zero, List.set_cons_succ])
            refine wpAnyH_ready (rs := [9]) (by kernel_rfl) (by simp) (AllReadyH.cons rfl (fun K hK => ?_) (AllReadyH.nil))
            go_simp; ((go_at_call 21; refine (rComP_any p (trnP ax ⟨a, a⟩) _).mono ?_; rintro e w' ⟨rfl, hb2⟩); have hP2 := hP.below hb2; clear hP; have hP := hP2; clear hP2; have hN2 := hN.trans (But.of_below hb2); clear hN; have hN := hN2; clear hN2; have hs2 := hs.below hb2; clear hs; have hs := hs2; clear hs2 hb2); go_wp2_with fail; refine hK.out _ _ ?_ (fun hHeld => ?_); (focus trivial); clear hK K; (try simp only [Act.put, List.getElem_toArray, List.getElem_cons_succ, List.getElem_cons_zero, List.setIfInBounds_toArray, List.set_cons_zero, List.set_cons_succ])
            refine wpAnyH_ready (rs := [10]) (by kernel_rfl) (by simp) (AllReadyH.cons rfl (fun K hK => ?_) (AllReadyH.nil))
            rw [if_pos (by rfl)]; refine wp_store_row 29 _ _ rfl np (poseC (comP p (trnP ax ⟨a, a⟩))) rfl rfl 29 (poseC p) hP info_pose rfl (pose_one _) ?_; refine hK.out _ _ ?_ (fun hHeld => ?_); (focus trivial); clear hK K; (try simp only [Act.put, List.getElem_toArray, List.getElem_cons_succ, List.getElem_cons_zero, List.setIfInBounds_toArray, List.set_cons_zero, List.set_cons_succ])
            refine wpAnyH_done (by kernel_rfl) ?_ _
            go_wp2_with fail
            go_roundw
            case rel =>
              refine ⟨k - 1, _, tt, by omega, by go_num, mot_turn (k := ax) (a := ⟨a, a⟩) HP.out (by omega) ⟨by dsimp only; omega, by dsimp only; omega, by dsimp only; omega⟩, ?_, hP.put _, ?_, ?_⟩
              · exact (M9.out.but hN (by omega)).row (by omega)
              · exact hs.keep (fun q hq => setRow_other _ _ _ _ (by have := hs.base; omega))
              · exact (K9.out.trans hN).row (by omega) _
            case measure => simp [intOf]; omega
          · go_simp; ((go_at_call 19; refine (rTurnP_any ax ⟨a, a⟩ _).mono ?_; rintro e w' ⟨rfl, hb2⟩); have hP2 := hP.below hb2; clear hP; have hP := hP2; clear hP2; have hN2 := hN.trans (But.of_below hb2); clear hN; have hN := hN2; clear hN2; have hs2 := hs.below hb2; clear hs; have hs := hs2; clear hs2 hb2); go_wp2_with fail; refine hK.out _ _ ?_ (fun hHeld => ?_); (focus trivial); clear hK K; (try simp only [Act.put, List.getElem_toArray, List.getElem_cons_succ, List.getElem_cons_zero, List.setIfInBounds_toArray, List.set_cons_zero, List.set_cons_succ])
            refine wpAnyH_ready (rs := [0]) (by kernel_rfl) (by simp) (AllReadyH.cons rfl (fun K hK => ?_) (AllReadyH.nil))
            rw [if_pos (by rfl)]; refine wp_load_row 29 _ rfl np rfl 29 _ (0, 0) _ hP under_pose rfl info_pose ?_; refine hK.out _ _ ?_ (fun hHeld => ?_); (focus trivial); clear hK K; (try simp only [Act.put, List.getElem_toArray, List.getElem_cons_succ, List.getElem_cons_zero, List.setIfInBounds_toArray, List.set_cons_zero, List.set_cons_succ])
            refine wpAnyH_ready (rs := [9]) (by kernel_rfl) (by simp) (AllReadyH.cons rfl (fun K hK => ?_) (AllReadyH.nil))
            go_simp; ((go_at_call 21; refine (rComP_any p (trnP ax ⟨a, a⟩) _).mono ?_; rintro e w' ⟨rfl, hb2⟩); have hP2 := hP.below hb2; clear hP; have hP := hP2; clear hP2; have hN2 := hN.trans (But.of_below hb2); clear hN; have hN := hN2; clear hN2; have hs2 := hs.below hb2; clear hs; have hs := hs2; clear hs2 hb2); go_wp2_with fail; refine hK.out _ _ ?_ (fun hHeld => ?_); (focus trivial); clear hK K; (try simp only [Act.put, List.getElem_toArray, List.getElem_cons_succ, List.getElem_cons_zero, List.setIfInBounds_toArray, List.set_cons_zero, List.set_cons_succ])
            refine wpAnyH_ready (rs := [10]) (by kernel_rfl) (by simp) (AllReadyH.cons rfl (fun K hK => ?_) (AllReadyH.nil))
            rw [if_pos (by rfl)]; refine wp_store_row 29 _ _ rfl np (poseC (comP p (trnP ax ⟨a, a⟩))) rfl rfl 29 (poseC p) hP info_pose rfl (pose_one _) ?_; refine hK.out _ _ ?_ (fun hHeld => ?_); (focus trivial); clear hK K; (try simp only [Act.put, List.getElem_toArray, List.getElem_cons_succ, List.getElem_cons_zero, List.setIfInBounds_toArray, List.set_cons_zero, List.set_cons_succ])
            refine wpAnyH_done (by kernel_rfl) ?_ _
            go_wp2_with fail
            go_roundw
            case rel =>
              refine ⟨k - 1, _, tt, by omega, by go_num, mot_turn (k := ax) (a := ⟨a, a⟩) HP.out (by omega) ⟨by dsimp only; omega, by dsimp only; omega, by dsimp only; omega⟩, ?_, hP.put _, ?_, ?_⟩
              · exact (M9.out.but hN (by omega)).row (by omega)
              · exact hs.keep (fun q hq => setRow_other _ _ _ _ (by have := hs.base; omega))
              · exact (K9.out.trans hN).row (by omega) _
            case measure => simp [intOf]; omega
      · obtain rfl : k = 0 := by omega
        have hst := store_pose (P := Try.prog) p rm
        go_wp2_with (first | (refine wpList_load_row rfl 29 _ rfl np rfl 29 _ (0, 0) _ rp under_pose rfl info_pose ?_))
        (try simp only [Exit.inBlock, Exit.then])
        refine bodyPost_ret (v := .agg (poseC p)) ?_ rfl ⟨p, tt, hm, rfl, rs.keep (fun q hq => setRow_other _ _ _ _ (by have := rs.base; omega)), rb.row (Nat.le_refl _) _⟩
        exact results_cell_row rfl _ _ w.heap.size 29 _ (0, 0) _ rfl (rm.put _) under_pose rfl info_pose
end Go.Proofs.Ytdplgiccpjlelaa
