/- Proved: the statement MatrixOrthogonal returns true. Conditions: as each theorem states. -/
import Derived.Test.YtdaeacakgpjjgaaMtK
namespace Go.Proofs.Ytdaeacakgpjjgaa
open Go.RowKit

set_option linter.unusedSimpArgs false in
set_option linter.unusedVariables false in
set_option maxRecDepth 100000 in
set_option maxHeartbeats 12800000 in
theorem MatrixOrthogonal_any (ao : Option Addr) (n cap : Nat) (w : World) (l : ListAt w ao n) :
    Calls Try.prog 8 #[ .slice ao n cap ] w fun e w' => e = .returned (.bool true) ∧ Below w.heap.size w w' := by
  have hl := Lib.hid l
  clear l
  go_enter Try.func8, Try.ntmps8
  go_wp2_with fail
  refine (From_any ao n cap _).mono ?_
  rintro e w1 ⟨rfl, hs0, hb1⟩
  have hs := src_of hl.out hb1 hs0
  obtain ⟨b, hbz⟩ : ∃ b, b = w.heap.size := ⟨_, rfl⟩
  have kb1 := Lib.hid hb1
  have q := hb1.size
  rw [← hbz] at hs ⊢
  have qb : w.heap.size ≤ b := by omega
  have qs := hs.lt
  have S1 := Lib.hid hs
  clear hs0 hb1 hl hbz hs
  go_wp2_with fail
  refine (Next_any b b 3 _ S1.out (by decide) (by decide)).mono ?_
  rintro e w2 ⟨j, j1, j2, rfl, hs2, hb2⟩
  have S2 := Lib.hid hs2
  have N2 := Lib.hid hb2
  clear hs2 hb2 S1
  go_wp2_with fail
  refine (Signed_any b b 70000 _ S2.out (by decide) (by decide)).mono ?_
  rintro e w3 ⟨x, x1, x2, rfl, hs3, hb3⟩
  have S3 := Lib.hid hs3
  have N3 := Lib.hid (N2.out.trans hb3)
  clear hs3 hb3 S2 N2
  go_wp2_with fail
  refine (rOf_any x _).mono ?_
  rintro e w4 ⟨rfl, hb4⟩
  go_wp2_with fail
  refine (mTurn_any j (ofI x) _).mono ?_
  rintro e w5 ⟨rfl, hb5⟩
  have h5 := below_next hb5 hb4
  have S5 := Lib.hid (S3.out.below h5)
  have N5 := Lib.hid (N3.out.trans (But.of_below h5))
  clear hb4 hb5 h5 S3 N3
  go_wp2_with fail
  refine (Next_any b b 3 _ S5.out (by decide) (by decide)).mono ?_
  rintro e w6 ⟨k, k1, k2, rfl, hs6, hb6⟩
  have S6 := Lib.hid hs6
  have N6 := Lib.hid (N5.out.trans hb6)
  clear hs6 hb6 S5 N5
  go_wp2_with fail
  refine (Signed_any b b 70000 _ S6.out (by decide) (by decide)).mono ?_
  rintro e w7 ⟨y, y1, y2, rfl, hs7, hb7⟩
  have N7 := Lib.hid (N6.out.trans hb7)
  clear hs7 hb7 S6 N6
  have hO := orthogonal (j := j) (k := k) (m := x) (n := y) (by omega) (by omega) (by omega) (by omega) (by omega) (by omega)
  obtain ⟨M, eM⟩ : ∃ M, comM (trnM j (ofI x)) (trnM k (ofI y)) = M := ⟨_, rfl⟩
  rw [eM] at hO
  obtain ⟨T, eT⟩ : ∃ T, traM M = T := ⟨_, rfl⟩
  rw [eT] at hO
  obtain ⟨X, eX⟩ : ∃ X, comM M T = X := ⟨_, rfl⟩
  rw [eX] at hO
  obtain ⟨Y, eY⟩ : ∃ Y, comM T M = Y := ⟨_, rfl⟩
  rw [eY] at hO
  have EM := Lib.hid eM
  have ET := Lib.hid eT
  have EX := Lib.hid eX
  have EY := Lib.hid eY
  have HO := Lib.hid hO
  clear eM eT eX eY hO j1 j2 k1 k2 x1 x2 y1 y2
  go_wp2_with fail
  refine (rOf_any y _).mono ?_
  rintro e w8 ⟨rfl, hb8⟩
  go_wp2_with fail
  refine (mTurn_any k (ofI y) _).mono ?_
  rintro e w9 ⟨rfl, hb9⟩
  have h9 := below_next hb9 hb8
  clear hb8 hb9
  go_wp2_with fail
  refine (mCompose_as _ EM.out).mono ?_
  rintro e w10 ⟨rfl, hb10⟩
  have h10 := below_next hb10 h9
  have N10 := N7.out.trans (But.of_below h10)
  have kb2 := Lib.hid (below_alloc (N10.below kb1.out (by omega) (by omega)) (.cells #[.int .i64 ((M).x).x.lo, .int .i64 ((M).x).x.hi, .int .i64 ((M).x).y.lo, .int .i64 ((M).x).y.hi, .int .i64 ((M).x).z.lo, .int .i64 ((M).x).z.hi, .int .i64 ((M).y).x.lo, .int .i64 ((M).y).x.hi, .int .i64 ((M).y).y.lo, .int .i64 ((M).y).y.hi, .int .i64 ((M).y).z.lo, .int .i64 ((M).y).z.hi, .int .i64 ((M).z).x.lo, .int .i64 ((M).z).x.hi, .int .i64 ((M).z).y.lo, .int .i64 ((M).z).y.hi, .int .i64 ((M).z).z.lo, .int .i64 ((M).z).z.hi] 28))
  have M0 := Lib.hid (MatAt.new w10 M)
  clear hb10 h9 h10 N7 N10 kb1
  go_wp2_with fail
  obtain ⟨V, hV⟩ : ∃ V : World, V = w10.alloc (.cells #[.int .i64 ((M).x).x.lo, .int .i64 ((M).x).x.hi, .int .i64 ((M).x).y.lo, .int .i64 ((M).x).y.hi, .int .i64 ((M).x).z.lo, .int .i64 ((M).x).z.hi, .int .i64 ((M).y).x.lo, .int .i64 ((M).y).x.hi, .int .i64 ((M).y).y.lo, .int .i64 ((M).y).y.hi, .int .i64 ((M).y).z.lo, .int .i64 ((M).y).z.hi, .int .i64 ((M).z).x.lo, .int .i64 ((M).z).x.hi, .int .i64 ((M).z).y.lo, .int .i64 ((M).z).y.hi, .int .i64 ((M).z).z.lo, .int .i64 ((M).z).z.hi] 28) := ⟨_, rfl⟩
  rw [← hV] at kb2 M0 ⊢
  clear hV
  refine wp_region_held_drew (S := (fun w3 => Below V.heap.size V w3)) (by kernel_rfl) ?_ (fun hHeld => ?_)
  focus (with_reducible first | exact (Below.refl _ _).drew | exact below_next hb2 hHeld)
  refine wpAnyH_ready (rs := [0]) (by kernel_rfl) (by simp) (AllReadyH.cons rfl (fun K hK => ?_) AllReadyH.nil); go_simp; ((go_at_call 12; refine (mAwake_any _).mono ?_; rintro e w' ⟨rfl, hb2⟩)); go_wp2_with fail; refine hK.out _ _ ?_ (fun hHeld => ?_); (focus (with_reducible first | exact (Below.refl _ _).drew | exact below_next hb2 hHeld)); clear hK K; (try simp only [Act.put, List.getElem_toArray, List.getElem_cons_succ, List.getElem_cons_zero, List.setIfInBounds_toArray, List.set_cons_zero, List.set_cons_succ])
  refine wpAnyH_take (i := 1) (v := ?_) rfl (by kernel_rfl) (by kernel_rfl) (by kernel_rfl) (fun _ _ _ h => h) (Or.inl ⟨by rfl, ?_⟩) (by assumption) ?_; rotate_left; (focus (intro w hSw; (try dsimp only at hSw); go_simp; try with_reducible rfl)); (try simp only [Act.put, List.getElem_toArray, List.getElem_cons_succ, List.getElem_cons_zero, List.setIfInBounds_toArray, List.set_cons_zero, List.set_cons_succ])
  refine wpAnyH_take (i := 3) (v := .agg #[.int .i64 ((M).x).x.lo, .int .i64 ((M).x).x.hi, .int .i64 ((M).x).y.lo, .int .i64 ((M).x).y.hi, .int .i64 ((M).x).z.lo, .int .i64 ((M).x).z.hi, .int .i64 ((M).y).x.lo, .int .i64 ((M).y).x.hi, .int .i64 ((M).y).y.lo, .int .i64 ((M).y).y.hi, .int .i64 ((M).y).z.lo, .int .i64 ((M).y).z.hi, .int .i64 ((M).z).x.lo, .int .i64 ((M).z).x.hi, .int .i64 ((M).z).y.lo, .int .i64 ((M).z).y.hi, .int .i64 ((M).z).z.lo, .int .i64 ((M).z).z.hi]) rfl (by kernel_rfl) (by kernel_rfl) (by kernel_rfl) (fun _ _ _ h => h) (yieldsIf_load_row (by rfl) 28 _ rfl (w10.heap.size) (by rfl) 28 _ (0, 0) _ (fun _ h => M0.out.below h) under_mat rfl info_mat) (by assumption) ?_; (try simp only [Act.put, List.getElem_toArray, List.getElem_cons_succ, List.getElem_cons_zero, List.setIfInBounds_toArray, List.set_cons_zero, List.set_cons_succ])
  refine wpAnyH_take (i := 4) (v := .agg #[.int .i64 ((M).x).x.lo, .int .i64 ((M).x).x.hi, .int .i64 ((M).x).y.lo, .int .i64 ((M).x).y.hi, .int .i64 ((M).x).z.lo, .int .i64 ((M).x).z.hi, .int .i64 ((M).y).x.lo, .int .i64 ((M).y).x.hi, .int .i64 ((M).y).y.lo, .int .i64 ((M).y).y.hi, .int .i64 ((M).y).z.lo, .int .i64 ((M).y).z.hi, .int .i64 ((M).z).x.lo, .int .i64 ((M).z).x.hi, .int .i64 ((M).z).y.lo, .int .i64 ((M).z).y.hi, .int .i64 ((M).z).z.lo, .int .i64 ((M).z).z.hi]) rfl (by kernel_rfl) (by kernel_rfl) (by kernel_rfl) (fun _ _ _ h => h) (yieldsIf_load_row (by rfl) 28 _ rfl (w10.heap.size) (by rfl) 28 _ (0, 0) _ (fun _ h => M0.out.below h) under_mat rfl info_mat) (by assumption) ?_; (try simp only [Act.put, List.getElem_toArray, List.getElem_cons_succ, List.getElem_cons_zero, List.setIfInBounds_toArray, List.set_cons_zero, List.set_cons_succ])
  refine wpAnyH_ready (rs := [2]) (by kernel_rfl) (by simp) (AllReadyH.cons rfl (fun K hK => ?_) AllReadyH.nil); go_simp; ((go_at_call 22; refine (rUnit_any _).mono ?_; rintro e w' ⟨rfl, hb2⟩)); go_wp2_with fail; refine hK.out _ _ ?_ (fun hHeld => ?_); (focus (with_reducible first | exact (Below.refl _ _).drew | exact below_next hb2 hHeld)); clear hK K; (try simp only [Act.put, List.getElem_toArray, List.getElem_cons_succ, List.getElem_cons_zero, List.setIfInBounds_toArray, List.set_cons_zero, List.set_cons_succ])
  refine wpAnyH_ready (rs := [5]) (by kernel_rfl) (by simp) (AllReadyH.cons rfl (fun K hK => ?_) AllReadyH.nil); go_simp; ((go_at_call 35; refine (mTranspose_as _ ET.out).mono ?_; rintro e w' ⟨rfl, hb2⟩)); go_wp2_with fail; refine hK.out _ _ ?_ (fun hHeld => ?_); (focus (with_reducible first | exact (Below.refl _ _).drew | exact below_next hb2 hHeld)); clear hK K; (try simp only [Act.put, List.getElem_toArray, List.getElem_cons_succ, List.getElem_cons_zero, List.setIfInBounds_toArray, List.set_cons_zero, List.set_cons_succ])
  refine wpAnyH_ready (rs := [6]) (by kernel_rfl) (by simp) (AllReadyH.cons rfl (fun K hK => ?_) AllReadyH.nil); go_simp; ((go_at_call 30; refine (mCompose_as _ EX.out).mono ?_; rintro e w' ⟨rfl, hb2⟩)); go_wp2_with fail; refine hK.out _ _ ?_ (fun hHeld => ?_); (focus (with_reducible first | exact (Below.refl _ _).drew | exact below_next hb2 hHeld)); clear hK K; (try simp only [Act.put, List.getElem_toArray, List.getElem_cons_succ, List.getElem_cons_zero, List.setIfInBounds_toArray, List.set_cons_zero, List.set_cons_succ])
  refine wpAnyH_ready (rs := [7]) (by kernel_rfl) (by simp) (AllReadyH.cons rfl (fun K hK => ?_) AllReadyH.nil); go_simp; ((go_at_call 27; refine (mWithinMat_as _ HO.out.1).mono ?_; rintro e w' ⟨rfl, hb2⟩)); go_wp2_with fail; refine hK.out _ _ ?_ (fun hHeld => ?_); (focus (with_reducible first | exact (Below.refl _ _).drew | exact below_next hb2 hHeld)); clear hK K; (try simp only [Act.put, List.getElem_toArray, List.getElem_cons_succ, List.getElem_cons_zero, List.setIfInBounds_toArray, List.set_cons_zero, List.set_cons_succ])
  refine wpAnyH_take (i := 8) (v := ?_) rfl (by kernel_rfl) (by kernel_rfl) (by kernel_rfl) (fun _ _ _ h => h) (Or.inl ⟨by rfl, ?_⟩) (by assumption) ?_; rotate_left; (focus (intro w hSw; (try dsimp only at hSw); go_simp; try with_reducible rfl)); (try simp only [Act.put, List.getElem_toArray, List.getElem_cons_succ, List.getElem_cons_zero, List.setIfInBounds_toArray, List.set_cons_zero, List.set_cons_succ])
  refine wpAnyH_take (i := 9) (v := ?_) rfl (by kernel_rfl) (by kernel_rfl) (by kernel_rfl) (fun _ _ _ h => h) (Or.inl ⟨by rfl, ?_⟩) (by assumption) ?_; rotate_left; (focus (intro w hSw; (try dsimp only at hSw); go_simp; try with_reducible rfl)); (try simp only [Act.put, List.getElem_toArray, List.getElem_cons_succ, List.getElem_cons_zero, List.setIfInBounds_toArray, List.set_cons_zero, List.set_cons_succ])
  refine wpAnyH_take (i := 11) (v := .agg #[.int .i64 ((M).x).x.lo, .int .i64 ((M).x).x.hi, .int .i64 ((M).x).y.lo, .int .i64 ((M).x).y.hi, .int .i64 ((M).x).z.lo, .int .i64 ((M).x).z.hi, .int .i64 ((M).y).x.lo, .int .i64 ((M).y).x.hi, .int .i64 ((M).y).y.lo, .int .i64 ((M).y).y.hi, .int .i64 ((M).y).z.lo, .int .i64 ((M).y).z.hi, .int .i64 ((M).z).x.lo, .int .i64 ((M).z).x.hi, .int .i64 ((M).z).y.lo, .int .i64 ((M).z).y.hi, .int .i64 ((M).z).z.lo, .int .i64 ((M).z).z.hi]) rfl (by kernel_rfl) (by kernel_rfl) (by kernel_rfl) (fun _ _ _ h => h) (yieldsIf_load_row (by rfl) 28 _ rfl (w10.heap.size) (by rfl) 28 _ (0, 0) _ (fun _ h => M0.out.below h) under_mat rfl info_mat) (by assumption) ?_; (try simp only [Act.put, List.getElem_toArray, List.getElem_cons_succ, List.getElem_cons_zero, List.setIfInBounds_toArray, List.set_cons_zero, List.set_cons_succ])
  refine wpAnyH_take (i := 13) (v := .agg #[.int .i64 ((M).x).x.lo, .int .i64 ((M).x).x.hi, .int .i64 ((M).x).y.lo, .int .i64 ((M).x).y.hi, .int .i64 ((M).x).z.lo, .int .i64 ((M).x).z.hi, .int .i64 ((M).y).x.lo, .int .i64 ((M).y).x.hi, .int .i64 ((M).y).y.lo, .int .i64 ((M).y).y.hi, .int .i64 ((M).y).z.lo, .int .i64 ((M).y).z.hi, .int .i64 ((M).z).x.lo, .int .i64 ((M).z).x.hi, .int .i64 ((M).z).y.lo, .int .i64 ((M).z).y.hi, .int .i64 ((M).z).z.lo, .int .i64 ((M).z).z.hi]) rfl (by kernel_rfl) (by kernel_rfl) (by kernel_rfl) (fun _ _ _ h => h) (yieldsIf_load_row (by rfl) 28 _ rfl (w10.heap.size) (by rfl) 28 _ (0, 0) _ (fun _ h => M0.out.below h) under_mat rfl info_mat) (by assumption) ?_; (try simp only [Act.put, List.getElem_toArray, List.getElem_cons_succ, List.getElem_cons_zero, List.setIfInBounds_toArray, List.set_cons_zero, List.set_cons_succ])
  refine wpAnyH_ready (rs := [10]) (by kernel_rfl) (by simp) (AllReadyH.cons rfl (fun K hK => ?_) AllReadyH.nil); go_simp; ((go_at_call 22; refine (rUnit_any _).mono ?_; rintro e w' ⟨rfl, hb2⟩)); go_wp2_with fail; refine hK.out _ _ ?_ (fun hHeld => ?_); (focus (with_reducible first | exact (Below.refl _ _).drew | exact below_next hb2 hHeld)); clear hK K; (try simp only [Act.put, List.getElem_toArray, List.getElem_cons_succ, List.getElem_cons_zero, List.setIfInBounds_toArray, List.set_cons_zero, List.set_cons_succ])
  refine wpAnyH_ready (rs := [12]) (by kernel_rfl) (by simp) (AllReadyH.cons rfl (fun K hK => ?_) AllReadyH.nil); go_simp; ((go_at_call 35; refine (mTranspose_as _ ET.out).mono ?_; rintro e w' ⟨rfl, hb2⟩)); go_wp2_with fail; refine hK.out _ _ ?_ (fun hHeld => ?_); (focus (with_reducible first | exact (Below.refl _ _).drew | exact below_next hb2 hHeld)); clear hK K; (try simp only [Act.put, List.getElem_toArray, List.getElem_cons_succ, List.getElem_cons_zero, List.setIfInBounds_toArray, List.set_cons_zero, List.set_cons_succ])
  refine wpAnyH_ready (rs := [14]) (by kernel_rfl) (by simp) (AllReadyH.cons rfl (fun K hK => ?_) AllReadyH.nil); go_simp; ((go_at_call 30; refine (mCompose_as _ EY.out).mono ?_; rintro e w' ⟨rfl, hb2⟩)); go_wp2_with fail; refine hK.out _ _ ?_ (fun hHeld => ?_); (focus (with_reducible first | exact (Below.refl _ _).drew | exact below_next hb2 hHeld)); clear hK K; (try simp only [Act.put, List.getElem_toArray, List.getElem_cons_succ, List.getElem_cons_zero, List.setIfInBounds_toArray, List.set_cons_zero, List.set_cons_succ])
  refine wpAnyH_ready (rs := [15]) (by kernel_rfl) (by simp) (AllReadyH.cons rfl (fun K hK => ?_) AllReadyH.nil); go_simp; ((go_at_call 27; refine (mWithinMat_as _ HO.out.2).mono ?_; rintro e w' ⟨rfl, hb2⟩)); go_wp2_with fail; refine hK.out _ _ ?_ (fun hHeld => ?_); (focus (with_reducible first | exact (Below.refl _ _).drew | exact below_next hb2 hHeld)); clear hK K; (try simp only [Act.put, List.getElem_toArray, List.getElem_cons_succ, List.getElem_cons_zero, List.setIfInBounds_toArray, List.set_cons_zero, List.set_cons_succ])
  refine wpAnyH_take (i := 16) (v := ?_) rfl (by kernel_rfl) (by kernel_rfl) (by kernel_rfl) (fun _ _ _ h => h) (Or.inl ⟨by rfl, ?_⟩) (by assumption) ?_; rotate_left; (focus (intro w hSw; (try dsimp only at hSw); go_simp; try with_reducible rfl)); (try simp only [Act.put, List.getElem_toArray, List.getElem_cons_succ, List.getElem_cons_zero, List.setIfInBounds_toArray, List.set_cons_zero, List.set_cons_succ])
  refine wpAnyH_take (i := 17) (v := ?_) rfl (by kernel_rfl) (by kernel_rfl) (by kernel_rfl) (fun _ _ _ h => h) (Or.inl ⟨by rfl, ?_⟩) (by assumption) ?_; rotate_left; (focus (intro w hSw; (try dsimp only at hSw); go_simp; try with_reducible rfl)); (try simp only [Act.put, List.getElem_toArray, List.getElem_cons_succ, List.getElem_cons_zero, List.setIfInBounds_toArray, List.set_cons_zero, List.set_cons_succ])
  refine wpAnyH_done (by kernel_rfl) ?_ _
  go_wp2_with fail
  go_ret
  exact ⟨rfl, below_next hHeld kb2.out⟩
end Go.Proofs.Ytdaeacakgpjjgaa
