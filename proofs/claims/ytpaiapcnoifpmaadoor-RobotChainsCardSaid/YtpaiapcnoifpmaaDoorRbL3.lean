/- Proved: the statement RobotChains returns true, over the contracts of the developers' functions. Conditions: as each theorem states. -/
import Derived.Test.YtpaiapcnoifpmaaDoorRc4
import Derived.Test.YtpaiapcnoifpmaaDoorRbA
namespace Go.Proofs.YtpaiapcnoifpmaaDoor
open Go.RowKit

set_option linter.unusedSimpArgs false in
set_option linter.unusedVariables false in
set_option maxRecDepth 100000 in
set_option maxHeartbeats 6400000 in
theorem chains8_any (js : List JointD) (ms : List MassD) (vj vm : Value) (nm : ByteArray) (a b : Int) (w : World) (hr : RobD w vj vm js ms) (ha : I64 a) (hb : I64 b) :
    Calls Tryd.prog 21 #[ .agg #[vj, vm], .string nm, .int .i64 a, .int .i64 b ] w fun e w' => e = .returned (.bool true) ∧ Below w.heap.size w w' := by
  have HR := Lib.hid hr
  obtain ⟨Aj, cj, rfl, hcj, _⟩ := hr.rj.joint
  obtain ⟨Am, cm, rfl, hcm, _⟩ := hr.rm.mass
  have lj := hr.lj
  clear hr
  have hR := RobAt.box (V := w) (vj := .slice Aj js.length cj) (vm := .slice Am ms.length cm) rfl
  have hB0 := (Below.refl w.heap.size w).alloc (Nat.le_refl _) (.cells #[.slice Aj js.length cj, .slice Am ms.length cm] 25)
  have HD := Lib.hid (HR.out.below hB0 (Nat.le_refl _))
  have HB := Lib.hid hB0
  clear hB0
  obtain ⟨f, hf⟩ : ∃ f, findK js nm = f := ⟨_, rfl⟩
  have HF := Lib.hid hf
  obtain ⟨rg, hg⟩ : ∃ f, rigidR js ms a b = f := ⟨_, rfl⟩
  have HG := Lib.hid hg
  clear hf hg
  go_enter Tryd.func21, Tryd.ntmps21
  go_wp2_with fail
  obtain ⟨V, hV⟩ : ∃ V, w.alloc (.cells #[.slice Aj js.length cj, .slice Am ms.length cm] 25) = V := ⟨_, rfl⟩
  rw [hV] at hR HD HB ⊢
  clear hV
  have hq := hR.lt
  have HRV := Lib.hid hR
  have rr0 : ∀ w' : World, Below V.heap.size V w' → w'.cell? ⟨w.heap.size, 0, none⟩ = some (.slice Aj js.length cj) := fun w' hb => (hb.cell (p := ⟨w.heap.size, 0, none⟩) hq).trans HRV.out.c0
  have rr1 : ∀ w' : World, Below V.heap.size V w' → w'.cell? ⟨w.heap.size, 1, none⟩ = some (.slice Am ms.length cm) := fun w' hb => (hb.cell (p := ⟨w.heap.size, 1, none⟩) hq).trans HRV.out.c1
  clear hR
  refine wp_region_held_drew (S := (fun w3 => Below V.heap.size V w3)) (by kernel_rfl) ?_ (fun hHeld => ?_)
  focus (repeat (first | assumption | exact Below.refl _ _ | refine Below.drew ?_ | refine bl_next hb35 ?_ | refine bl_next hb31 ?_ | refine bl_next hb25 ?_ | refine bl_next hb24 ?_ | refine bl_next hb20 ?_ | refine bl_next hb14 ?_ | refine bl_next hb13 ?_ | refine bl_next hb10 ?_ | refine bl_next hb5 ?_ | refine bl_next hb2 ?_))
  refine wpAnyH_take (i := 0) (v := ?_) rfl (by kernel_rfl) (by kernel_rfl) (by kernel_rfl) (fun _ _ _ h => h) (Or.inl ⟨by rfl, ?_⟩) (by assumption) ?_; rotate_left; (focus (intro w hSw; (try dsimp only at hSw); go_simp; try with_reducible rfl)); (try simp only [Act.put, List.getElem_toArray, List.getElem_cons_succ, List.getElem_cons_zero, List.setIfInBounds_toArray, List.set_cons_zero, List.set_cons_succ])
  refine wpAnyH_take (i := 1) (v := ?_) rfl (by kernel_rfl) (by kernel_rfl) (by kernel_rfl) (fun _ _ _ h => h) (Or.inl ⟨by rfl, ?_⟩) (by assumption) ?_; rotate_left; (focus (intro w hSw; (try dsimp only at hSw); go_simp; try with_reducible rfl)); (try simp only [Act.put, List.getElem_toArray, List.getElem_cons_succ, List.getElem_cons_zero, List.setIfInBounds_toArray, List.set_cons_zero, List.set_cons_succ])
  refine wpAnyH_take (i := 3) (v := ?_) rfl (by kernel_rfl) (by kernel_rfl) (by kernel_rfl) (fun _ _ _ h => h) (Or.inl ⟨by rfl, ?_⟩) (by assumption) ?_; rotate_left; (focus (intro w hSw; (try dsimp only at hSw); go_simp; try with_reducible rfl)); (try simp only [Act.put, List.getElem_toArray, List.getElem_cons_succ, List.getElem_cons_zero, List.setIfInBounds_toArray, List.set_cons_zero, List.set_cons_succ])
  refine wpAnyH_take (i := 4) (v := ?_) rfl (by kernel_rfl) (by kernel_rfl) (by kernel_rfl) (fun _ _ _ h => h) (Or.inl ⟨by rfl, ?_⟩) (by assumption) ?_; rotate_left; (focus (intro w hSw; (try dsimp only at hSw); go_simp; try with_reducible rfl)); (try simp only [Act.put, List.getElem_toArray, List.getElem_cons_succ, List.getElem_cons_zero, List.setIfInBounds_toArray, List.set_cons_zero, List.set_cons_succ])
  refine wpAnyH_ready (rs := [2]) (by kernel_rfl) (by simp) (AllReadyH.cons rfl (fun K hK => ?_) AllReadyH.nil); go_simp; (refine (sFind_any js ms _ _ nm _ (HD.out.below (by assumption) (Nat.le_refl _))).mono ?_; rintro e w2 ⟨rfl, hb2⟩; rw [HF.out]); go_wp2_with fail; refine hK.out _ _ ?_ (fun hHeld => ?_); (focus (repeat (first | assumption | exact Below.refl _ _ | refine Below.drew ?_ | refine bl_next hb35 ?_ | refine bl_next hb31 ?_ | refine bl_next hb25 ?_ | refine bl_next hb24 ?_ | refine bl_next hb20 ?_ | refine bl_next hb14 ?_ | refine bl_next hb13 ?_ | refine bl_next hb10 ?_ | refine bl_next hb5 ?_ | refine bl_next hb2 ?_))); clear hK K; (try simp only [Act.put, List.getElem_toArray, List.getElem_cons_succ, List.getElem_cons_zero, List.setIfInBounds_toArray, List.set_cons_zero, List.set_cons_succ])
  refine wpAnyH_ready (rs := [5]) (by kernel_rfl) (by simp) (AllReadyH.cons rfl (fun K hK => ?_) AllReadyH.nil); go_simp; (refine (rFind_all js ms _ _ nm _ (HD.out.below (by assumption) (Nat.le_refl _))).mono ?_; rintro e w5 ⟨rfl, hb5⟩; rw [HF.out]); go_wp2_with fail; refine hK.out _ _ ?_ (fun hHeld => ?_); (focus (repeat (first | assumption | exact Below.refl _ _ | refine Below.drew ?_ | refine bl_next hb35 ?_ | refine bl_next hb31 ?_ | refine bl_next hb25 ?_ | refine bl_next hb24 ?_ | refine bl_next hb20 ?_ | refine bl_next hb14 ?_ | refine bl_next hb13 ?_ | refine bl_next hb10 ?_ | refine bl_next hb5 ?_ | refine bl_next hb2 ?_))); clear hK K; (try simp only [Act.put, List.getElem_toArray, List.getElem_cons_succ, List.getElem_cons_zero, List.setIfInBounds_toArray, List.set_cons_zero, List.set_cons_succ])
  refine wpAnyH_take (i := 6) (v := ?_) rfl (by kernel_rfl) (by kernel_rfl) (by kernel_rfl) (fun _ _ _ h => h) (Or.inl ⟨by rfl, ?_⟩) (by assumption) ?_; rotate_left; (focus (intro w hSw; (try dsimp only at hSw); go_simp; try with_reducible rfl)); (try simp only [Act.put, List.getElem_toArray, List.getElem_cons_succ, List.getElem_cons_zero, List.setIfInBounds_toArray, List.set_cons_zero, List.set_cons_succ])
  refine wpAnyH_take (i := 7) (v := ?_) rfl (by kernel_rfl) (by kernel_rfl) (by kernel_rfl) (fun _ _ _ h => h) (Or.inl ⟨by rfl, ?_⟩) (by assumption) ?_; rotate_left; (focus (intro w hSw; (try dsimp only at hSw); go_simp; try with_reducible rfl)); (try simp only [Act.put, List.getElem_toArray, List.getElem_cons_succ, List.getElem_cons_zero, List.setIfInBounds_toArray, List.set_cons_zero, List.set_cons_succ])
  refine wpAnyH_take (i := 8) (v := ?_) rfl (by kernel_rfl) (by kernel_rfl) (by kernel_rfl) (fun _ _ _ h => h) (Or.inl ⟨by rfl, ?_⟩) (by assumption) ?_; rotate_left; (focus (intro w hSw; (try dsimp only at hSw); go_simp; try with_reducible rfl)); (try simp only [Act.put, List.getElem_toArray, List.getElem_cons_succ, List.getElem_cons_zero, List.setIfInBounds_toArray, List.set_cons_zero, List.set_cons_succ])
  refine wpAnyH_take (i := 9) (v := ?_) rfl (by kernel_rfl) (by kernel_rfl) (by kernel_rfl) (fun _ _ _ h => h) (Or.inl ⟨by rfl, ?_⟩) (by assumption) ?_; rotate_left; (focus (intro w hSw; (try dsimp only at hSw); go_simp; try with_reducible rfl)); (try simp only [Act.put, List.getElem_toArray, List.getElem_cons_succ, List.getElem_cons_zero, List.setIfInBounds_toArray, List.set_cons_zero, List.set_cons_succ])
  refine wpAnyH_take (i := 11) (v := ?_) rfl (by kernel_rfl) (by kernel_rfl) (by kernel_rfl) (fun _ _ _ h => h) (Or.inl ⟨by rfl, ?_⟩) (by assumption) ?_; rotate_left; (focus (intro w hSw; (try dsimp only at hSw); go_simp; try with_reducible rfl)); (try simp only [Act.put, List.getElem_toArray, List.getElem_cons_succ, List.getElem_cons_zero, List.setIfInBounds_toArray, List.set_cons_zero, List.set_cons_succ])
  refine wpAnyH_take (i := 12) (v := ?_) rfl (by kernel_rfl) (by kernel_rfl) (by kernel_rfl) (fun _ _ _ h => h) (Or.inl ⟨by rfl, ?_⟩) (by assumption) ?_; rotate_left; (focus (intro w hSw; (try dsimp only at hSw); go_simp; try with_reducible rfl)); (try simp only [Act.put, List.getElem_toArray, List.getElem_cons_succ, List.getElem_cons_zero, List.setIfInBounds_toArray, List.set_cons_zero, List.set_cons_succ])
  refine wpAnyH_ready (rs := [10]) (by kernel_rfl) (by simp) (AllReadyH.cons rfl (fun K hK => ?_) AllReadyH.nil); go_simp; (refine (sChain_any js ms _ _ a _ (HD.out.below (by assumption) (Nat.le_refl _)) ha).mono ?_; rintro e w10 ⟨v10, rfl, h10, hb10⟩); go_wp2_with fail; refine hK.out _ _ ?_ (fun hHeld => ?_); (focus (repeat (first | assumption | exact Below.refl _ _ | refine Below.drew ?_ | refine bl_next hb35 ?_ | refine bl_next hb31 ?_ | refine bl_next hb25 ?_ | refine bl_next hb24 ?_ | refine bl_next hb20 ?_ | refine bl_next hb14 ?_ | refine bl_next hb13 ?_ | refine bl_next hb10 ?_ | refine bl_next hb5 ?_ | refine bl_next hb2 ?_))); clear hK K; (try simp only [Act.put, List.getElem_toArray, List.getElem_cons_succ, List.getElem_cons_zero, List.setIfInBounds_toArray, List.set_cons_zero, List.set_cons_succ])
  refine wpAnyH_ready (rs := [13]) (by kernel_rfl) (by simp) (AllReadyH.cons rfl (fun K hK => ?_) AllReadyH.nil); go_simp; (refine (rChain_all js ms _ _ a _ (HD.out.below (by assumption) (Nat.le_refl _)) ha).mono ?_; rintro e w13 ⟨v13, rfl, h13, hb13⟩); go_wp2_with fail; refine hK.out _ _ ?_ (fun hHeld => ?_); (focus (repeat (first | assumption | exact Below.refl _ _ | refine Below.drew ?_ | refine bl_next hb35 ?_ | refine bl_next hb31 ?_ | refine bl_next hb25 ?_ | refine bl_next hb24 ?_ | refine bl_next hb20 ?_ | refine bl_next hb14 ?_ | refine bl_next hb13 ?_ | refine bl_next hb10 ?_ | refine bl_next hb5 ?_ | refine bl_next hb2 ?_))); clear hK K; (try simp only [Act.put, List.getElem_toArray, List.getElem_cons_succ, List.getElem_cons_zero, List.setIfInBounds_toArray, List.set_cons_zero, List.set_cons_succ])
  refine wpAnyH_ready (rs := [14]) (by kernel_rfl) (by simp) (AllReadyH.cons rfl (fun K hK => ?_) AllReadyH.nil); go_simp; (refine (sameI_any v10 v13 (chainR js ms a) _ (h10.below hb13 (Nat.le_refl _)) h13).mono ?_; rintro e w14 ⟨rfl, hb14⟩); go_wp2_with fail; refine hK.out _ _ ?_ (fun hHeld => ?_); (focus (repeat (first | assumption | exact Below.refl _ _ | refine Below.drew ?_ | refine bl_next hb35 ?_ | refine bl_next hb31 ?_ | refine bl_next hb25 ?_ | refine bl_next hb24 ?_ | refine bl_next hb20 ?_ | refine bl_next hb14 ?_ | refine bl_next hb13 ?_ | refine bl_next hb10 ?_ | refine bl_next hb5 ?_ | refine bl_next hb2 ?_))); clear hK K; (try simp only [Act.put, List.getElem_toArray, List.getElem_cons_succ, List.getElem_cons_zero, List.setIfInBounds_toArray, List.set_cons_zero, List.set_cons_succ])
  refine wpAnyH_take (i := 15) (v := ?_) rfl (by kernel_rfl) (by kernel_rfl) (by kernel_rfl) (fun _ _ _ h => h) (Or.inl ⟨by rfl, ?_⟩) (by assumption) ?_; rotate_left; (focus (intro w hSw; (try dsimp only at hSw); go_simp; try with_reducible rfl)); (try simp only [Act.put, List.getElem_toArray, List.getElem_cons_succ, List.getElem_cons_zero, List.setIfInBounds_toArray, List.set_cons_zero, List.set_cons_succ])
  refine wpAnyH_take (i := 16) (v := ?_) rfl (by kernel_rfl) (by kernel_rfl) (by kernel_rfl) (fun _ _ _ h => h) (Or.inl ⟨by rfl, ?_⟩) (by assumption) ?_; rotate_left; (focus (intro w hSw; (try dsimp only at hSw); go_simp; try with_reducible rfl)); (try simp only [Act.put, List.getElem_toArray, List.getElem_cons_succ, List.getElem_cons_zero, List.setIfInBounds_toArray, List.set_cons_zero, List.set_cons_succ])
  refine wpAnyH_take (i := 17) (v := ?_) rfl (by kernel_rfl) (by kernel_rfl) (by kernel_rfl) (fun _ _ _ h => h) (Or.inl ⟨by rfl, ?_⟩) (by assumption) ?_; rotate_left; (focus (intro w hSw; (try dsimp only at hSw); go_simp; try with_reducible rfl)); (try simp only [Act.put, List.getElem_toArray, List.getElem_cons_succ, List.getElem_cons_zero, List.setIfInBounds_toArray, List.set_cons_zero, List.set_cons_succ])
  refine wpAnyH_take (i := 18) (v := ?_) rfl (by kernel_rfl) (by kernel_rfl) (by kernel_rfl) (fun _ _ _ h => h) (Or.inl ⟨by rfl, ?_⟩) (by assumption) ?_; rotate_left; (focus (intro w hSw; (try dsimp only at hSw); go_simp; try with_reducible rfl)); (try simp only [Act.put, List.getElem_toArray, List.getElem_cons_succ, List.getElem_cons_zero, List.setIfInBounds_toArray, List.set_cons_zero, List.set_cons_succ])
  refine wpAnyH_take (i := 19) (v := ?_) rfl (by kernel_rfl) (by kernel_rfl) (by kernel_rfl) (fun _ _ _ h => h) (Or.inl ⟨by rfl, ?_⟩) (by assumption) ?_; rotate_left; (focus (intro w hSw; (try dsimp only at hSw); go_simp; try with_reducible rfl)); (try simp only [Act.put, List.getElem_toArray, List.getElem_cons_succ, List.getElem_cons_zero, List.setIfInBounds_toArray, List.set_cons_zero, List.set_cons_succ])
  refine wpAnyH_take (i := 21) (v := ?_) rfl (by kernel_rfl) (by kernel_rfl) (by kernel_rfl) (fun _ _ _ h => h) (Or.inl ⟨by rfl, ?_⟩) (by assumption) ?_; rotate_left; (focus (intro w hSw; (try dsimp only at hSw); go_simp; try with_reducible rfl)); (try simp only [Act.put, List.getElem_toArray, List.getElem_cons_succ, List.getElem_cons_zero, List.setIfInBounds_toArray, List.set_cons_zero, List.set_cons_succ])
  refine wpAnyH_take (i := 22) (v := ?_) rfl (by kernel_rfl) (by kernel_rfl) (by kernel_rfl) (fun _ _ _ h => h) (Or.inl ⟨by rfl, ?_⟩) (by assumption) ?_; rotate_left; (focus (intro w hSw; (try dsimp only at hSw); go_simp; try with_reducible rfl)); (try simp only [Act.put, List.getElem_toArray, List.getElem_cons_succ, List.getElem_cons_zero, List.setIfInBounds_toArray, List.set_cons_zero, List.set_cons_succ])
  refine wpAnyH_take (i := 23) (v := ?_) rfl (by kernel_rfl) (by kernel_rfl) (by kernel_rfl) (fun _ _ _ h => h) (Or.inl ⟨by rfl, ?_⟩) (by assumption) ?_; rotate_left; (focus (intro w hSw; (try dsimp only at hSw); go_simp; try with_reducible rfl)); (try simp only [Act.put, List.getElem_toArray, List.getElem_cons_succ, List.getElem_cons_zero, List.setIfInBounds_toArray, List.set_cons_zero, List.set_cons_succ])
  refine wpAnyH_ready (rs := [20]) (by kernel_rfl) (by simp) (AllReadyH.cons rfl (fun K hK => ?_) AllReadyH.nil); go_simp; (refine (sBetween_any js ms _ _ a b _ (HD.out.below (by assumption) (Nat.le_refl _)) ha hb).mono ?_; rintro e w20 ⟨v20, rfl, h20, hb20⟩); go_wp2_with fail; refine hK.out _ _ ?_ (fun hHeld => ?_); (focus (repeat (first | assumption | exact Below.refl _ _ | refine Below.drew ?_ | refine bl_next hb35 ?_ | refine bl_next hb31 ?_ | refine bl_next hb25 ?_ | refine bl_next hb24 ?_ | refine bl_next hb20 ?_ | refine bl_next hb14 ?_ | refine bl_next hb13 ?_ | refine bl_next hb10 ?_ | refine bl_next hb5 ?_ | refine bl_next hb2 ?_))); clear hK K; (try simp only [Act.put, List.getElem_toArray, List.getElem_cons_succ, List.getElem_cons_zero, List.setIfInBounds_toArray, List.set_cons_zero, List.set_cons_succ])
  refine wpAnyH_ready (rs := [24]) (by kernel_rfl) (by simp) (AllReadyH.cons rfl (fun K hK => ?_) AllReadyH.nil); go_simp; (refine (rBetween_all js ms _ _ a b _ (HD.out.below (by assumption) (Nat.le_refl _)) ha hb).mono ?_; rintro e w24 ⟨v24, rfl, h24, hb24⟩); go_wp2_with fail; refine hK.out _ _ ?_ (fun hHeld => ?_); (focus (repeat (first | assumption | exact Below.refl _ _ | refine Below.drew ?_ | refine bl_next hb35 ?_ | refine bl_next hb31 ?_ | refine bl_next hb25 ?_ | refine bl_next hb24 ?_ | refine bl_next hb20 ?_ | refine bl_next hb14 ?_ | refine bl_next hb13 ?_ | refine bl_next hb10 ?_ | refine bl_next hb5 ?_ | refine bl_next hb2 ?_))); clear hK K; (try simp only [Act.put, List.getElem_toArray, List.getElem_cons_succ, List.getElem_cons_zero, List.setIfInBounds_toArray, List.set_cons_zero, List.set_cons_succ])
  refine wpAnyH_ready (rs := [25]) (by kernel_rfl) (by simp) (AllReadyH.cons rfl (fun K hK => ?_) AllReadyH.nil); go_simp; (refine (sameI_any v20 v24 (betweenR js ms a b) _ (h20.below hb24 (Nat.le_refl _)) h24).mono ?_; rintro e w25 ⟨rfl, hb25⟩); go_wp2_with fail; refine hK.out _ _ ?_ (fun hHeld => ?_); (focus (repeat (first | assumption | exact Below.refl _ _ | refine Below.drew ?_ | refine bl_next hb35 ?_ | refine bl_next hb31 ?_ | refine bl_next hb25 ?_ | refine bl_next hb24 ?_ | refine bl_next hb20 ?_ | refine bl_next hb14 ?_ | refine bl_next hb13 ?_ | refine bl_next hb10 ?_ | refine bl_next hb5 ?_ | refine bl_next hb2 ?_))); clear hK K; (try simp only [Act.put, List.getElem_toArray, List.getElem_cons_succ, List.getElem_cons_zero, List.setIfInBounds_toArray, List.set_cons_zero, List.set_cons_succ])
  refine wpAnyH_take (i := 26) (v := ?_) rfl (by kernel_rfl) (by kernel_rfl) (by kernel_rfl) (fun _ _ _ h => h) (Or.inl ⟨by rfl, ?_⟩) (by assumption) ?_; rotate_left; (focus (intro w hSw; (try dsimp only at hSw); go_simp; try with_reducible rfl)); (try simp only [Act.put, List.getElem_toArray, List.getElem_cons_succ, List.getElem_cons_zero, List.setIfInBounds_toArray, List.set_cons_zero, List.set_cons_succ])
  refine wpAnyH_take (i := 27) (v := ?_) rfl (by kernel_rfl) (by kernel_rfl) (by kernel_rfl) (fun _ _ _ h => h) (Or.inl ⟨by rfl, ?_⟩) (by assumption) ?_; rotate_left; (focus (intro w hSw; (try dsimp only at hSw); go_simp; try with_reducible rfl)); (try simp only [Act.put, List.getElem_toArray, List.getElem_cons_succ, List.getElem_cons_zero, List.setIfInBounds_toArray, List.set_cons_zero, List.set_cons_succ])
  refine wpAnyH_take (i := 28) (v := ?_) rfl (by kernel_rfl) (by kernel_rfl) (by kernel_rfl) (fun _ _ _ h => h) (Or.inl ⟨by rfl, ?_⟩) (by assumption) ?_; rotate_left; (focus (intro w hSw; (try dsimp only at hSw); go_simp; try with_reducible rfl)); (try simp only [Act.put, List.getElem_toArray, List.getElem_cons_succ, List.getElem_cons_zero, List.setIfInBounds_toArray, List.set_cons_zero, List.set_cons_succ])
  refine wpAnyH_take (i := 29) (v := ?_) rfl (by kernel_rfl) (by kernel_rfl) (by kernel_rfl) (fun _ _ _ h => h) (Or.inl ⟨by rfl, ?_⟩) (by assumption) ?_; rotate_left; (focus (intro w hSw; (try dsimp only at hSw); go_simp; try with_reducible rfl)); (try simp only [Act.put, List.getElem_toArray, List.getElem_cons_succ, List.getElem_cons_zero, List.setIfInBounds_toArray, List.set_cons_zero, List.set_cons_succ])
  refine wpAnyH_take (i := 30) (v := ?_) rfl (by kernel_rfl) (by kernel_rfl) (by kernel_rfl) (fun _ _ _ h => h) (Or.inl ⟨by rfl, ?_⟩) (by assumption) ?_; rotate_left; (focus (intro w hSw; (try dsimp only at hSw); go_simp; try with_reducible rfl)); (try simp only [Act.put, List.getElem_toArray, List.getElem_cons_succ, List.getElem_cons_zero, List.setIfInBounds_toArray, List.set_cons_zero, List.set_cons_succ])
  refine wpAnyH_take (i := 32) (v := ?_) rfl (by kernel_rfl) (by kernel_rfl) (by kernel_rfl) (fun _ _ _ h => h) (Or.inl ⟨by rfl, ?_⟩) (by assumption) ?_; rotate_left; (focus (intro w hSw; (try dsimp only at hSw); go_simp; try with_reducible rfl)); (try simp only [Act.put, List.getElem_toArray, List.getElem_cons_succ, List.getElem_cons_zero, List.setIfInBounds_toArray, List.set_cons_zero, List.set_cons_succ])
  refine wpAnyH_take (i := 33) (v := ?_) rfl (by kernel_rfl) (by kernel_rfl) (by kernel_rfl) (fun _ _ _ h => h) (Or.inl ⟨by rfl, ?_⟩) (by assumption) ?_; rotate_left; (focus (intro w hSw; (try dsimp only at hSw); go_simp; try with_reducible rfl)); (try simp only [Act.put, List.getElem_toArray, List.getElem_cons_succ, List.getElem_cons_zero, List.setIfInBounds_toArray, List.set_cons_zero, List.set_cons_succ])
  refine wpAnyH_take (i := 34) (v := ?_) rfl (by kernel_rfl) (by kernel_rfl) (by kernel_rfl) (fun _ _ _ h => h) (Or.inl ⟨by rfl, ?_⟩) (by assumption) ?_; rotate_left; (focus (intro w hSw; (try dsimp only at hSw); go_simp; try with_reducible rfl)); (try simp only [Act.put, List.getElem_toArray, List.getElem_cons_succ, List.getElem_cons_zero, List.setIfInBounds_toArray, List.set_cons_zero, List.set_cons_succ])
  refine wpAnyH_ready (rs := [31]) (by kernel_rfl) (by simp) (AllReadyH.cons rfl (fun K hK => ?_) AllReadyH.nil); go_simp; (refine (sRigid_any js ms _ _ a b _ (HD.out.below (by assumption) (Nat.le_refl _)) ha hb).mono ?_; rintro e w31 ⟨rfl, hb31⟩; rw [HG.out]); go_wp2_with fail; refine hK.out _ _ ?_ (fun hHeld => ?_); (focus (repeat (first | assumption | exact Below.refl _ _ | refine Below.drew ?_ | refine bl_next hb35 ?_ | refine bl_next hb31 ?_ | refine bl_next hb25 ?_ | refine bl_next hb24 ?_ | refine bl_next hb20 ?_ | refine bl_next hb14 ?_ | refine bl_next hb13 ?_ | refine bl_next hb10 ?_ | refine bl_next hb5 ?_ | refine bl_next hb2 ?_))); clear hK K; (try simp only [Act.put, List.getElem_toArray, List.getElem_cons_succ, List.getElem_cons_zero, List.setIfInBounds_toArray, List.set_cons_zero, List.set_cons_succ])
  refine wpAnyH_ready (rs := [35]) (by kernel_rfl) (by simp) (AllReadyH.cons rfl (fun K hK => ?_) AllReadyH.nil); go_simp; (refine (rRigid_all js ms _ _ a b _ (HD.out.below (by assumption) (Nat.le_refl _)) ha hb).mono ?_; rintro e w35 ⟨rfl, hb35⟩; rw [HG.out]); go_wp2_with fail; refine hK.out _ _ ?_ (fun hHeld => ?_); (focus (repeat (first | assumption | exact Below.refl _ _ | refine Below.drew ?_ | refine bl_next hb35 ?_ | refine bl_next hb31 ?_ | refine bl_next hb25 ?_ | refine bl_next hb24 ?_ | refine bl_next hb20 ?_ | refine bl_next hb14 ?_ | refine bl_next hb13 ?_ | refine bl_next hb10 ?_ | refine bl_next hb5 ?_ | refine bl_next hb2 ?_))); clear hK K; (try simp only [Act.put, List.getElem_toArray, List.getElem_cons_succ, List.getElem_cons_zero, List.setIfInBounds_toArray, List.set_cons_zero, List.set_cons_succ])
  refine wpAnyH_take (i := 36) (v := ?_) rfl (by kernel_rfl) (by kernel_rfl) (by kernel_rfl) (fun _ _ _ h => h) (Or.inl ⟨by rfl, ?_⟩) (by assumption) ?_; rotate_left; (focus (intro w hSw; (try dsimp only at hSw); go_simp; try with_reducible rfl)); (try simp only [Act.put, List.getElem_toArray, List.getElem_cons_succ, List.getElem_cons_zero, List.setIfInBounds_toArray, List.set_cons_zero, List.set_cons_succ])
  refine wpAnyH_take (i := 37) (v := ?_) rfl (by kernel_rfl) (by kernel_rfl) (by kernel_rfl) (fun _ _ _ h => h) (Or.inl ⟨by rfl, ?_⟩) (by assumption) ?_; rotate_left; (focus (intro w hSw; (try dsimp only at hSw); go_simp; try with_reducible rfl)); (try simp only [Act.put, List.getElem_toArray, List.getElem_cons_succ, List.getElem_cons_zero, List.setIfInBounds_toArray, List.set_cons_zero, List.set_cons_succ])
  refine wpAnyH_take (i := 38) (v := ?_) rfl (by kernel_rfl) (by kernel_rfl) (by kernel_rfl) (fun _ _ _ h => h) (Or.inl ⟨by rfl, ?_⟩) (by assumption) ?_; rotate_left; (focus (intro w hSw; (try dsimp only at hSw); go_simp; try with_reducible rfl)); (try simp only [Act.put, List.getElem_toArray, List.getElem_cons_succ, List.getElem_cons_zero, List.setIfInBounds_toArray, List.set_cons_zero, List.set_cons_succ])
  refine wpAnyH_done (by kernel_rfl) ?_ _
  have hbV : Below V.heap.size V w35 := by assumption
  clear rr0 rr1
  go_wp2_with fail
  go_ret
  exact ⟨by simp, bl_next hbV HB.out⟩
theorem list8_below {W V : World} {a : Option Addr} {n B : Nat} (h : ListAt W a n) (hb : Below B W V) (hB : W.heap.size ≤ B) : ListAt V a n := by
  refine ⟨h.1, fun t ht => ?_⟩
  obtain ⟨lb, lo, z, h1, h2, h3, h4⟩ := h.2 t ht
  have hs := hb.size
  exact ⟨lb, lo, z, h1, by omega, (hb.cell (p := ⟨lb, lo + t, none⟩) (by show lb < B; omega)).trans h3, h4⟩
set_option linter.unusedSimpArgs false in
set_option linter.unusedVariables false in
set_option maxRecDepth 100000 in
set_option maxHeartbeats 6400000 in
theorem RobotChains_any (js0 : List JointD) (ms0 : List MassD) (vj0 vm0 : Value) (nm : ByteArray) (a b : Int) (a0 : Option Addr) (n0 c0 : Nat) (w : World) (p1 : -9223372036854775808 ≤ a) (p2 : a ≤ 9223372036854775807) (p3 : -9223372036854775808 ≤ b) (p4 : b ≤ 9223372036854775807) (hr : RobD w vj0 vm0 js0 ms0) (l0 : ListAt w a0 n0) (hT : KindT w) :
    Calls Tryd.prog 6 #[ .agg #[vj0, vm0], .string nm, .int .i64 a, .int .i64 b, .slice a0 n0 c0 ] w fun e w' => e = .returned (.bool true) ∧ Below w.heap.size w w' := by
  have HT := Lib.hid hT
  clear hT
  have HR0 := Lib.hid hr
  obtain ⟨Bj, dj, rfl, hdj, _⟩ := hr.rj.joint
  obtain ⟨Bm, dm, rfl, hdm, _⟩ := hr.rm.mass
  have lj0 := hr.lj
  clear hr
  have hR0 := RobAt.box (V := w) (vj := .slice Bj js0.length dj) (vm := .slice Bm ms0.length dm) rfl
  have hB0 := (Below.refl w.heap.size w).alloc (Nat.le_refl _) (.cells #[.slice Bj js0.length dj, .slice Bm ms0.length dm] 25)
  have HL := Lib.hid (list8_below l0 hB0 (Nat.le_refl _))
  have HB0 := Lib.hid hB0
  have HRA := Lib.hid hR0
  clear l0 hB0 hR0
  go_enter Tryd.func6, Tryd.ntmps6
  go_wp2_with fail
  refine (mkRobot_any a0 n0 c0 _ HL.out).mono ?_
  rintro e w1 ⟨vj, vm, js, ms, rfl, hm, hb⟩
  obtain ⟨Aj, cj, rfl, hcj, _⟩ := hm.rj.joint
  obtain ⟨Am, cm, rfl, hcm, _⟩ := hm.rm.mass
  have hB1 := bl_next hb HB0.out
  have hRA1 := RobAt.below HRA.out hb (by simp)
  have hR := RobAt.box (V := w1) (vj := .slice Aj js.length cj) (vm := .slice Am ms.length cm) rfl
  have hal := (Below.refl _ w1).alloc (Nat.le_refl _) (.cells #[.slice Aj js.length cj, .slice Am ms.length cm] 25)
  have HD := Lib.hid (hm.robD.below hal (Nat.le_refl _))
  have hRB := RobAt.below hRA1 hal hRA1.lt'
  have HB := Lib.hid (bl_next hal hB1)
  have HD0 := Lib.hid (HR0.out.below (bl_next hal hB1) (Nat.le_refl _))
  clear hm hb hB1 hRA1 hal HRA HB0
  go_wp2_with fail
  obtain ⟨V, hV⟩ : ∃ V, w1.alloc (.cells #[.slice Aj js.length cj, .slice Am ms.length cm] 25) = V := ⟨_, rfl⟩
  rw [hV] at hR hRB HD HD0 HB ⊢
  clear hV
  have HRV := Lib.hid hR
  have HRB := Lib.hid hRB
  clear hR hRB
  refine (Round_any a 6 _ (by omega) (by omega) p1 p2).mono ?_
  rintro e w2 ⟨rfl, rfl⟩
  have a0' := Int.emod_nonneg a (show (6 : Int) ≠ 0 by omega)
  have a1' := Int.emod_lt_of_pos a (show (0 : Int) < 6 by omega)
  obtain ⟨x, hx⟩ : ∃ x, a % 6 = x := ⟨_, rfl⟩
  rw [hx] at a0' a1' ⊢
  clear hx
  go_wp2_with fail
  refine (Round_any b 6 _ (by omega) (by omega) p3 p4).mono ?_
  rintro e w2 ⟨rfl, rfl⟩
  have b0' := Int.emod_nonneg b (show (6 : Int) ≠ 0 by omega)
  have b1' := Int.emod_lt_of_pos b (show (0 : Int) < 6 by omega)
  obtain ⟨y, hy⟩ : ∃ y, b % 6 = y := ⟨_, rfl⟩
  rw [hy] at b0' b1' ⊢
  clear hy
  go_wp2_with fail
  refine (awake8_any _ (HT.out.next HB.out)).mono ?_
  rintro e u1 ⟨rfl, k1⟩
  have q0 := (RobAt.below HRB.out k1 HRB.out.lt').c0
  have q1 := (RobAt.below HRB.out k1 HRB.out.lt').c1
  have K1 := Lib.hid (bl_next k1 (Below.refl _ V))
  clear k1
  go_wp2_with fail
  refine (chains8_any js0 ms0 _ _ nm a b _ (HD0.out.below K1.out (Nat.le_refl _)) (by unfold I64; omega) (by unfold I64; omega)).mono ?_
  rintro e u2 ⟨rfl, k2⟩
  have K2 := Lib.hid (bl_next k2 K1.out)
  clear k2 q0 q1
  have q0 := (RobAt.below HRB.out K2.out HRB.out.lt').c0
  have q1 := (RobAt.below HRB.out K2.out HRB.out.lt').c1
  go_wp2_with fail
  refine (chains8_any js0 ms0 _ _ ⟨#[97]⟩ (x - 2) (y - 2) _ (HD0.out.below K2.out (Nat.le_refl _)) (by unfold I64; omega) (by unfold I64; omega)).mono ?_
  rintro e u3 ⟨rfl, k3⟩
  have K3 := Lib.hid (bl_next k3 K2.out)
  clear k3 q0 q1
  have q0 := (RobAt.below HRV.out K3.out HRV.out.lt').c0
  have q1 := (RobAt.below HRV.out K3.out HRV.out.lt').c1
  go_wp2_with fail
  refine (chains8_any js ms _ _ ⟨#[98]⟩ (x - 2) (y - 2) _ (HD.out.below K3.out (Nat.le_refl _)) (by unfold I64; omega) (by unfold I64; omega)).mono ?_
  rintro e u4 ⟨rfl, k4⟩
  have K4 := Lib.hid (bl_next k4 K3.out)
  clear k4 q0 q1
  have q0 := (RobAt.below HRV.out K4.out HRV.out.lt').c0
  have q1 := (RobAt.below HRV.out K4.out HRV.out.lt').c1
  go_wp2_with fail
  refine (chains8_any js ms _ _ nm a b _ (HD.out.below K4.out (Nat.le_refl _)) (by unfold I64; omega) (by unfold I64; omega)).mono ?_
  rintro e u5 ⟨rfl, k5⟩
  have K5 := Lib.hid (bl_next k5 K4.out)
  clear k5 q0 q1
  go_wp2_with fail
  go_ret
  exact ⟨rfl, HB.out.trans (K5.out.mono HB.out.size)⟩
end Go.Proofs.YtpaiapcnoifpmaaDoor
