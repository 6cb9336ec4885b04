/- Proved: the reference's WriteScene writes statements that are permitted, for a scene that the makers made. Conditions: as each theorem states. -/
import Derived.Test.YtpaiapcnoifpmaaDoorSyR
namespace Go.Proofs.YtpaiapcnoifpmaaDoor
open Go.RowKit

set_option linter.unusedSimpArgs false in
set_option linter.unusedVariables false in
set_option maxRecDepth 100000 in
set_option maxHeartbeats 12800000 in
theorem rWriteScene_any (js : List JointD) (ms : List MassD) (ss : List ShpD) (ks : List SkD) (vj vm vs vk : Value) (w : World) (hr : SceneM w vj vm vs vk js ms ss ks) :
    Calls Tryd.prog 14 #[ .agg #[vj, vm, vs, vk] ] w fun e w' => ∃ v l, e = .returned v ∧ RdS w' v l ∧ ScnL l ∧ Below w.heap.size w w' := by
  have HR := Lib.hid hr
  obtain ⟨Aj, cj, rfl, hcj, _⟩ := hr.rob.rj.joint
  obtain ⟨Am, cm, rfl, hcm, _⟩ := hr.rob.rm.mass
  obtain ⟨As, cs, rfl, hcs, _⟩ := hr.rs.shape
  obtain ⟨Ak, ck, rfl, hck, _⟩ := hr.rk.skip
  have l3 := hr.rob.l3
  have m2 := hr.rob.m2
  have s6 := hr.s6
  have k1 := hr.k1
  clear hr
  obtain ⟨y0, hi, hz0, hz1, hz2⟩ := info_parts info_st
  obtain ⟨z0, hj, hy0, hy1, hy2⟩ := info_parts info_str
  have Y := Lib.hid hi
  have Y0 := Lib.hid hz0
  have Y1 := Lib.hid hz1
  have Y2 := Lib.hid hz2
  have Z := Lib.hid hj
  have Z0 := Lib.hid hy0
  have Z1 := Lib.hid hy1
  have Z2 := Lib.hid hy2
  clear hi hz0 hz1 hz2 hj hy0 hy1 hy2
  have hB0 := (Below.refl w.heap.size w).alloc (Nat.le_refl _) (.cells #[.slice Aj js.length cj, .slice Am ms.length cm, .slice As ss.length cs, .slice Ak ks.length ck] 38)
  have R0 := Lib.hid (show ScAt (w.alloc (.cells #[.slice Aj js.length cj, .slice Am ms.length cm, .slice As ss.length cs, .slice Ak ks.length ck] 38)) w.heap.size (.slice Aj js.length cj) (.slice Am ms.length cm) (.slice As ss.length cs) (.slice Ak ks.length ck) from heap_alloc_new _ _)
  have B0 := Lib.hid hB0
  clear hB0
  go_enter Tryd.func14, Tryd.ntmps14
  go_wp2_with fail
  refine (rCheckScene_any js ms ss ks _ _ _ _ _ (HR.out.below B0.out (Nat.le_refl _))).mono ?_
  rintro e U ⟨rfl, hbu⟩
  have hRU := ScAt.below R0.out hbu R0.out.lt
  have hqU := hRU.lt
  have HRU := Lib.hid (HR.out.below (bl_next hbu B0.out) (Nat.le_refl _))
  have BU := Lib.hid (bl_next hbu B0.out)
  have RU := Lib.hid hRU
  have q0 := hRU.c0
  have q1 := hRU.c1
  clear hRU hbu B0 R0
  go_wp2_with fail
  refine (rWriteRobot_any js ms _ _ _ HRU.out.rob).mono ?_
  rintro e U1 ⟨v1, l0, vals0, rfl, hout, hll, hgw, hbu⟩
  have HOUT := Lib.hid hout
  have HLLx := Lib.hid hll
  have HGW := Lib.hid hgw
  have HBU1 := Lib.hid hbu
  clear hout hll hgw hbu q0 q1
  go_wp2_with fail
  go_loopw [3, 4] (fun v i wr => ∃ (k : Nat) (l : List St) (vals : List Value), k ≤ ss.length ∧ i = .int .i64 k ∧ OutS U.heap.size wr v l vals ∧ (1 ≤ l.length ∧ l.length ≤ 8 + k) ∧ (∀ g ∈ l, GoodW g) ∧ Below U.heap.size U wr) (fun _ i _ => ss.length - (intOf i).toNat)
  case atStart => exact ⟨0, l0, vals0, Nat.zero_le _, rfl, HOUT.out, by have := HLLx.out; have := HR.out.rob.l1; omega, HGW.out, HBU1.out⟩
  case round =>
    clear HOUT HGW HBU1 HLLx
    obtain ⟨k, l, vals, hk, rfl, hout, hll, hgw, hb⟩ := hrel
    have hRr := ScAt.below RU.out hb hqU
    have r0 := hRr.c0
    have r1 := hRr.c1
    have r2 := hRr.c2
    have r3 : wr.cell? ⟨w.heap.size, 3, none⟩ = some (.slice Ak ks.length ck) := cell_of_row _ _ 3 _ _ _ hRr
    obtain ⟨qo, ko, co, rfl⟩ := own_slc hout.2.1
    have hko := own_count hout.2.1
    subst hko
    by_cases hlt : k < ss.length
    · obtain ⟨_, _, ea, _, hm⟩ := (HRU.out.rs.below hb (Nat.le_refl _)).shape
      injection ea with ea _ ec
      subst ea ec
      obtain ⟨g, rfl, hg, c0, c1, c2⟩ := hm k hlt
      have hmm := HRU.out.mS k hlt
      have hrp := (HRU.out.rp k hlt).below hb (Nat.le_refl _)
      have hrj := HRU.out.rob.rj.below hb (Nat.le_refl _)
      obtain ⟨x, hxe⟩ : ∃ x, ss[k] = x := ⟨_, rfl⟩
      rw [hxe] at c0 c1 c2 hmm hrp
      obtain ⟨⟨m0, m1⟩, m3, ⟨p1, p4⟩, hpp⟩ := hmm
      obtain ⟨Ap, cp, hxv, hcp, _⟩ := hrp.point
      have NI0 := Lib.hid (nums_in [x.radius] (by intro y hy; simp at hy; subst hy; omega))
      have hV := heap_alloc_new wr (.cells #[.int .i64 x.link, .int .i64 x.radius, x.v] 88)
      have hOV := hout.next ((Below.refl _ wr).alloc (Nat.le_refl _) (.cells #[.int .i64 x.link, .int .i64 x.radius, x.v] 88))
      have hRV := hRr.below ((Below.refl _ wr).alloc (Nat.le_refl _) (.cells #[.int .i64 x.link, .int .i64 x.radius, x.v] 88)) hRr.lt
      have hJV := hrj.below ((Below.refl _ wr).alloc (Nat.le_refl _) (.cells #[.int .i64 x.link, .int .i64 x.radius, x.v] 88)) (Nat.le_refl _)
      have hPV := hrp.below ((Below.refl _ wr).alloc (Nat.le_refl _) (.cells #[.int .i64 x.link, .int .i64 x.radius, x.v] 88)) (Nat.le_refl _)
      have hBV := hb.alloc hb.size (.cells #[.int .i64 x.link, .int .i64 x.radius, x.v] 88)
      have HV := Lib.hid hV
      have HOV := Lib.hid hOV
      have HRV := Lib.hid hRV
      have HRJ := Lib.hid hJV
      have HPV := Lib.hid hPV
      have HBV := Lib.hid hBV
      have HGW := Lib.hid hgw
      have HPP := Lib.hid hpp
      have hkU := hb.size
      obtain ⟨np, hnp⟩ : ∃ n, x.ps.length = n := ⟨_, rfl⟩
      have HNP := Lib.hid hnp
      rw [hnp] at p1 p4 hxv hcp
      clear hm hxe hV hOV hRV hJV hPV hBV hrj hrp hgw hout hRr hb m3 hpp hnp
      rw [hxv] at c2 HV HOV HRV HRJ HPV HBV
      go_wp2_with fail
      obtain ⟨V, hVV⟩ : ∃ V, wr.alloc (.cells #[.int .i64 x.link, .int .i64 x.radius, .slice Ap np cp] 88) = V := ⟨_, rfl⟩
      rw [hVV] at HV HOV HRV HRJ HPV HBV ⊢
      have hmb := lt_of_block HV.out
      have hrb := HRV.out.lt
      clear hVV c0 c1 c2 r0 r1 r2 r3 hxv
      have rd0 : ∀ w', Below V.heap.size V w' → w'.cell? ⟨wr.heap.size, 0, none⟩ = some (.int .i64 x.link) := fun w' hb => (hb.cell (p := ⟨wr.heap.size, 0, none⟩) hmb).trans (cell_of_row _ _ 0 _ _ _ HV.out)
      have rd1 : ∀ w', Below V.heap.size V w' → w'.cell? ⟨wr.heap.size, 1, none⟩ = some (.int .i64 x.radius) := fun w' hb => (hb.cell (p := ⟨wr.heap.size, 1, none⟩) hmb).trans (cell_of_row _ _ 1 _ _ _ HV.out)
      have rd2 : ∀ w', Below V.heap.size V w' → w'.cell? ⟨wr.heap.size, 2, none⟩ = some (.slice Ap np cp) := fun w' hb => (hb.cell (p := ⟨wr.heap.size, 2, none⟩) hmb).trans (cell_of_row _ _ 2 _ _ _ HV.out)
      have rr0 : ∀ w', Below V.heap.size V w' → w'.cell? ⟨w.heap.size, 0, none⟩ = some (.slice Aj js.length cj) := fun w' hb => (hb.cell (p := ⟨w.heap.size, 0, none⟩) hrb).trans HRV.out.c0
      have rr1 : ∀ w', Below V.heap.size V w' → w'.cell? ⟨w.heap.size, 1, none⟩ = some (.slice Am ms.length cm) := fun w' hb => (hb.cell (p := ⟨w.heap.size, 1, none⟩) hrb).trans HRV.out.c1
      have HLK := Lib.hid (link_arg (js := js) (k := x.link) m0 m1 l3 HRU.out.rob.mj)
      have NI := NI0
      go_cut [6] from 28 to 38 (fun v wx => ∃ xs : List ByteArray, xs.length = 2 ∧ (∀ a ∈ xs, ArgT a) ∧ OwnT V.heap.size wx v xs ∧ Below V.heap.size V wx)
      case first =>
        refine wp_region_held_drew (S := (fun w3 => Below V.heap.size V w3)) (by kernel_rfl) ?_ (fun hHeld => ?_)
        focus (repeat (first | assumption | exact Below.refl _ _ | refine Below.drew ?_ | refine bl_alloc ?_ _ | refine bl_next hb24 ?_ | refine bl_next hb8 ?_))
        refine wpAnyH_take (i := 0) (v := ?_) rfl (by kernel_rfl) (by kernel_rfl) (by kernel_rfl) (fun _ _ _ h => h) (Or.inl ⟨by rfl, ?_⟩) (by assumption) ?_; rotate_left; (focus (intro w hSw; (try dsimp only at hSw); go_simp; try with_reducible rfl)); (try simp only [Act.put, List.getElem_toArray, List.getElem_cons_succ, List.getElem_cons_zero, List.setIfInBounds_toArray, List.set_cons_zero, List.set_cons_succ])
        refine wpAnyH_take (i := 1) (v := ?_) rfl (by kernel_rfl) (by kernel_rfl) (by kernel_rfl) (fun _ _ _ h => h) (Or.inl ⟨by rfl, ?_⟩) (by assumption) ?_; rotate_left; (focus (intro w hSw; (try dsimp only at hSw); go_simp; try with_reducible rfl)); (try simp only [Act.put, List.getElem_toArray, List.getElem_cons_succ, List.getElem_cons_zero, List.setIfInBounds_toArray, List.set_cons_zero, List.set_cons_succ])
        refine wpAnyH_take (i := 2) (v := ?_) rfl (by kernel_rfl) (by kernel_rfl) (by kernel_rfl) (fun _ _ _ h => h) (Or.inl ⟨by rfl, ?_⟩) (by assumption) ?_; rotate_left; (focus (intro w hSw; (try dsimp only at hSw); go_simp; try with_reducible rfl)); (try simp only [Act.put, List.getElem_toArray, List.getElem_cons_succ, List.getElem_cons_zero, List.setIfInBounds_toArray, List.set_cons_zero, List.set_cons_succ])
        refine wpAnyH_take (i := 3) (v := ?_) rfl (by kernel_rfl) (by kernel_rfl) (by kernel_rfl) (fun _ _ _ h => h) (Or.inl ⟨by rfl, ?_⟩) (by assumption) ?_; rotate_left; (focus (intro w hSw; (try dsimp only at hSw); go_simp; try with_reducible rfl)); (try simp only [Act.put, List.getElem_toArray, List.getElem_cons_succ, List.getElem_cons_zero, List.setIfInBounds_toArray, List.set_cons_zero, List.set_cons_succ])
        refine wpAnyH_take (i := 6) (v := ?_) rfl (by kernel_rfl) (by kernel_rfl) (by kernel_rfl) (fun _ _ _ h => h) (Or.inl ⟨by rfl, ?_⟩) (by assumption) ?_; rotate_left; (focus (intro w hSw; (try dsimp only at hSw); go_simp; try with_reducible rfl)); (try simp only [Act.put, List.getElem_toArray, List.getElem_cons_succ, List.getElem_cons_zero, List.setIfInBounds_toArray, List.set_cons_zero, List.set_cons_succ])
        refine wpAnyH_take (i := 7) (v := ?_) rfl (by kernel_rfl) (by kernel_rfl) (by kernel_rfl) (fun _ _ _ h => h) (Or.inl ⟨by rfl, ?_⟩) (by assumption) ?_; rotate_left; (focus (intro w hSw; (try dsimp only at hSw); go_simp; try with_reducible rfl)); (try simp only [Act.put, List.getElem_toArray, List.getElem_cons_succ, List.getElem_cons_zero, List.setIfInBounds_toArray, List.set_cons_zero, List.set_cons_succ])
        refine wpAnyH_ready (rs := [4, 8]) (by kernel_rfl) (by simp) (AllReadyH.cons rfl (fun K hK => ?_) (AllReadyH.cons rfl (fun K hK => ?_) (AllReadyH.nil)))
        · go_simp; (refine (rLinkName_any js _ _ x.link _ (HRJ.out.below (by assumption) (Nat.le_refl _)) m0 m1 (by omega)).mono ?_; rintro e w8 ⟨rfl, hb8⟩); go_wp2_with fail; refine hK.out _ _ ?_ (fun hHeld => ?_); (focus (repeat (first | assumption | exact Below.refl _ _ | refine Below.drew ?_ | refine bl_alloc ?_ _ | refine bl_next hb24 ?_ | refine bl_next hb8 ?_))); clear hK K; (try simp only [Act.put, List.getElem_toArray, List.getElem_cons_succ, List.getElem_cons_zero, List.setIfInBounds_toArray, List.set_cons_zero, List.set_cons_succ])
          refine wpAnyH_ready (rs := [5, 8]) (by kernel_rfl) (by simp) (AllReadyH.cons rfl (fun K hK => ?_) (AllReadyH.cons rfl (fun K hK => ?_) (AllReadyH.nil)))
          · go_simp; refine hK.out _ _ ?_ (fun hHeld => ?_); (focus (repeat (first | assumption | exact Below.refl _ _ | refine Below.drew ?_ | refine bl_alloc ?_ _ | refine bl_next hb24 ?_ | refine bl_next hb8 ?_))); clear hK K; (try simp only [Act.put, List.getElem_toArray, List.getElem_cons_succ, List.getElem_cons_zero, List.setIfInBounds_toArray, List.set_cons_zero, List.set_cons_succ]); first | have HOA := Lib.hid (row_of hHeld (by assumption) [linkN js x.link] 1 rfl rfl (by decide)) | skip
            refine wpAnyH_ready (rs := [8]) (by kernel_rfl) (by simp) (AllReadyH.cons rfl (fun K hK => ?_) (AllReadyH.nil))
            go_simp; refine hK.out _ _ ?_ (fun hHeld => ?_); (focus (repeat (first | assumption | exact Below.refl _ _ | refine Below.drew ?_ | refine bl_alloc ?_ _ | refine bl_next hb24 ?_ | refine bl_next hb8 ?_))); clear hK K; (try simp only [Act.put, List.getElem_toArray, List.getElem_cons_succ, List.getElem_cons_zero, List.setIfInBounds_toArray, List.set_cons_zero, List.set_cons_succ]); first | have HU := Lib.hid (nums_of hHeld [x.radius] 1 rfl rfl (by decide)) | have HU := Lib.hid (nums_ofD hHeld [x.radius] 1 rfl rfl (by decide))
            refine wpAnyH_ready (rs := [9]) (by kernel_rfl) (by simp) (AllReadyH.cons rfl (fun K hK => ?_) (AllReadyH.nil))
            go_simp; (refine (rWritten_any _ 1 (fun k => ([x.radius] : List Int).getD k 0) _ ((HU.out _ (by simp)).below (by (repeat (first | exact Below.refl _ _ | refine Below.drew ?_ | refine bl_alloc ?_ _ | refine bl_next hb24 ?_ | refine bl_next hb8 ?_))) (Nat.le_refl _)) (by decide) NI.out).mono ?_; rintro e w24 ⟨v24, bs, rfl, hbl, hba, hown24, hb24⟩; obtain ⟨g24, c24, rfl⟩ := own_some hown24 hbl (by decide); have HRT := Lib.hid (hown24.rd (by omega)); clear hown24); go_wp2_with fail; refine hK.out _ _ ?_ (fun hHeld => ?_); (focus (repeat (first | assumption | exact Below.refl _ _ | refine Below.drew ?_ | refine bl_alloc ?_ _ | refine bl_next hb24 ?_ | refine bl_next hb8 ?_))); clear hK K; (try simp only [Act.put, List.getElem_toArray, List.getElem_cons_succ, List.getElem_cons_zero, List.setIfInBounds_toArray, List.set_cons_zero, List.set_cons_succ])
            refine wpAnyH_ready (rs := [10]) (by kernel_rfl) (by simp) (AllReadyH.cons rfl (fun K hK => ?_) (AllReadyH.nil))
            rw [if_pos (by rfl)]; refine wp_append_own _ (.tmp 33) (.tmp 37) 41 rfl V.heap.size 9 z0 (.string ⟨#[]⟩) 1 16 under_strs Z.out Z0.out Z1.out Z2.out rfl (by decide) (.slice (some ⟨_, 0, none⟩) 1 1) 1 [.string (linkN js x.link)] rfl (own_below (HOA.out _ (by simp)) (by (repeat (first | exact Below.refl _ _ | refine Below.drew ?_ | refine bl_alloc ?_ _ | refine bl_next hb24 ?_ | refine bl_next hb8 ?_)))) ⟨g24, 0, none⟩ 1 c24 (bs.map .string) rfl (by rw [List.length_map]; omega) (rdT_news (HRT.out.below (by (repeat (first | exact Below.refl _ _ | refine Below.drew ?_ | refine bl_alloc ?_ _ | refine bl_next hb24 ?_ | refine bl_next hb8 ?_))) (Nat.le_refl _))) (ones_str bs) (by unfold maxLen; omega) (by omega) hHeld.size ?_; intro v' w1 hown' hgrow _; obtain ⟨q1, q2, q3, rfl⟩ := own_slc hown'; have hb25 : Below V.heap.size V w1 := hHeld.grown hgrow hHeld.size (fun j hj => (World.ownsRow.lt (own_below (HOA.out _ (by simp)) (by (repeat (first | exact Below.refl _ _ | refine Below.drew ?_ | refine bl_alloc ?_ _ | refine bl_next hb24 ?_ | refine bl_next hb8 ?_)))) j hj).1); refine hK.out _ _ ?_ (fun hHeld => ?_); (focus (repeat (first | assumption | exact Below.refl _ _ | refine Below.drew ?_ | refine bl_alloc ?_ _ | refine bl_next hb24 ?_ | refine bl_next hb8 ?_))); clear hK K; (try simp only [Act.put, List.getElem_toArray, List.getElem_cons_succ, List.getElem_cons_zero, List.setIfInBounds_toArray, List.set_cons_zero, List.set_cons_succ])
            refine wpAnyH_take (i := 11) (v := ?_) rfl (by kernel_rfl) (by kernel_rfl) (by kernel_rfl) (fun _ _ _ h => h) (Or.inl ⟨by rfl, ?_⟩) (by assumption) ?_; rotate_left; (focus (intro w hSw; (try dsimp only at hSw); go_simp; try with_reducible rfl)); (try simp only [Act.put, List.getElem_toArray, List.getElem_cons_succ, List.getElem_cons_zero, List.setIfInBounds_toArray, List.set_cons_zero, List.set_cons_succ])
            refine wpAnyH_done (by kernel_rfl) ?_ _
            go_wp2_with fail
            go_meet
            exact ⟨[linkN js x.link] ++ bs, by simp [hbl], mem_app (by intro a ha; simp at ha; subst ha; exact HLK.out) hba, OwnT.app (by rw [hbl]; rfl) hown', hb25⟩
          · go_simp; refine hK.out _ _ ?_ (fun hHeld => ?_); (focus (repeat (first | assumption | exact Below.refl _ _ | refine Below.drew ?_ | refine bl_alloc ?_ _ | refine bl_next hb24 ?_ | refine bl_next hb8 ?_))); clear hK K; (try simp only [Act.put, List.getElem_toArray, List.getElem_cons_succ, List.getElem_cons_zero, List.setIfInBounds_toArray, List.set_cons_zero, List.set_cons_succ]); first | have HU := Lib.hid (nums_of hHeld [x.radius] 1 rfl rfl (by decide)) | have HU := Lib.hid (nums_ofD hHeld [x.radius] 1 rfl rfl (by decide))
            refine wpAnyH_ready (rs := [5, 9]) (by kernel_rfl) (by simp) (AllReadyH.cons rfl (fun K hK => ?_) (AllReadyH.cons rfl (fun K hK => ?_) (AllReadyH.nil)))
            · go_simp; refine hK.out _ _ ?_ (fun hHeld => ?_); (focus (repeat (first | assumption | exact Below.refl _ _ | refine Below.drew ?_ | refine bl_alloc ?_ _ | refine bl_next hb24 ?_ | refine bl_next hb8 ?_))); clear hK K; (try simp only [Act.put, List.getElem_toArray, List.getElem_cons_succ, List.getElem_cons_zero, List.setIfInBounds_toArray, List.set_cons_zero, List.set_cons_succ]); first | have HOA := Lib.hid (row_of hHeld (by assumption) [linkN js x.link] 1 rfl rfl (by decide)) | skip
              refine wpAnyH_ready (rs := [9]) (by kernel_rfl) (by simp) (AllReadyH.cons rfl (fun K hK => ?_) (AllReadyH.nil))
              go_simp; (refine (rWritten_any _ 1 (fun k => ([x.radius] : List Int).getD k 0) _ ((HU.out _ (by simp)).below (by (repeat (first | exact Below.refl _ _ | refine Below.drew ?_ | refine bl_alloc ?_ _ | refine bl_next hb24 ?_ | refine bl_next hb8 ?_))) (Nat.le_refl _)) (by decide) NI.out).mono ?_; rintro e w24 ⟨v24, bs, rfl, hbl, hba, hown24, hb24⟩; obtain ⟨g24, c24, rfl⟩ := own_some hown24 hbl (by decide); have HRT := Lib.hid (hown24.rd (by omega)); clear hown24); go_wp2_with fail; refine hK.out _ _ ?_ (fun hHeld => ?_); (focus (repeat (first | assumption | exact Below.refl _ _ | refine Below.drew ?_ | refine bl_alloc ?_ _ | refine bl_next hb24 ?_ | refine bl_next hb8 ?_))); clear hK K; (try simp only [Act.put, List.getElem_toArray, List.getElem_cons_succ, List.getElem_cons_zero, List.setIfInBounds_toArray, List.set_cons_zero, List.set_cons_succ])
              refine wpAnyH_ready (rs := [10]) (by kernel_rfl) (by simp) (AllReadyH.cons rfl (fun K hK => ?_) (AllReadyH.nil))
              rw [if_pos (by rfl)]; refine wp_append_own _ (.tmp 33) (.tmp 37) 41 rfl V.heap.size 9 z0 (.string ⟨#[]⟩) 1 16 under_strs Z.out Z0.out Z1.out Z2.out rfl (by decide) (.slice (some ⟨_, 0, none⟩) 1 1) 1 [.string (linkN js x.link)] rfl (own_below (HOA.out _ (by simp)) (by (repeat (first | exact Below.refl _ _ | refine Below.drew ?_ | refine bl_alloc ?_ _ | refine bl_next hb24 ?_ | refine bl_next hb8 ?_)))) ⟨g24, 0, none⟩ 1 c24 (bs.map .string) rfl (by rw [List.length_map]; omega) (rdT_news (HRT.out.below (by (repeat (first | exact Below.refl _ _ | refine Below.drew ?_ | refine bl_alloc ?_ _ | refine bl_next hb24 ?_ | refine bl_next hb8 ?_))) (Nat.le_refl _))) (ones_str bs) (by unfold maxLen; omega) (by omega) hHeld.size ?_; intro v' w1 hown' hgrow _; obtain ⟨q1, q2, q3, rfl⟩ := own_slc hown'; have hb25 : Below V.heap.size V w1 := hHeld.grown hgrow hHeld.size (fun j hj => (World.ownsRow.lt (own_below (HOA.out _ (by simp)) (by (repeat (first | exact Below.refl _ _ | refine Below.drew ?_ | refine bl_alloc ?_ _ | refine bl_next hb24 ?_ | refine bl_next hb8 ?_)))) j hj).1); refine hK.out _ _ ?_ (fun hHeld => ?_); (focus (repeat (first | assumption | exact Below.refl _ _ | refine Below.drew ?_ | refine bl_alloc ?_ _ | refine bl_next hb24 ?_ | refine bl_next hb8 ?_))); clear hK K; (try simp only [Act.put, List.getElem_toArray, List.getElem_cons_succ, List.getElem_cons_zero, List.setIfInBounds_toArray, List.set_cons_zero, List.set_cons_succ])
              refine wpAnyH_take (i := 11) (v := ?_) rfl (by kernel_rfl) (by kernel_rfl) (by kernel_rfl) (fun _ _ _ h => h) (Or.inl ⟨by rfl, ?_⟩) (by assumption) ?_; rotate_left; (focus (intro w hSw; (try dsimp only at hSw); go_simp; try with_reducible rfl)); (try simp only [Act.put, List.getElem_toArray, List.getElem_cons_succ, List.getElem_cons_zero, List.setIfInBounds_toArray, List.set_cons_zero, List.set_cons_succ])
              refine wpAnyH_done (by kernel_rfl) ?_ _
              go_wp2_with fail
              go_meet
              exact ⟨[linkN js x.link] ++ bs, by simp [hbl], mem_app (by intro a ha; simp at ha; subst ha; exact HLK.out) hba, OwnT.app (by rw [hbl]; rfl) hown', hb25⟩
            · go_simp; (refine (rWritten_any _ 1 (fun k => ([x.radius] : List Int).getD k 0) _ ((HU.out _ (by simp)).below (by (repeat (first | exact Below.refl _ _ | refine Below.drew ?_ | refine bl_alloc ?_ _ | refine bl_next hb24 ?_ | refine bl_next hb8 ?_))) (Nat.le_refl _)) (by decide) NI.out).mono ?_; rintro e w24 ⟨v24, bs, rfl, hbl, hba, hown24, hb24⟩; obtain ⟨g24, c24, rfl⟩ := own_some hown24 hbl (by decide); have HRT := Lib.hid (hown24.rd (by omega)); clear hown24); go_wp2_with fail; refine hK.out _ _ ?_ (fun hHeld => ?_); (focus (repeat (first | assumption | exact Below.refl _ _ | refine Below.drew ?_ | refine bl_alloc ?_ _ | refine bl_next hb24 ?_ | refine bl_next hb8 ?_))); clear hK K; (try simp only [Act.put, List.getElem_toArray, List.getElem_cons_succ, List.getElem_cons_zero, List.setIfInBounds_toArray, List.set_cons_zero, List.set_cons_succ])
              refine wpAnyH_ready (rs := [5]) (by kernel_rfl) (by simp) (AllReadyH.cons rfl (fun K hK => ?_) (AllReadyH.nil))
              go_simp; refine hK.out _ _ ?_ (fun hHeld => ?_); (focus (repeat (first | assumption | exact Below.refl _ _ | refine Below.drew ?_ | refine bl_alloc ?_ _ | refine bl_next hb24 ?_ | refine bl_next hb8 ?_))); clear hK K; (try simp only [Act.put, List.getElem_toArray, List.getElem_cons_succ, List.getElem_cons_zero, List.setIfInBounds_toArray, List.set_cons_zero, List.set_cons_succ]); first | have HOA := Lib.hid (row_of hHeld (by assumption) [linkN js x.link] 1 rfl rfl (by decide)) | skip
              refine wpAnyH_ready (rs := [10]) (by kernel_rfl) (by simp) (AllReadyH.cons rfl (fun K hK => ?_) (AllReadyH.nil))
              rw [if_pos (by rfl)]; refine wp_append_own _ (.tmp 33) (.tmp 37) 41 rfl V.heap.size 9 z0 (.string ⟨#[]⟩) 1 16 under_strs Z.out Z0.out Z1.out Z2.out rfl (by decide) (.slice (some ⟨_, 0, none⟩) 1 1) 1 [.string (linkN js x.link)] rfl (own_below (HOA.out _ (by simp)) (by (repeat (first | exact Below.refl _ _ | refine Below.drew ?_ | refine bl_alloc ?_ _ | refine bl_next hb24 ?_ | refine bl_next hb8 ?_)))) ⟨g24, 0, none⟩ 1 c24 (bs.map .string) rfl (by rw [List.length_map]; omega) (rdT_news (HRT.out.below (by (repeat (first | exact Below.refl _ _ | refine Below.drew ?_ | refine bl_alloc ?_ _ | refine bl_next hb24 ?_ | refine bl_next hb8 ?_))) (Nat.le_refl _))) (ones_str bs) (by unfold maxLen; omega) (by omega) hHeld.size ?_; intro v' w1 hown' hgrow _; obtain ⟨q1, q2, q3, rfl⟩ := own_slc hown'; have hb25 : Below V.heap.size V w1 := hHeld.grown hgrow hHeld.size (fun j hj => (World.ownsRow.lt (own_below (HOA.out _ (by simp)) (by (repeat (first | exact Below.refl _ _ | refine Below.drew ?_ | refine bl_alloc ?_ _ | refine bl_next hb24 ?_ | refine bl_next hb8 ?_)))) j hj).1); refine hK.out _ _ ?_ (fun hHeld => ?_); (focus (repeat (first | assumption | exact Below.refl _ _ | refine Below.drew ?_ | refine bl_alloc ?_ _ | refine bl_next hb24 ?_ | refine bl_next hb8 ?_))); clear hK K; (try simp only [Act.put, List.getElem_toArray, List.getElem_cons_succ, List.getElem_cons_zero, List.setIfInBounds_toArray, List.set_cons_zero, List.set_cons_succ])
              refine wpAnyH_take (i := 11) (v := ?_) rfl (by kernel_rfl) (by kernel_rfl) (by kernel_rfl) (fun _ _ _ h => h) (Or.inl ⟨by rfl, ?_⟩) (by assumption) ?_; rotate_left; (focus (intro w hSw; (try dsimp only at hSw); go_simp; try with_reducible rfl)); (try simp only [Act.put, List.getElem_toArray, List.getElem_cons_succ, List.getElem_cons_zero, List.setIfInBounds_toArray, List.set_cons_zero, List.set_cons_succ])
              refine wpAnyH_done (by kernel_rfl) ?_ _
              go_wp2_with fail
              go_meet
              exact ⟨[linkN js x.link] ++ bs, by simp [hbl], mem_app (by intro a ha; simp at ha; subst ha; exact HLK.out) hba, OwnT.app (by rw [hbl]; rfl) hown', hb25⟩
        · go_simp; refine hK.out _ _ ?_ (fun hHeld => ?_); (focus (repeat (first | assumption | exact Below.refl _ _ | refine Below.drew ?_ | refine bl_alloc ?_ _ | refine bl_next hb24 ?_ | refine bl_next hb8 ?_))); clear hK K; (try simp only [Act.put, List.getElem_toArray, List.getElem_cons_succ, List.getElem_cons_zero, List.setIfInBounds_toArray, List.set_cons_zero, List.set_cons_succ]); first | have HU := Lib.hid (nums_of hHeld [x.radius] 1 rfl rfl (by decide)) | have HU := Lib.hid (nums_ofD hHeld [x.radius] 1 rfl rfl (by decide))
          refine wpAnyH_ready (rs := [4]) (by kernel_rfl) (by simp) (AllReadyH.cons rfl (fun K hK => ?_) (AllReadyH.nil))
          go_simp; (refine (rLinkName_any js _ _ x.link _ (HRJ.out.below (by assumption) (Nat.le_refl _)) m0 m1 (by omega)).mono ?_; rintro e w8 ⟨rfl, hb8⟩); go_wp2_with fail; refine hK.out _ _ ?_ (fun hHeld => ?_); (focus (repeat (first | assumption | exact Below.refl _ _ | refine Below.drew ?_ | refine bl_alloc ?_ _ | refine bl_next hb24 ?_ | refine bl_next hb8 ?_))); clear hK K; (try simp only [Act.put, List.getElem_toArray, List.getElem_cons_succ, List.getElem_cons_zero, List.setIfInBounds_toArray, List.set_cons_zero, List.set_cons_succ])
          refine wpAnyH_ready (rs := [5, 9]) (by kernel_rfl) (by simp) (AllReadyH.cons rfl (fun K hK => ?_) (AllReadyH.cons rfl (fun K hK => ?_) (AllReadyH.nil)))
          · go_simp; refine hK.out _ _ ?_ (fun hHeld => ?_); (focus (repeat (first | assumption | exact Below.refl _ _ | refine Below.drew ?_ | refine bl_alloc ?_ _ | refine bl_next hb24 ?_ | refine bl_next hb8 ?_))); clear hK K; (try simp only [Act.put, List.getElem_toArray, List.getElem_cons_succ, List.getElem_cons_zero, List.setIfInBounds_toArray, List.set_cons_zero, List.set_cons_succ]); first | have HOA := Lib.hid (row_of hHeld (by assumption) [linkN js x.link] 1 rfl rfl (by decide)) | skip
            refine wpAnyH_ready (rs := [9]) (by kernel_rfl) (by simp) (AllReadyH.cons rfl (fun K hK => ?_) (AllReadyH.nil))
            go_simp; (refine (rWritten_any _ 1 (fun k => ([x.radius] : List Int).getD k 0) _ ((HU.out _ (by simp)).below (by (repeat (first | exact Below.refl _ _ | refine Below.drew ?_ | refine bl_alloc ?_ _ | refine bl_next hb24 ?_ | refine bl_next hb8 ?_))) (Nat.le_refl _)) (by decide) NI.out).mono ?_; rintro e w24 ⟨v24, bs, rfl, hbl, hba, hown24, hb24⟩; obtain ⟨g24, c24, rfl⟩ := own_some hown24 hbl (by decide); have HRT := Lib.hid (hown24.rd (by omega)); clear hown24); go_wp2_with fail; refine hK.out _ _ ?_ (fun hHeld => ?_); (focus (repeat (first | assumption | exact Below.refl _ _ | refine Below.drew ?_ | refine bl_alloc ?_ _ | refine bl_next hb24 ?_ | refine bl_next hb8 ?_))); clear hK K; (try simp only [Act.put, List.getElem_toArray, List.getElem_cons_succ, List.getElem_cons_zero, List.setIfInBounds_toArray, List.set_cons_zero, List.set_cons_succ])
            refine wpAnyH_ready (rs := [10]) (by kernel_rfl) (by simp) (AllReadyH.cons rfl (fun K hK => ?_) (AllReadyH.nil))
            rw [if_pos (by rfl)]; refine wp_append_own _ (.tmp 33) (.tmp 37) 41 rfl V.heap.size 9 z0 (.string ⟨#[]⟩) 1 16 under_strs Z.out Z0.out Z1.out Z2.out rfl (by decide) (.slice (some ⟨_, 0, none⟩) 1 1) 1 [.string (linkN js x.link)] rfl (own_below (HOA.out _ (by simp)) (by (repeat (first | exact Below.refl _ _ | refine Below.drew ?_ | refine bl_alloc ?_ _ | refine bl_next hb24 ?_ | refine bl_next hb8 ?_)))) ⟨g24, 0, none⟩ 1 c24 (bs.map .string) rfl (by rw [List.length_map]; omega) (rdT_news (HRT.out.below (by (repeat (first | exact Below.refl _ _ | refine Below.drew ?_ | refine bl_alloc ?_ _ | refine bl_next hb24 ?_ | refine bl_next hb8 ?_))) (Nat.le_refl _))) (ones_str bs) (by unfold maxLen; omega) (by omega) hHeld.size ?_; intro v' w1 hown' hgrow _; obtain ⟨q1, q2, q3, rfl⟩ := own_slc hown'; have hb25 : Below V.heap.size V w1 := hHeld.grown hgrow hHeld.size (fun j hj => (World.ownsRow.lt (own_below (HOA.out _ (by simp)) (by (repeat (first | exact Below.refl _ _ | refine Below.drew ?_ | refine bl_alloc ?_ _ | refine bl_next hb24 ?_ | refine bl_next hb8 ?_)))) j hj).1); refine hK.out _ _ ?_ (fun hHeld => ?_); (focus (repeat (first | assumption | exact Below.refl _ _ | refine Below.drew ?_ | refine bl_alloc ?_ _ | refine bl_next hb24 ?_ | refine bl_next hb8 ?_))); clear hK K; (try simp only [Act.put, List.getElem_toArray, List.getElem_cons_succ, List.getElem_cons_zero, List.setIfInBounds_toArray, List.set_cons_zero, List.set_cons_succ])
            refine wpAnyH_take (i := 11) (v := ?_) rfl (by kernel_rfl) (by kernel_rfl) (by kernel_rfl) (fun _ _ _ h => h) (Or.inl ⟨by rfl, ?_⟩) (by assumption) ?_; rotate_left; (focus (intro w hSw; (try dsimp only at hSw); go_simp; try with_reducible rfl)); (try simp only [Act.put, List.getElem_toArray, List.getElem_cons_succ, List.getElem_cons_zero, List.setIfInBounds_toArray, List.set_cons_zero, List.set_cons_succ])
            refine wpAnyH_done (by kernel_rfl) ?_ _
            go_wp2_with fail
            go_meet
            exact ⟨[linkN js x.link] ++ bs, by simp [hbl], mem_app (by intro a ha; simp at ha; subst ha; exact HLK.out) hba, OwnT.app (by rw [hbl]; rfl) hown', hb25⟩
          · go_simp; (refine (rWritten_any _ 1 (fun k => ([x.radius] : List Int).getD k 0) _ ((HU.out _ (by simp)).below (by (repeat (first | exact Below.refl _ _ | refine Below.drew ?_ | refine bl_alloc ?_ _ | refine bl_next hb24 ?_ | refine bl_next hb8 ?_))) (Nat.le_refl _)) (by decide) NI.out).mono ?_; rintro e w24 ⟨v24, bs, rfl, hbl, hba, hown24, hb24⟩; obtain ⟨g24, c24, rfl⟩ := own_some hown24 hbl (by decide); have HRT := Lib.hid (hown24.rd (by omega)); clear hown24); go_wp2_with fail; refine hK.out _ _ ?_ (fun hHeld => ?_); (focus (repeat (first | assumption | exact Below.refl _ _ | refine Below.drew ?_ | refine bl_alloc ?_ _ | refine bl_next hb24 ?_ | refine bl_next hb8 ?_))); clear hK K; (try simp only [Act.put, List.getElem_toArray, List.getElem_cons_succ, List.getElem_cons_zero, List.setIfInBounds_toArray, List.set_cons_zero, List.set_cons_succ])
            refine wpAnyH_ready (rs := [5]) (by kernel_rfl) (by simp) (AllReadyH.cons rfl (fun K hK => ?_) (AllReadyH.nil))
            go_simp; refine hK.out _ _ ?_ (fun hHeld => ?_); (focus (repeat (first | assumption | exact Below.refl _ _ | refine Below.drew ?_ | refine bl_alloc ?_ _ | refine bl_next hb24 ?_ | refine bl_next hb8 ?_))); clear hK K; (try simp only [Act.put, List.getElem_toArray, List.getElem_cons_succ, List.getElem_cons_zero, List.setIfInBounds_toArray, List.set_cons_zero, List.set_cons_succ]); first | have HOA := Lib.hid (row_of hHeld (by assumption) [linkN js x.link] 1 rfl rfl (by decide)) | skip
            refine wpAnyH_ready (rs := [10]) (by kernel_rfl) (by simp) (AllReadyH.cons rfl (fun K hK => ?_) (AllReadyH.nil))
            rw [if_pos (by rfl)]; refine wp_append_own _ (.tmp 33) (.tmp 37) 41 rfl V.heap.size 9 z0 (.string ⟨#[]⟩) 1 16 under_strs Z.out Z0.out Z1.out Z2.out rfl (by decide) (.slice (some ⟨_, 0, none⟩) 1 1) 1 [.string (linkN js x.link)] rfl (own_below (HOA.out _ (by simp)) (by (repeat (first | exact Below.refl _ _ | refine Below.drew ?_ | refine bl_alloc ?_ _ | refine bl_next hb24 ?_ | refine bl_next hb8 ?_)))) ⟨g24, 0, none⟩ 1 c24 (bs.map .string) rfl (by rw [List.length_map]; omega) (rdT_news (HRT.out.below (by (repeat (first | exact Below.refl _ _ | refine Below.drew ?_ | refine bl_alloc ?_ _ | refine bl_next hb24 ?_ | refine bl_next hb8 ?_))) (Nat.le_refl _))) (ones_str bs) (by unfold maxLen; omega) (by omega) hHeld.size ?_; intro v' w1 hown' hgrow _; obtain ⟨q1, q2, q3, rfl⟩ := own_slc hown'; have hb25 : Below V.heap.size V w1 := hHeld.grown hgrow hHeld.size (fun j hj => (World.ownsRow.lt (own_below (HOA.out _ (by simp)) (by (repeat (first | exact Below.refl _ _ | refine Below.drew ?_ | refine bl_alloc ?_ _ | refine bl_next hb24 ?_ | refine bl_next hb8 ?_)))) j hj).1); refine hK.out _ _ ?_ (fun hHeld => ?_); (focus (repeat (first | assumption | exact Below.refl _ _ | refine Below.drew ?_ | refine bl_alloc ?_ _ | refine bl_next hb24 ?_ | refine bl_next hb8 ?_))); clear hK K; (try simp only [Act.put, List.getElem_toArray, List.getElem_cons_succ, List.getElem_cons_zero, List.setIfInBounds_toArray, List.set_cons_zero, List.set_cons_succ])
            refine wpAnyH_take (i := 11) (v := ?_) rfl (by kernel_rfl) (by kernel_rfl) (by kernel_rfl) (fun _ _ _ h => h) (Or.inl ⟨by rfl, ?_⟩) (by assumption) ?_; rotate_left; (focus (intro w hSw; (try dsimp only at hSw); go_simp; try with_reducible rfl)); (try simp only [Act.put, List.getElem_toArray, List.getElem_cons_succ, List.getElem_cons_zero, List.setIfInBounds_toArray, List.set_cons_zero, List.set_cons_succ])
            refine wpAnyH_done (by kernel_rfl) ?_ _
            go_wp2_with fail
            go_meet
            exact ⟨[linkN js x.link] ++ bs, by simp [hbl], mem_app (by intro a ha; simp at ha; subst ha; exact HLK.out) hba, OwnT.app (by rw [hbl]; rfl) hown', hb25⟩
      case rest =>
        obtain ⟨xs0, hx8, hxa, hox, hbx⟩ := hcut
        clear NI NI0
        have HX8 := Lib.hid hx8
        have HXA := Lib.hid hxa
        have HOX := Lib.hid hox
        have HBX := Lib.hid hbx
        clear hx8 hxa hox hbx
        obtain ⟨wo, hwo⟩ : ∃ wo, wo = wr := ⟨_, rfl⟩
        subst hwo
        go_wp2_with fail
        go_loopw [6, 7] (fun v i wr => ∃ (k2 : Nat) (xs : List ByteArray), k2 ≤ np ∧ i = .int .i64 k2 ∧ xs.length = 2 + 3 * k2 ∧ (∀ a ∈ xs, ArgT a) ∧ OwnT V.heap.size wr v xs ∧ Below V.heap.size V wr) (fun _ i _ => np - (intOf i).toNat)
        case atStart => exact ⟨0, xs0, Nat.zero_le _, rfl, HX8.out, HXA.out, HOX.out, HBX.out⟩
        case round =>
          clear HX8 HXA HOX HBX
          obtain ⟨k2, xs, hk2, rfl, hx8, hxa, hox, hbx⟩ := hrel
          have e2 : wr.cell? ⟨wo.heap.size, 2, none⟩ = some (.slice Ap np cp) := rd2 _ hbx
          by_cases hlt2 : k2 < np
          · have HX8 := Lib.hid hx8
            have HXA := Lib.hid hxa
            have HBX := Lib.hid hbx
            have hxb : xs.length ≤ 14 := by omega
            have hbxs := hbx.size
            obtain ⟨_, _, ea, _, hm⟩ := HPV.out.point
            rw [HNP.out] at ea
            injection ea with ea _ ec
            subst ea ec
            obtain ⟨gp, rfl, hgp, b0, b1, b2⟩ := hm k2 (by rw [HNP.out]; exact hlt2)
            have hpk := HPP.out k2 (by rw [HNP.out]; exact hlt2)
            obtain ⟨p, hpe⟩ : ∃ p, x.ps[k2]'(by rw [HNP.out]; exact hlt2) = p := ⟨_, rfl⟩
            rw [hpe] at b0 b1 b2 hpk
            have NI := Lib.hid (nums_in [p.x, p.y, p.z] (by intro y hy; simp at hy; rcases hy with rfl | rfl | rfl <;> omega))
            have bd0 : ∀ w', Below V.heap.size V w' → w'.cell? ⟨gp, k2 * 3, none⟩ = some (.int .i64 p.x) := fun w' hb => (hb.cell (p := ⟨gp, k2 * 3, none⟩) hgp).trans b0
            have bd1 : ∀ w', Below V.heap.size V w' → w'.cell? ⟨gp, k2 * 3 + 1, none⟩ = some (.int .i64 p.y) := fun w' hb => (hb.cell (p := ⟨gp, k2 * 3 + 1, none⟩) hgp).trans b1
            have bd2 : ∀ w', Below V.heap.size V w' → w'.cell? ⟨gp, k2 * 3 + 2, none⟩ = some (.int .i64 p.z) := fun w' hb => (hb.cell (p := ⟨gp, k2 * 3 + 2, none⟩) hgp).trans b2
            obtain ⟨qx, kx, cx, rfl⟩ := own_slc hox
            have hkx := own_count hox
            subst hkx
            have HXO := Lib.hid (show World.ownsRow _ _ _ _ _ _ _ from hox)
            clear hm hpe hpk b0 b1 b2 hx8 hxa hox
            go_wp2_with fail
            clear e2
            have hbx : Below V.heap.size V wr := HBX.out
            refine wp_region_held_drew (S := (fun w3 => Below V.heap.size V w3)) (by kernel_rfl) ?_ (fun hHeld => ?_)
            focus (repeat (first | assumption | exact Below.refl _ _ | refine Below.drew ?_ | refine bl_alloc ?_ _ | refine bl_next hb24 ?_ | refine bl_next hb8 ?_))
            refine wpAnyH_take (i := 0) (v := ?_) rfl (by kernel_rfl) (by kernel_rfl) (by kernel_rfl) (fun _ _ _ h => h) (Or.inl ⟨by rfl, ?_⟩) (by assumption) ?_; rotate_left; (focus (intro w hSw; (try dsimp only at hSw); go_simp; try with_reducible rfl)); (try simp only [Act.put, List.getElem_toArray, List.getElem_cons_succ, List.getElem_cons_zero, List.setIfInBounds_toArray, List.set_cons_zero, List.set_cons_succ])
            refine wpAnyH_take (i := 1) (v := ?_) rfl (by kernel_rfl) (by kernel_rfl) (by kernel_rfl) (fun _ _ _ h => h) (Or.inl ⟨by rfl, ?_⟩) (by assumption) ?_; rotate_left; (focus (intro w hSw; (try dsimp only at hSw); go_simp; try with_reducible rfl)); (try simp only [Act.put, List.getElem_toArray, List.getElem_cons_succ, List.getElem_cons_zero, List.setIfInBounds_toArray, List.set_cons_zero, List.set_cons_succ])
            refine wpAnyH_take (i := 2) (v := ?_) rfl (by kernel_rfl) (by kernel_rfl) (by kernel_rfl) (fun _ _ _ h => h) (Or.inl ⟨by rfl, ?_⟩) (by assumption) ?_; rotate_left; (focus (intro w hSw; (try dsimp only at hSw); go_simp; try with_reducible rfl)); (try simp only [Act.put, List.getElem_toArray, List.getElem_cons_succ, List.getElem_cons_zero, List.setIfInBounds_toArray, List.set_cons_zero, List.set_cons_succ])
            refine wpAnyH_take (i := 3) (v := ?_) rfl (by kernel_rfl) (by kernel_rfl) (by kernel_rfl) (fun _ _ _ h => h) (Or.inl ⟨by rfl, ?_⟩) (by assumption) ?_; rotate_left; (focus (intro w hSw; (try dsimp only at hSw); go_simp; try with_reducible rfl)); (try simp only [Act.put, List.getElem_toArray, List.getElem_cons_succ, List.getElem_cons_zero, List.setIfInBounds_toArray, List.set_cons_zero, List.set_cons_succ])
            refine wpAnyH_take (i := 4) (v := (.pointer (some ⟨gp, k2 * 3, none⟩))) rfl (by kernel_rfl) (by kernel_rfl) (by kernel_rfl) (fun _ _ _ h => h) (Or.inl ⟨by rfl, by (intro w hSw; (try dsimp only at hSw); go_simp; try (first | (intro hbad; exfalso; omega) | rw [if_pos (by omega)]))⟩) (by assumption) ?_; (try simp only [Act.put, List.getElem_toArray, List.getElem_cons_succ, List.getElem_cons_zero, List.setIfInBounds_toArray, List.set_cons_zero, List.set_cons_succ])
            refine wpAnyH_take (i := 5) (v := ?_) rfl (by kernel_rfl) (by kernel_rfl) (by kernel_rfl) (fun _ _ _ h => h) (Or.inl ⟨by rfl, ?_⟩) (by assumption) ?_; rotate_left; (focus (intro w hSw; (try dsimp only at hSw); go_simp; try with_reducible rfl)); (try simp only [Act.put, List.getElem_toArray, List.getElem_cons_succ, List.getElem_cons_zero, List.setIfInBounds_toArray, List.set_cons_zero, List.set_cons_succ])
            refine wpAnyH_take (i := 6) (v := ?_) rfl (by kernel_rfl) (by kernel_rfl) (by kernel_rfl) (fun _ _ _ h => h) (Or.inl ⟨by rfl, ?_⟩) (by assumption) ?_; rotate_left; (focus (intro w hSw; (try dsimp only at hSw); go_simp; try with_reducible rfl)); (try simp only [Act.put, List.getElem_toArray, List.getElem_cons_succ, List.getElem_cons_zero, List.setIfInBounds_toArray, List.set_cons_zero, List.set_cons_succ])
            refine wpAnyH_take (i := 7) (v := ?_) rfl (by kernel_rfl) (by kernel_rfl) (by kernel_rfl) (fun _ _ _ h => h) (Or.inl ⟨by rfl, ?_⟩) (by assumption) ?_; rotate_left; (focus (intro w hSw; (try dsimp only at hSw); go_simp; try with_reducible rfl)); (try simp only [Act.put, List.getElem_toArray, List.getElem_cons_succ, List.getElem_cons_zero, List.setIfInBounds_toArray, List.set_cons_zero, List.set_cons_succ])
            refine wpAnyH_take (i := 8) (v := ?_) rfl (by kernel_rfl) (by kernel_rfl) (by kernel_rfl) (fun _ _ _ h => h) (Or.inl ⟨by rfl, ?_⟩) (by assumption) ?_; rotate_left; (focus (intro w hSw; (try dsimp only at hSw); go_simp; try with_reducible rfl)); (try simp only [Act.put, List.getElem_toArray, List.getElem_cons_succ, List.getElem_cons_zero, List.setIfInBounds_toArray, List.set_cons_zero, List.set_cons_succ])
            refine wpAnyH_take (i := 9) (v := ?_) rfl (by kernel_rfl) (by kernel_rfl) (by kernel_rfl) (fun _ _ _ h => h) (Or.inl ⟨by rfl, ?_⟩) (by assumption) ?_; rotate_left; (focus (intro w hSw; (try dsimp only at hSw); go_simp; try with_reducible rfl)); (try simp only [Act.put, List.getElem_toArray, List.getElem_cons_succ, List.getElem_cons_zero, List.setIfInBounds_toArray, List.set_cons_zero, List.set_cons_succ])
            refine wpAnyH_take (i := 10) (v := (.pointer (some ⟨gp, k2 * 3, none⟩))) rfl (by kernel_rfl) (by kernel_rfl) (by kernel_rfl) (fun _ _ _ h => h) (Or.inl ⟨by rfl, by (intro w hSw; (try dsimp only at hSw); go_simp; try (first | (intro hbad; exfalso; omega) | rw [if_pos (by omega)]))⟩) (by assumption) ?_; (try simp only [Act.put, List.getElem_toArray, List.getElem_cons_succ, List.getElem_cons_zero, List.setIfInBounds_toArray, List.set_cons_zero, List.set_cons_succ])
            refine wpAnyH_take (i := 11) (v := ?_) rfl (by kernel_rfl) (by kernel_rfl) (by kernel_rfl) (fun _ _ _ h => h) (Or.inl ⟨by rfl, ?_⟩) (by assumption) ?_; rotate_left; (focus (intro w hSw; (try dsimp only at hSw); go_simp; try with_reducible rfl)); (try simp only [Act.put, List.getElem_toArray, List.getElem_cons_succ, List.getElem_cons_zero, List.setIfInBounds_toArray, List.set_cons_zero, List.set_cons_succ])
            refine wpAnyH_take (i := 12) (v := ?_) rfl (by kernel_rfl) (by kernel_rfl) (by kernel_rfl) (fun _ _ _ h => h) (Or.inl ⟨by rfl, ?_⟩) (by assumption) ?_; rotate_left; (focus (intro w hSw; (try dsimp only at hSw); go_simp; try with_reducible rfl)); (try simp only [Act.put, List.getElem_toArray, List.getElem_cons_succ, List.getElem_cons_zero, List.setIfInBounds_toArray, List.set_cons_zero, List.set_cons_succ])
            refine wpAnyH_take (i := 13) (v := ?_) rfl (by kernel_rfl) (by kernel_rfl) (by kernel_rfl) (fun _ _ _ h => h) (Or.inl ⟨by rfl, ?_⟩) (by assumption) ?_; rotate_left; (focus (intro w hSw; (try dsimp only at hSw); go_simp; try with_reducible rfl)); (try simp only [Act.put, List.getElem_toArray, List.getElem_cons_succ, List.getElem_cons_zero, List.setIfInBounds_toArray, List.set_cons_zero, List.set_cons_succ])
            refine wpAnyH_take (i := 14) (v := ?_) rfl (by kernel_rfl) (by kernel_rfl) (by kernel_rfl) (fun _ _ _ h => h) (Or.inl ⟨by rfl, ?_⟩) (by assumption) ?_; rotate_left; (focus (intro w hSw; (try dsimp only at hSw); go_simp; try with_reducible rfl)); (try simp only [Act.put, List.getElem_toArray, List.getElem_cons_succ, List.getElem_cons_zero, List.setIfInBounds_toArray, List.set_cons_zero, List.set_cons_succ])
            refine wpAnyH_take (i := 15) (v := ?_) rfl (by kernel_rfl) (by kernel_rfl) (by kernel_rfl) (fun _ _ _ h => h) (Or.inl ⟨by rfl, ?_⟩) (by assumption) ?_; rotate_left; (focus (intro w hSw; (try dsimp only at hSw); go_simp; try with_reducible rfl)); (try simp only [Act.put, List.getElem_toArray, List.getElem_cons_succ, List.getElem_cons_zero, List.setIfInBounds_toArray, List.set_cons_zero, List.set_cons_succ])
            refine wpAnyH_take (i := 16) (v := (.pointer (some ⟨gp, k2 * 3, none⟩))) rfl (by kernel_rfl) (by kernel_rfl) (by kernel_rfl) (fun _ _ _ h => h) (Or.inl ⟨by rfl, by (intro w hSw; (try dsimp only at hSw); go_simp; try (first | (intro hbad; exfalso; omega) | rw [if_pos (by omega)]))⟩) (by assumption) ?_; (try simp only [Act.put, List.getElem_toArray, List.getElem_cons_succ, List.getElem_cons_zero, List.setIfInBounds_toArray, List.set_cons_zero, List.set_cons_succ])
            refine wpAnyH_take (i := 17) (v := ?_) rfl (by kernel_rfl) (by kernel_rfl) (by kernel_rfl) (fun _ _ _ h => h) (Or.inl ⟨by rfl, ?_⟩) (by assumption) ?_; rotate_left; (focus (intro w hSw; (try dsimp only at hSw); go_simp; try with_reducible rfl)); (try simp only [Act.put, List.getElem_toArray, List.getElem_cons_succ, List.getElem_cons_zero, List.setIfInBounds_toArray, List.set_cons_zero, List.set_cons_succ])
            refine wpAnyH_take (i := 18) (v := ?_) rfl (by kernel_rfl) (by kernel_rfl) (by kernel_rfl) (fun _ _ _ h => h) (Or.inl ⟨by rfl, ?_⟩) (by assumption) ?_; rotate_left; (focus (intro w hSw; (try dsimp only at hSw); go_simp; try with_reducible rfl)); (try simp only [Act.put, List.getElem_toArray, List.getElem_cons_succ, List.getElem_cons_zero, List.setIfInBounds_toArray, List.set_cons_zero, List.set_cons_succ])
            refine wpAnyH_ready (rs := [19]) (by kernel_rfl) (by simp) (AllReadyH.cons rfl (fun K hK => ?_) (AllReadyH.nil))
            go_simp; refine hK.out _ _ ?_ (fun hHeld => ?_); (focus (repeat (first | assumption | exact Below.refl _ _ | refine Below.drew ?_ | refine bl_alloc ?_ _ | refine bl_next hb24 ?_ | refine bl_next hb8 ?_))); clear hK K; (try simp only [Act.put, List.getElem_toArray, List.getElem_cons_succ, List.getElem_cons_zero, List.setIfInBounds_toArray, List.set_cons_zero, List.set_cons_succ]); first | have HU := Lib.hid (nums_of hHeld [p.x, p.y, p.z] 3 rfl rfl (by decide)) | have HU := Lib.hid (nums_ofD hHeld [p.x, p.y, p.z] 3 rfl rfl (by decide))
            refine wpAnyH_ready (rs := [20]) (by kernel_rfl) (by simp) (AllReadyH.cons rfl (fun K hK => ?_) (AllReadyH.nil))
            go_simp; (refine (rWritten_any _ 3 (fun k => ([p.x, p.y, p.z] : List Int).getD k 0) _ ((HU.out _ (by simp)).below (by (repeat (first | exact Below.refl _ _ | refine Below.drew ?_ | refine bl_alloc ?_ _ | refine bl_next hb24 ?_ | refine bl_next hb8 ?_))) (Nat.le_refl _)) (by decide) NI.out).mono ?_; rintro e w24 ⟨v24, bs, rfl, hbl, hba, hown24, hb24⟩; obtain ⟨g24, c24, rfl⟩ := own_some hown24 hbl (by decide); have HRT := Lib.hid (hown24.rd (by omega)); clear hown24); go_wp2_with fail; refine hK.out _ _ ?_ (fun hHeld => ?_); (focus (repeat (first | assumption | exact Below.refl _ _ | refine Below.drew ?_ | refine bl_alloc ?_ _ | refine bl_next hb24 ?_ | refine bl_next hb8 ?_))); clear hK K; (try simp only [Act.put, List.getElem_toArray, List.getElem_cons_succ, List.getElem_cons_zero, List.setIfInBounds_toArray, List.set_cons_zero, List.set_cons_succ])
            refine wpAnyH_ready (rs := [21]) (by kernel_rfl) (by simp) (AllReadyH.cons rfl (fun K hK => ?_) (AllReadyH.nil))
            rw [if_pos (by rfl)]; refine wp_append_own _ (.tmp 46) (.tmp 66) 41 rfl V.heap.size 9 z0 (.string ⟨#[]⟩) 1 16 under_strs Z.out Z0.out Z1.out Z2.out rfl (by decide) (.slice qx xs.length cx) xs.length (xs.map .string) rfl (own_below HXO.out (by (repeat (first | exact Below.refl _ _ | refine Below.drew ?_ | refine bl_alloc ?_ _ | refine bl_next hb24 ?_ | refine bl_next hb8 ?_)))) ⟨g24, 0, none⟩ 3 c24 (bs.map .string) rfl (by rw [List.length_map]; omega) (rdT_news (HRT.out.below (by (repeat (first | exact Below.refl _ _ | refine Below.drew ?_ | refine bl_alloc ?_ _ | refine bl_next hb24 ?_ | refine bl_next hb8 ?_))) (Nat.le_refl _))) (ones_str bs) (by unfold maxLen; omega) (by omega) hHeld.size ?_; intro v' w1 hown' hgrow _; obtain ⟨q1, q2, q3, rfl⟩ := own_slc hown'; have hb25 : Below V.heap.size V w1 := hHeld.grown hgrow hHeld.size (fun j hj => (World.ownsRow.lt (own_below HXO.out (by (repeat (first | exact Below.refl _ _ | refine Below.drew ?_ | refine bl_alloc ?_ _ | refine bl_next hb24 ?_ | refine bl_next hb8 ?_)))) j hj).1); refine hK.out _ _ ?_ (fun hHeld => ?_); (focus (repeat (first | assumption | exact Below.refl _ _ | refine Below.drew ?_ | refine bl_alloc ?_ _ | refine bl_next hb24 ?_ | refine bl_next hb8 ?_))); clear hK K; (try simp only [Act.put, List.getElem_toArray, List.getElem_cons_succ, List.getElem_cons_zero, List.setIfInBounds_toArray, List.set_cons_zero, List.set_cons_succ])
            refine wpAnyH_take (i := 22) (v := ?_) rfl (by kernel_rfl) (by kernel_rfl) (by kernel_rfl) (fun _ _ _ h => h) (Or.inl ⟨by rfl, ?_⟩) (by assumption) ?_; rotate_left; (focus (intro w hSw; (try dsimp only at hSw); go_simp; try with_reducible rfl)); (try simp only [Act.put, List.getElem_toArray, List.getElem_cons_succ, List.getElem_cons_zero, List.setIfInBounds_toArray, List.set_cons_zero, List.set_cons_succ])
            refine wpAnyH_done (by kernel_rfl) ?_ _
            have HPF := Lib.hid (OwnT.app (by rw [hbl]) hown')
            have HBF := Lib.hid hb25
            have HAF := Lib.hid (mem_app HXA.out hba)
            have HBL := Lib.hid hbl
            clear hown' hgrow hb25 HXO HXA hba hbl
            go_wp2_with fail
            go_roundw
            case rel => exact ⟨k2 + 1, _, by omega, by go_num, by rw [List.length_append, HX8.out, HBL.out]; omega, HAF.out, HPF.out, HBF.out⟩
            case measure => simp [intOf]; omega
          · have hke : k2 = np := by omega
            subst hke
            obtain ⟨qa, ka, ca, rfl⟩ := own_slc hox
            have hka := own_count hox
            subst hka
            have hpos := HNP.out
            have HX8 := Lib.hid hx8
            have HXA := Lib.hid hxa
            have HOX := Lib.hid hox
            have hxb : xs.length ≤ 20 := by omega
            have HOS := Lib.hid (HOV.out.next hbx)
            have HBC := Lib.hid (show Below U.heap.size U wr from HBV.out.trans (hbx.mono HBV.out.size))
            have hVs := HBV.out.size
            have hbxs := hbx.size
            clear hx8 hxa hox hbx
            have HOAs := Lib.hid (HOS.out.2.1.alloc (.cells #[.int .i64 ((l.length : Int) + 1), .string ⟨#[115, 104, 97, 112, 101]⟩, .slice qa xs.length ca] 43))
            go_wp2_with (first | (at_builtin; refine wpList_append_own _ rfl (.tmp 68) (.tmp 74) 33 rfl U.heap.size 43 y0 (.agg #[.int .i64 0, .string ⟨#[]⟩, .slice none 0 0]) 3 48 under_sts Y.out Y0.out Y1.out Y2.out rfl (by decide) _ l.length (stcells l vals) rfl HOAs.out ⟨wr.heap.size, 0, none⟩ 1 1 [.int .i64 ((l.length : Int) + 1), .string ⟨#[115, 104, 97, 112, 101]⟩, .slice qa xs.length ca] rfl rfl (newsS wr _ _ _ _) (fun u hu => by simp at hu; rcases hu with rfl | rfl | rfl <;> rfl) (by unfold maxLen; omega) (by omega) (by simp; omega) ?_) | fail)
            intro v2 w2 hown' hgrow _
            have HPF := Lib.hid (OutS.push (g := ⟨(l.length : Int) + 1, ⟨#[115, 104, 97, 112, 101]⟩, xs⟩) HOS.out (owns_base HOX.out (by omega)) hown' hgrow)
            have HBF := Lib.hid (show Below U.heap.size U w2 from (HBC.out.alloc HBC.out.size _).grown hgrow (by have := HBC.out.size; simp; omega) (fun j hj => (HOS.out.2.1.lt j hj).1))
            have HGM := Lib.hid (goodW_shape (n := (l.length : Int) + 1) (xs := xs) k2 p1 p4 HX8.out HXA.out)
            clear hown' hgrow HOAs HOS HOX
            go_wp2_with fail
            go_roundw
            case rel => exact ⟨k + 1, _, _, by omega, by go_num, HPF.out, by simp; omega, mem_snoc HGW.out HGM.out, HBF.out⟩
            case measure => simp [intOf]; omega
    · have hke : k = ss.length := by omega
      subst hke
      have HOUT := Lib.hid hout
      have HGW := Lib.hid hgw
      have HB := Lib.hid hb
      have HLLx := Lib.hid hll
      clear hout hgw hb hll
      obtain ⟨wo, hwo⟩ : ∃ wo, wo = wr := ⟨_, rfl⟩
      subst hwo
      obtain ⟨vo, hvo⟩ : ∃ v, Value.slice qo l.length co = v := ⟨_, rfl⟩
      rw [hvo] at HOUT ⊢
      obtain ⟨l9, hl0⟩ : ∃ x, x = l := ⟨_, rfl⟩
      obtain ⟨vals9, hv0⟩ : ∃ x, x = vals := ⟨_, rfl⟩
      rw [← hl0, ← hv0] at HOUT
      rw [← hl0] at HGW HLLx
      clear hvo hl0 hv0
      go_wp2_with fail
      clear r0 r1 r2 r3
      go_loopw [3, 8] (fun v i wr => ∃ (k : Nat) (l : List St) (vals : List Value), k ≤ ks.length ∧ i = .int .i64 k ∧ OutS U.heap.size wr v l vals ∧ (1 ≤ l.length ∧ l.length ≤ 8 + ss.length + k) ∧ (∀ g ∈ l, GoodW g) ∧ Below U.heap.size U wr) (fun _ i _ => ks.length - (intOf i).toNat)
      case atStart => exact ⟨0, l9, vals9, Nat.zero_le _, rfl, HOUT.out, HLLx.out, HGW.out, HB.out⟩
      case round =>
        clear HOUT HGW HB HLLx
        obtain ⟨k, l, vals, hk, rfl, hout, hll, hgw, hb⟩ := hrel
        have hRr := ScAt.below RU.out hb hqU
        have r3 : wr.cell? ⟨w.heap.size, 3, none⟩ = some (.slice Ak ks.length ck) := cell_of_row _ _ 3 _ _ _ hRr
        obtain ⟨qo, ko, co, rfl⟩ := own_slc hout.2.1
        have hko := own_count hout.2.1
        subst hko
        by_cases hlt : k < ks.length
        · obtain ⟨V, hVV⟩ : ∃ V, V = wr := ⟨_, rfl⟩
          subst hVV
          obtain ⟨_, _, ea, _, hm⟩ := (HRU.out.rk.below hb (Nat.le_refl _)).skip
          injection ea with ea _ ec
          subst ea ec
          obtain ⟨g, rfl, hg, c0, c1⟩ := hm k hlt
          obtain ⟨n0, n1, n2⟩ := HRU.out.mK k hlt
          obtain ⟨x, hxe⟩ : ∃ x, ks[k] = x := ⟨_, rfl⟩
          rw [hxe] at c0 c1 n0 n1 n2
          have na1 : -1 ≤ x.a := by omega
          have na2 : x.a < js.length := by omega
          clear n0
          have HLA := Lib.hid (link_arg (js := js) (k := x.a) (by omega) (by omega) l3 HRU.out.rob.mj)
          have HLB := Lib.hid (link_arg (js := js) (k := x.b) (by omega) (by omega) l3 HRU.out.rob.mj)
          have HOV := Lib.hid hout
          have HRJ := Lib.hid (HRU.out.rob.rj.below hb (Nat.le_refl _))
          have HBV := Lib.hid hb
          have HGW := Lib.hid hgw
          have hkU := hb.size
          have hrb := hRr.lt
          have rr0 : ∀ w', Below V.heap.size V w' → w'.cell? ⟨w.heap.size, 0, none⟩ = some (.slice Aj js.length cj) := fun w' hb => (hb.cell (p := ⟨w.heap.size, 0, none⟩) hrb).trans hRr.c0
          have rr1 : ∀ w', Below V.heap.size V w' → w'.cell? ⟨w.heap.size, 1, none⟩ = some (.slice Am ms.length cm) := fun w' hb => (hb.cell (p := ⟨w.heap.size, 1, none⟩) hrb).trans hRr.c1
          have rr3 : ∀ w', Below V.heap.size V w' → w'.cell? ⟨w.heap.size, 3, none⟩ = some (.slice (some ⟨g, 0, none⟩) ks.length ck) := fun w' hb => (hb.cell (p := ⟨w.heap.size, 3, none⟩) hrb).trans (cell_of_row _ _ 3 _ _ _ hRr)
          have sd0 : ∀ w', Below V.heap.size V w' → w'.cell? ⟨g, k * 2, none⟩ = some (.int .i64 x.a) := fun w' hb => (hb.cell (p := ⟨g, k * 2, none⟩) hg).trans c0
          have sd1 : ∀ w', Below V.heap.size V w' → w'.cell? ⟨g, k * 2 + 1, none⟩ = some (.int .i64 x.b) := fun w' hb => (hb.cell (p := ⟨g, k * 2 + 1, none⟩) hg).trans c1
          clear hm hxe hout hgw hb hRr c0 c1
          go_wp2_with fail
          clear r3
          go_cut [9] from 83 to 101 (fun v wx => ∃ xs : List ByteArray, xs.length = 2 ∧ (∀ a ∈ xs, ArgT a) ∧ OwnT V.heap.size wx v xs ∧ Below V.heap.size V wx)
          case first =>
            refine wp_region_held_drew (S := (fun w3 => Below V.heap.size V w3)) (by kernel_rfl) ?_ (fun hHeld => ?_)
            focus (repeat (first | assumption | exact Below.refl _ _ | refine Below.drew ?_ | refine bl_alloc ?_ _ | refine bl_next hb24 ?_ | refine bl_next hb8 ?_))
            refine wpAnyH_take (i := 0) (v := ?_) rfl (by kernel_rfl) (by kernel_rfl) (by kernel_rfl) (fun _ _ _ h => h) (Or.inl ⟨by rfl, ?_⟩) (by assumption) ?_; rotate_left; (focus (intro w hSw; (try dsimp only at hSw); go_simp; try with_reducible rfl)); (try simp only [Act.put, List.getElem_toArray, List.getElem_cons_succ, List.getElem_cons_zero, List.setIfInBounds_toArray, List.set_cons_zero, List.set_cons_succ])
            refine wpAnyH_take (i := 1) (v := ?_) rfl (by kernel_rfl) (by kernel_rfl) (by kernel_rfl) (fun _ _ _ h => h) (Or.inl ⟨by rfl, ?_⟩) (by assumption) ?_; rotate_left; (focus (intro w hSw; (try dsimp only at hSw); go_simp; try with_reducible rfl)); (try simp only [Act.put, List.getElem_toArray, List.getElem_cons_succ, List.getElem_cons_zero, List.setIfInBounds_toArray, List.set_cons_zero, List.set_cons_succ])
            refine wpAnyH_take (i := 2) (v := ?_) rfl (by kernel_rfl) (by kernel_rfl) (by kernel_rfl) (fun _ _ _ h => h) (Or.inl ⟨by rfl, ?_⟩) (by assumption) ?_; rotate_left; (focus (intro w hSw; (try dsimp only at hSw); go_simp; try with_reducible rfl)); (try simp only [Act.put, List.getElem_toArray, List.getElem_cons_succ, List.getElem_cons_zero, List.setIfInBounds_toArray, List.set_cons_zero, List.set_cons_succ])
            refine wpAnyH_take (i := 3) (v := ?_) rfl (by kernel_rfl) (by kernel_rfl) (by kernel_rfl) (fun _ _ _ h => h) (Or.inl ⟨by rfl, ?_⟩) (by assumption) ?_; rotate_left; (focus (intro w hSw; (try dsimp only at hSw); go_simp; try with_reducible rfl)); (try simp only [Act.put, List.getElem_toArray, List.getElem_cons_succ, List.getElem_cons_zero, List.setIfInBounds_toArray, List.set_cons_zero, List.set_cons_succ])
            refine wpAnyH_take (i := 4) (v := ?_) rfl (by kernel_rfl) (by kernel_rfl) (by kernel_rfl) (fun _ _ _ h => h) (Or.inl ⟨by rfl, ?_⟩) (by assumption) ?_; rotate_left; (focus (intro w hSw; (try dsimp only at hSw); go_simp; try with_reducible rfl)); (try simp only [Act.put, List.getElem_toArray, List.getElem_cons_succ, List.getElem_cons_zero, List.setIfInBounds_toArray, List.set_cons_zero, List.set_cons_succ])
            refine wpAnyH_take (i := 5) (v := (.pointer (some ⟨g, k * 2, none⟩))) rfl (by kernel_rfl) (by kernel_rfl) (by kernel_rfl) (fun _ _ _ h => h) (Or.inl ⟨by rfl, by (intro w hSw; (try dsimp only at hSw); go_simp; try (first | (intro hbad; exfalso; omega) | rw [if_pos (by omega)]))⟩) (by assumption) ?_; (try simp only [Act.put, List.getElem_toArray, List.getElem_cons_succ, List.getElem_cons_zero, List.setIfInBounds_toArray, List.set_cons_zero, List.set_cons_succ])
            refine wpAnyH_take (i := 6) (v := ?_) rfl (by kernel_rfl) (by kernel_rfl) (by kernel_rfl) (fun _ _ _ h => h) (Or.inl ⟨by rfl, ?_⟩) (by assumption) ?_; rotate_left; (focus (intro w hSw; (try dsimp only at hSw); go_simp; try with_reducible rfl)); (try simp only [Act.put, List.getElem_toArray, List.getElem_cons_succ, List.getElem_cons_zero, List.setIfInBounds_toArray, List.set_cons_zero, List.set_cons_succ])
            refine wpAnyH_take (i := 7) (v := ?_) rfl (by kernel_rfl) (by kernel_rfl) (by kernel_rfl) (fun _ _ _ h => h) (Or.inl ⟨by rfl, ?_⟩) (by assumption) ?_; rotate_left; (focus (intro w hSw; (try dsimp only at hSw); go_simp; try with_reducible rfl)); (try simp only [Act.put, List.getElem_toArray, List.getElem_cons_succ, List.getElem_cons_zero, List.setIfInBounds_toArray, List.set_cons_zero, List.set_cons_succ])
            refine wpAnyH_take (i := 9) (v := ?_) rfl (by kernel_rfl) (by kernel_rfl) (by kernel_rfl) (fun _ _ _ h => h) (Or.inl ⟨by rfl, ?_⟩) (by assumption) ?_; rotate_left; (focus (intro w hSw; (try dsimp only at hSw); go_simp; try with_reducible rfl)); (try simp only [Act.put, List.getElem_toArray, List.getElem_cons_succ, List.getElem_cons_zero, List.setIfInBounds_toArray, List.set_cons_zero, List.set_cons_succ])
            refine wpAnyH_take (i := 10) (v := ?_) rfl (by kernel_rfl) (by kernel_rfl) (by kernel_rfl) (fun _ _ _ h => h) (Or.inl ⟨by rfl, ?_⟩) (by assumption) ?_; rotate_left; (focus (intro w hSw; (try dsimp only at hSw); go_simp; try with_reducible rfl)); (try simp only [Act.put, List.getElem_toArray, List.getElem_cons_succ, List.getElem_cons_zero, List.setIfInBounds_toArray, List.set_cons_zero, List.set_cons_succ])
            refine wpAnyH_take (i := 11) (v := ?_) rfl (by kernel_rfl) (by kernel_rfl) (by kernel_rfl) (fun _ _ _ h => h) (Or.inl ⟨by rfl, ?_⟩) (by assumption) ?_; rotate_left; (focus (intro w hSw; (try dsimp only at hSw); go_simp; try with_reducible rfl)); (try simp only [Act.put, List.getElem_toArray, List.getElem_cons_succ, List.getElem_cons_zero, List.setIfInBounds_toArray, List.set_cons_zero, List.set_cons_succ])
            refine wpAnyH_take (i := 12) (v := ?_) rfl (by kernel_rfl) (by kernel_rfl) (by kernel_rfl) (fun _ _ _ h => h) (Or.inl ⟨by rfl, ?_⟩) (by assumption) ?_; rotate_left; (focus (intro w hSw; (try dsimp only at hSw); go_simp; try with_reducible rfl)); (try simp only [Act.put, List.getElem_toArray, List.getElem_cons_succ, List.getElem_cons_zero, List.setIfInBounds_toArray, List.set_cons_zero, List.set_cons_succ])
            refine wpAnyH_take (i := 13) (v := ?_) rfl (by kernel_rfl) (by kernel_rfl) (by kernel_rfl) (fun _ _ _ h => h) (Or.inl ⟨by rfl, ?_⟩) (by assumption) ?_; rotate_left; (focus (intro w hSw; (try dsimp only at hSw); go_simp; try with_reducible rfl)); (try simp only [Act.put, List.getElem_toArray, List.getElem_cons_succ, List.getElem_cons_zero, List.setIfInBounds_toArray, List.set_cons_zero, List.set_cons_succ])
            refine wpAnyH_take (i := 14) (v := (.pointer (some ⟨g, k * 2, none⟩))) rfl (by kernel_rfl) (by kernel_rfl) (by kernel_rfl) (fun _ _ _ h => h) (Or.inl ⟨by rfl, by (intro w hSw; (try dsimp only at hSw); go_simp; try (first | (intro hbad; exfalso; omega) | rw [if_pos (by omega)]))⟩) (by assumption) ?_; (try simp only [Act.put, List.getElem_toArray, List.getElem_cons_succ, List.getElem_cons_zero, List.setIfInBounds_toArray, List.set_cons_zero, List.set_cons_succ])
            refine wpAnyH_take (i := 15) (v := ?_) rfl (by kernel_rfl) (by kernel_rfl) (by kernel_rfl) (fun _ _ _ h => h) (Or.inl ⟨by rfl, ?_⟩) (by assumption) ?_; rotate_left; (focus (intro w hSw; (try dsimp only at hSw); go_simp; try with_reducible rfl)); (try simp only [Act.put, List.getElem_toArray, List.getElem_cons_succ, List.getElem_cons_zero, List.setIfInBounds_toArray, List.set_cons_zero, List.set_cons_succ])
            refine wpAnyH_take (i := 16) (v := ?_) rfl (by kernel_rfl) (by kernel_rfl) (by kernel_rfl) (fun _ _ _ h => h) (Or.inl ⟨by rfl, ?_⟩) (by assumption) ?_; rotate_left; (focus (intro w hSw; (try dsimp only at hSw); go_simp; try with_reducible rfl)); (try simp only [Act.put, List.getElem_toArray, List.getElem_cons_succ, List.getElem_cons_zero, List.setIfInBounds_toArray, List.set_cons_zero, List.set_cons_succ])
            refine wpAnyH_ready (rs := [8]) (by kernel_rfl) (by simp) (AllReadyH.cons rfl (fun K hK => ?_) (AllReadyH.nil))
            go_simp; (refine (rLinkName_any js _ _ x.a _ (HRJ.out.below (by assumption) (Nat.le_refl _)) (by omega) (by omega) (by omega)).mono ?_; rintro e w8 ⟨rfl, hb8⟩); go_wp2_with fail; refine hK.out _ _ ?_ (fun hHeld => ?_); (focus (repeat (first | assumption | exact Below.refl _ _ | refine Below.drew ?_ | refine bl_alloc ?_ _ | refine bl_next hb24 ?_ | refine bl_next hb8 ?_))); clear hK K; (try simp only [Act.put, List.getElem_toArray, List.getElem_cons_succ, List.getElem_cons_zero, List.setIfInBounds_toArray, List.set_cons_zero, List.set_cons_succ])
            refine wpAnyH_ready (rs := [17]) (by kernel_rfl) (by simp) (AllReadyH.cons rfl (fun K hK => ?_) (AllReadyH.nil))
            go_simp; (refine (rLinkName_any js _ _ x.b _ (HRJ.out.below (by assumption) (Nat.le_refl _)) (by omega) (by omega) (by omega)).mono ?_; rintro e w24 ⟨rfl, hb24⟩); go_wp2_with fail; refine hK.out _ _ ?_ (fun hHeld => ?_); (focus (repeat (first | assumption | exact Below.refl _ _ | refine Below.drew ?_ | refine bl_alloc ?_ _ | refine bl_next hb24 ?_ | refine bl_next hb8 ?_))); clear hK K; (try simp only [Act.put, List.getElem_toArray, List.getElem_cons_succ, List.getElem_cons_zero, List.setIfInBounds_toArray, List.set_cons_zero, List.set_cons_succ])
            refine wpAnyH_ready (rs := [18]) (by kernel_rfl) (by simp) (AllReadyH.cons rfl (fun K hK => ?_) (AllReadyH.nil))
            go_simp; refine hK.out _ _ ?_ (fun hHeld => ?_); (focus (repeat (first | assumption | exact Below.refl _ _ | refine Below.drew ?_ | refine bl_alloc ?_ _ | refine bl_next hb24 ?_ | refine bl_next hb8 ?_))); clear hK K; (try simp only [Act.put, List.getElem_toArray, List.getElem_cons_succ, List.getElem_cons_zero, List.setIfInBounds_toArray, List.set_cons_zero, List.set_cons_succ]); have HOA := Lib.hid (row_of hHeld (by assumption) [linkN js x.a, linkN js x.b] 2 rfl rfl (by decide))
            refine wpAnyH_take (i := 19) (v := ?_) rfl (by kernel_rfl) (by kernel_rfl) (by kernel_rfl) (fun _ _ _ h => h) (Or.inl ⟨by rfl, ?_⟩) (by assumption) ?_; rotate_left; (focus (intro w hSw; (try dsimp only at hSw); go_simp; try with_reducible rfl)); (try simp only [Act.put, List.getElem_toArray, List.getElem_cons_succ, List.getElem_cons_zero, List.setIfInBounds_toArray, List.set_cons_zero, List.set_cons_succ])
            refine wpAnyH_done (by kernel_rfl) ?_ _
            have HOB : OwnT V.heap.size _ _ [linkN js x.a, linkN js x.b] := HOA.out _ rfl
            have HAB : ∀ a ∈ [linkN js x.a, linkN js x.b], ArgT a := by
              intro a ha
              rcases List.mem_cons.1 ha with rfl | ha
              · exact HLA.out
              · rcases List.mem_cons.1 ha with rfl | ha
                · exact HLB.out
                · cases ha
            obtain ⟨xs2, hxs2⟩ : ∃ xs : List ByteArray, [linkN js x.a, linkN js x.b] = xs := ⟨_, rfl⟩
            have hl2 : xs2.length = 2 := by rw [← hxs2]; rfl
            rw [hxs2] at HOB HAB
            clear hxs2
            have hHF := hHeld
            go_wp2_with fail
            go_meet
            exact ⟨xs2, hl2, HAB, HOB, hHF⟩
          case rest =>
            obtain ⟨xs, hx8, hxa, hox, hbx⟩ := hcut
            obtain ⟨qa, ka, ca, rfl⟩ := own_slc hox
            have hka := own_count hox
            subst hka
            have HX8 := Lib.hid hx8
            have HXA := Lib.hid hxa
            have HOX := Lib.hid hox
            have hxb : xs.length ≤ 20 := by omega
            have HOS := Lib.hid (HOV.out.next hbx)
            have HBC := Lib.hid (show Below U.heap.size U wc from HBV.out.trans (hbx.mono HBV.out.size))
            have hVs := HBV.out.size
            have hbxs := hbx.size
            clear hx8 hxa hox hbx
            have HOAs := Lib.hid (HOS.out.2.1.alloc (.cells #[.int .i64 ((l.length : Int) + 1), .string ⟨#[115, 107, 105, 112]⟩, .slice qa xs.length ca] 43))
            go_wp2_with (first | (at_builtin; refine wpList_append_own _ rfl (.tmp 102) (.tmp 108) 33 rfl U.heap.size 43 y0 (.agg #[.int .i64 0, .string ⟨#[]⟩, .slice none 0 0]) 3 48 under_sts Y.out Y0.out Y1.out Y2.out rfl (by decide) _ l.length (stcells l vals) rfl HOAs.out ⟨wc.heap.size, 0, none⟩ 1 1 [.int .i64 ((l.length : Int) + 1), .string ⟨#[115, 107, 105, 112]⟩, .slice qa xs.length ca] rfl rfl (newsS wc _ _ _ _) (fun u hu => by simp at hu; rcases hu with rfl | rfl | rfl <;> rfl) (by unfold maxLen; omega) (by omega) (by simp; omega) ?_) | fail)
            intro v2 w2 hown' hgrow _
            have HPF := Lib.hid (OutS.push (g := ⟨(l.length : Int) + 1, ⟨#[115, 107, 105, 112]⟩, xs⟩) HOS.out (owns_base HOX.out (by omega)) hown' hgrow)
            have HBF := Lib.hid (show Below U.heap.size U w2 from (HBC.out.alloc HBC.out.size _).grown hgrow (by have := HBC.out.size; simp; omega) (fun j hj => (HOS.out.2.1.lt j hj).1))
            have HGM := Lib.hid (goodW_skip (n := (l.length : Int) + 1) (xs := xs) HX8.out HXA.out)
            clear hown' hgrow HOAs HOS HOX
            go_wp2_with fail
            go_roundw
            case rel => exact ⟨k + 1, _, _, by omega, by go_num, HPF.out, by simp; omega, mem_snoc HGW.out HGM.out, HBF.out⟩
            case measure => simp [intOf]; omega
        · have HOUT := Lib.hid hout
          have HGW := Lib.hid hgw
          have HB := Lib.hid hb
          have HLLx := Lib.hid (show 1 ≤ l.length ∧ l.length ≤ 15 by omega)
          clear hout hgw hb hll hRr
          go_wp2_with fail
          go_ret
          exact ⟨_, l, rfl, HOUT.out.rd (by have := HLLx.out; omega) (fun g hg => by have := (HGW.out g hg).2.2.1; omega), scn_good HLLx.out HGW.out, BU.out.trans (HB.out.mono BU.out.size)⟩
end Go.Proofs.YtpaiapcnoifpmaaDoor
