/- Proved: the statement RobotChecks returns true. Conditions: as the theorem states. -/
import Derived.Test.YtpaiapcnoifpmaaDoorRd1
import Derived.Test.YtpaiapcnoifpmaaDoorRbA
namespace Go.Proofs.YtpaiapcnoifpmaaDoor
open Go.RowKit

theorem list_below {w w' : World} {a : Option Addr} {n B : Nat} (h : ListAt w a n) (hb : Below B w w') (hB : w.heap.size ≤ B) : ListAt w' a n := by
  refine ⟨h.1, fun t ht => ?_⟩
  obtain ⟨lb, lo, z, h1, h2, h3, h4⟩ := h.2 t ht
  have hs := hb.size
  exact ⟨lb, lo, z, h1, by omega, (hb.cell (p := ⟨lb, lo + t, none⟩) (by show lb < B; omega)).trans h3, h4⟩
set_option linter.unusedSimpArgs false in
set_option linter.unusedVariables false in
set_option maxRecDepth 100000 in
set_option maxHeartbeats 12800000 in
theorem RobotChecks_any (js0 : List JointD) (ms0 : List MassD) (vj0 vm0 : Value) (a0 : Option Addr) (n0 c0 : Nat) (how at' v : Int) (w : World) (p1 : -9223372036854775808 ≤ how) (p2 : how ≤ 9223372036854775807) (p3 : -9223372036854775808 ≤ at') (p4 : at' ≤ 9223372036854775807) (p5 : -9223372036854775808 ≤ v) (p6 : v ≤ 9223372036854775807) (hr : RobD w vj0 vm0 js0 ms0) (l0 : ListAt w a0 n0) (hT : KindT w) :
    Calls Tryd.prog 3 #[ .agg #[vj0, vm0], .slice a0 n0 c0, .int .i64 how, .int .i64 at', .int .i64 v ] w fun e w' => e = .returned (.bool true) ∧ Below w.heap.size w w' := by
  have HR0 := Lib.hid hr
  have HT := Lib.hid hT
  obtain ⟨Bj, dj, rfl, hdj, _⟩ := hr.rj.joint
  obtain ⟨Bm, dm, rfl, hdm, _⟩ := hr.rm.mass
  have hB0 := (Below.refl w.heap.size w).alloc (Nat.le_refl _) (.cells #[.slice Bj js0.length dj, .slice Bm ms0.length dm] 25)
  have HL := Lib.hid (list_below l0 hB0 (Nat.le_refl _))
  have HB0 := Lib.hid hB0
  have HRA := Lib.hid (RobAt.box (V := w) (vj := .slice Bj js0.length dj) (vm := .slice Bm ms0.length dm) rfl)
  clear hr hT l0 hB0
  go_enter Tryd.func3, Tryd.ntmps3
  go_wp2_with fail
  refine (mkRobot_any a0 n0 c0 _ HL.out).mono ?_
  rintro e w1 ⟨vj, vm, js, ms, rfl, hm, hb⟩
  obtain ⟨Aj, cj, rfl, hcj, _⟩ := hm.rj.joint
  obtain ⟨Am, cm, rfl, hcm, _⟩ := hm.rm.mass
  have HCK := Lib.hid (made_check hm)
  have hB1 := bl_next hb HB0.out
  have hRA1 := RobAt.below HRA.out hb (by simp)
  have hal := (Below.refl _ w1).alloc (Nat.le_refl _) (.cells #[.slice Aj js.length cj, .slice Am ms.length cm] 25)
  have HM := Lib.hid (hm.below hal (Nat.le_refl _))
  have hR := RobAt.box (V := w1) (vj := .slice Aj js.length cj) (vm := .slice Am ms.length cm) rfl
  have hRA2 := RobAt.below hRA1 hal hRA1.lt'
  have hB2 := bl_next hal hB1
  clear hm hb hB1 hRA1 hal HB0 HRA
  go_wp2_with fail
  obtain ⟨U, hU⟩ : ∃ U, w1.alloc (.cells #[.slice Aj js.length cj, .slice Am ms.length cm] 25) = U := ⟨_, rfl⟩
  rw [hU] at hR hRA2 hB2 HM ⊢
  obtain ⟨rb, hrb⟩ : ∃ b, w1.heap.size = b := ⟨_, rfl⟩
  rw [hrb] at hR ⊢
  clear hU hrb
  have RU := Lib.hid hR
  have QU := Lib.hid hRA2
  have BU := Lib.hid hB2
  clear hR hRA2 hB2
  refine (changed8_any js ms _ _ how at' v _ HM.out ⟨p1, p2⟩ ⟨p3, p4⟩ ⟨p5, p6⟩).mono ?_
  rintro e w2 ⟨xj, xm, jx, mx, rfl, hx, _, _, _, hb⟩
  obtain ⟨Xj, ej, rfl, _, _⟩ := hx.rj.joint
  obtain ⟨Xm, em, rfl, _, _⟩ := hx.rm.mass
  have hal := (Below.refl _ w2).alloc (Nat.le_refl _) (.cells #[.slice Xj jx.length ej, .slice Xm mx.length em] 25)
  have hX := RobAt.box (V := w2) (vj := .slice Xj jx.length ej) (vm := .slice Xm mx.length em) rfl
  have hbu := bl_next hal hb
  have RV := Lib.hid (RU.out.below hbu RU.out.lt')
  have QV := Lib.hid (QU.out.below hbu QU.out.lt')
  have BV := Lib.hid (bl_next hbu BU.out)
  have HD1 := Lib.hid (HM.out.robD.below hbu (Nat.le_refl _))
  have HDX := Lib.hid (hx.below hal (Nat.le_refl _))
  clear hx hb hal hbu RU QU BU HM
  go_wp2_with fail
  obtain ⟨V, hV⟩ : ∃ V, w2.alloc (.cells #[.slice Xj jx.length ej, .slice Xm mx.length em] 25) = V := ⟨_, rfl⟩
  rw [hV] at hX RV QV BV HD1 HDX ⊢
  obtain ⟨xb, hxb⟩ : ∃ b, w2.heap.size = b := ⟨_, rfl⟩
  rw [hxb] at hX ⊢
  clear hV hxb
  have XV := Lib.hid hX
  clear hX
  have HD0 := Lib.hid (HR0.out.below BV.out (Nat.le_refl _))
  have KT := Lib.hid (HT.out.next BV.out)
  have HD := Lib.hid (show ∀ W' : World, Below V.heap.size V W' → (fun w1 : World => w1.cell? ⟨w.heap.size, 0, none⟩ = some (.slice Bj js0.length dj) ∧ w1.cell? ⟨w.heap.size, 1, none⟩ = some (.slice Bm ms0.length dm) ∧ w1.cell? ⟨rb, 0, none⟩ = some (.slice Aj js.length cj) ∧ w1.cell? ⟨rb, 1, none⟩ = some (.slice Am ms.length cm) ∧ w1.cell? ⟨xb, 0, none⟩ = some (.slice Xj jx.length ej) ∧ w1.cell? ⟨xb, 1, none⟩ = some (.slice Xm mx.length em) ∧ Below V.heap.size V w1) W' from fun W' h => ⟨(QV.out.below h QV.out.lt').c0, (QV.out.below h QV.out.lt').c1, (RV.out.below h RV.out.lt').c0, (RV.out.below h RV.out.lt').c1, (XV.out.below h XV.out.lt').c0, (XV.out.below h XV.out.lt').c1, h⟩)
  obtain ⟨k0, hk0⟩ : ∃ x, checkR js0 ms0 = x := ⟨_, rfl⟩
  obtain ⟨kx, hkx⟩ : ∃ x, checkR jx mx = x := ⟨_, rfl⟩
  refine wp_region_noPanic ?_
  refine wp_region_held_drew (S := (fun w1 : World => w1.cell? ⟨w.heap.size, 0, none⟩ = some (.slice Bj js0.length dj) ∧ w1.cell? ⟨w.heap.size, 1, none⟩ = some (.slice Bm ms0.length dm) ∧ w1.cell? ⟨rb, 0, none⟩ = some (.slice Aj js.length cj) ∧ w1.cell? ⟨rb, 1, none⟩ = some (.slice Am ms.length cm) ∧ w1.cell? ⟨xb, 0, none⟩ = some (.slice Xj jx.length ej) ∧ w1.cell? ⟨xb, 1, none⟩ = some (.slice Xm mx.length em) ∧ Below V.heap.size V w1)) (by kernel_rfl) ?_ (fun hHeld => ?_)
  focus (refine HD.out _ ?_; first | exact (Below.refl _ _).drew | exact hHeld.2.2.2.2.2.2 | exact bl_next hb (hHeld.2.2.2.2.2.2))
  refine wpAnyH_ready (rs := [0]) (by kernel_rfl) (by simp) (AllReadyH.cons rfl (fun K hK => ?_) AllReadyH.nil); go_simp; (refine (awake8_any _ (KT.out.next hHeld.2.2.2.2.2.2)).mono ?_; rintro e w9 ⟨rfl, hb⟩); go_wp2_with fail; refine hK.out _ _ ?_ (fun hHeld => ?_); (focus (refine HD.out _ ?_; first | exact (Below.refl _ _).drew | exact hHeld.2.2.2.2.2.2 | exact bl_next hb (hHeld.2.2.2.2.2.2))); clear hK K; (try simp only [Act.put, List.getElem_toArray, List.getElem_cons_succ, List.getElem_cons_zero, List.setIfInBounds_toArray, List.set_cons_zero, List.set_cons_succ])
  refine wpAnyH_take (i := 1) (v := ?_) rfl (by kernel_rfl) (by kernel_rfl) (by kernel_rfl) (fun _ _ _ h => h) (Or.inl ⟨by rfl, ?_⟩) (by assumption) ?_; rotate_left; (focus (intro w hSw; (try dsimp only at hSw); go_simp; try with_reducible rfl)); (try simp only [Act.put, List.getElem_toArray, List.getElem_cons_succ, List.getElem_cons_zero, List.setIfInBounds_toArray, List.set_cons_zero, List.set_cons_succ])
  refine wpAnyH_take (i := 2) (v := ?_) rfl (by kernel_rfl) (by kernel_rfl) (by kernel_rfl) (fun _ _ _ h => h) (Or.inl ⟨by rfl, ?_⟩) (by assumption) ?_; rotate_left; (focus (intro w hSw; (try dsimp only at hSw); go_simp; try with_reducible rfl)); (try simp only [Act.put, List.getElem_toArray, List.getElem_cons_succ, List.getElem_cons_zero, List.setIfInBounds_toArray, List.set_cons_zero, List.set_cons_succ])
  refine wpAnyH_ready (rs := [3]) (by kernel_rfl) (by simp) (AllReadyH.cons rfl (fun K hK => ?_) AllReadyH.nil); go_simp; (refine (sCheck_any js ms _ _ _ (HD1.out.below hHeld.2.2.2.2.2.2 (Nat.le_refl _))).mono ?_; rintro e w9 ⟨rfl, hb⟩; rw [HCK.out]); go_wp2_with fail; refine hK.out _ _ ?_ (fun hHeld => ?_); (focus (refine HD.out _ ?_; first | exact (Below.refl _ _).drew | exact hHeld.2.2.2.2.2.2 | exact bl_next hb (hHeld.2.2.2.2.2.2))); clear hK K; (try simp only [Act.put, List.getElem_toArray, List.getElem_cons_succ, List.getElem_cons_zero, List.setIfInBounds_toArray, List.set_cons_zero, List.set_cons_succ])
  refine wpAnyH_take (i := 4) (v := ?_) rfl (by kernel_rfl) (by kernel_rfl) (by kernel_rfl) (fun _ _ _ h => h) (Or.inl ⟨by rfl, ?_⟩) (by assumption) ?_; rotate_left; (focus (intro w hSw; (try dsimp only at hSw); go_simp; try with_reducible rfl)); (try simp only [Act.put, List.getElem_toArray, List.getElem_cons_succ, List.getElem_cons_zero, List.setIfInBounds_toArray, List.set_cons_zero, List.set_cons_succ])
  refine wpAnyH_take (i := 5) (v := ?_) rfl (by kernel_rfl) (by kernel_rfl) (by kernel_rfl) (fun _ _ _ h => h) (Or.inl ⟨by rfl, ?_⟩) (by assumption) ?_; rotate_left; (focus (intro w hSw; (try dsimp only at hSw); go_simp; try with_reducible rfl)); (try simp only [Act.put, List.getElem_toArray, List.getElem_cons_succ, List.getElem_cons_zero, List.setIfInBounds_toArray, List.set_cons_zero, List.set_cons_succ])
  refine wpAnyH_take (i := 6) (v := ?_) rfl (by kernel_rfl) (by kernel_rfl) (by kernel_rfl) (fun _ _ _ h => h) (Or.inl ⟨by rfl, ?_⟩) (by assumption) ?_; rotate_left; (focus (intro w hSw; (try dsimp only at hSw); go_simp; try with_reducible rfl)); (try simp only [Act.put, List.getElem_toArray, List.getElem_cons_succ, List.getElem_cons_zero, List.setIfInBounds_toArray, List.set_cons_zero, List.set_cons_succ])
  refine wpAnyH_take (i := 7) (v := ?_) rfl (by kernel_rfl) (by kernel_rfl) (by kernel_rfl) (fun _ _ _ h => h) (Or.inl ⟨by rfl, ?_⟩) (by assumption) ?_; rotate_left; (focus (intro w hSw; (try dsimp only at hSw); go_simp; try with_reducible rfl)); (try simp only [Act.put, List.getElem_toArray, List.getElem_cons_succ, List.getElem_cons_zero, List.setIfInBounds_toArray, List.set_cons_zero, List.set_cons_succ])
  refine wpAnyH_take (i := 9) (v := ?_) rfl (by kernel_rfl) (by kernel_rfl) (by kernel_rfl) (fun _ _ _ h => h) (Or.inl ⟨by rfl, ?_⟩) (by assumption) ?_; rotate_left; (focus (intro w hSw; (try dsimp only at hSw); go_simp; try with_reducible rfl)); (try simp only [Act.put, List.getElem_toArray, List.getElem_cons_succ, List.getElem_cons_zero, List.setIfInBounds_toArray, List.set_cons_zero, List.set_cons_succ])
  refine wpAnyH_ready (rs := [8]) (by kernel_rfl) (by simp) (AllReadyH.cons rfl (fun K hK => ?_) AllReadyH.nil); go_simp; (refine (sCheck_any js0 ms0 _ _ _ (HD0.out.below hHeld.2.2.2.2.2.2 (Nat.le_refl _))).mono ?_; rintro e w9 ⟨rfl, hb⟩; rw [hk0]); go_wp2_with fail; refine hK.out _ _ ?_ (fun hHeld => ?_); (focus (refine HD.out _ ?_; first | exact (Below.refl _ _).drew | exact hHeld.2.2.2.2.2.2 | exact bl_next hb (hHeld.2.2.2.2.2.2))); clear hK K; (try simp only [Act.put, List.getElem_toArray, List.getElem_cons_succ, List.getElem_cons_zero, List.setIfInBounds_toArray, List.set_cons_zero, List.set_cons_succ])
  refine wpAnyH_ready (rs := [10]) (by kernel_rfl) (by simp) (AllReadyH.cons rfl (fun K hK => ?_) AllReadyH.nil); go_simp; (refine (rCheckRobot_all js0 ms0 _ _ _ (HD0.out.below hHeld.2.2.2.2.2.2 (Nat.le_refl _))).mono ?_; rintro e w9 ⟨rfl, hb⟩; rw [hk0]); go_wp2_with fail; refine hK.out _ _ ?_ (fun hHeld => ?_); (focus (refine HD.out _ ?_; first | exact (Below.refl _ _).drew | exact hHeld.2.2.2.2.2.2 | exact bl_next hb (hHeld.2.2.2.2.2.2))); clear hK K; (try simp only [Act.put, List.getElem_toArray, List.getElem_cons_succ, List.getElem_cons_zero, List.setIfInBounds_toArray, List.set_cons_zero, List.set_cons_succ])
  refine wpAnyH_take (i := 11) (v := ?_) rfl (by kernel_rfl) (by kernel_rfl) (by kernel_rfl) (fun _ _ _ h => h) (Or.inl ⟨by rfl, ?_⟩) (by assumption) ?_; rotate_left; (focus (intro w hSw; (try dsimp only at hSw); go_simp; try with_reducible rfl)); (try simp only [Act.put, List.getElem_toArray, List.getElem_cons_succ, List.getElem_cons_zero, List.setIfInBounds_toArray, List.set_cons_zero, List.set_cons_succ])
  refine wpAnyH_take (i := 12) (v := ?_) rfl (by kernel_rfl) (by kernel_rfl) (by kernel_rfl) (fun _ _ _ h => h) (Or.inl ⟨by rfl, ?_⟩) (by assumption) ?_; rotate_left; (focus (intro w hSw; (try dsimp only at hSw); go_simp; try with_reducible rfl)); (try simp only [Act.put, List.getElem_toArray, List.getElem_cons_succ, List.getElem_cons_zero, List.setIfInBounds_toArray, List.set_cons_zero, List.set_cons_succ])
  refine wpAnyH_take (i := 13) (v := ?_) rfl (by kernel_rfl) (by kernel_rfl) (by kernel_rfl) (fun _ _ _ h => h) (Or.inl ⟨by rfl, ?_⟩) (by assumption) ?_; rotate_left; (focus (intro w hSw; (try dsimp only at hSw); go_simp; try with_reducible rfl)); (try simp only [Act.put, List.getElem_toArray, List.getElem_cons_succ, List.getElem_cons_zero, List.setIfInBounds_toArray, List.set_cons_zero, List.set_cons_succ])
  refine wpAnyH_take (i := 14) (v := ?_) rfl (by kernel_rfl) (by kernel_rfl) (by kernel_rfl) (fun _ _ _ h => h) (Or.inl ⟨by rfl, ?_⟩) (by assumption) ?_; rotate_left; (focus (intro w hSw; (try dsimp only at hSw); go_simp; try with_reducible rfl)); (try simp only [Act.put, List.getElem_toArray, List.getElem_cons_succ, List.getElem_cons_zero, List.setIfInBounds_toArray, List.set_cons_zero, List.set_cons_succ])
  refine wpAnyH_take (i := 16) (v := ?_) rfl (by kernel_rfl) (by kernel_rfl) (by kernel_rfl) (fun _ _ _ h => h) (Or.inl ⟨by rfl, ?_⟩) (by assumption) ?_; rotate_left; (focus (intro w hSw; (try dsimp only at hSw); go_simp; try with_reducible rfl)); (try simp only [Act.put, List.getElem_toArray, List.getElem_cons_succ, List.getElem_cons_zero, List.setIfInBounds_toArray, List.set_cons_zero, List.set_cons_succ])
  refine wpAnyH_ready (rs := [15]) (by kernel_rfl) (by simp) (AllReadyH.cons rfl (fun K hK => ?_) AllReadyH.nil); go_simp; (refine (sCheck_any jx mx _ _ _ (HDX.out.below hHeld.2.2.2.2.2.2 (Nat.le_refl _))).mono ?_; rintro e w9 ⟨rfl, hb⟩; rw [hkx]); go_wp2_with fail; refine hK.out _ _ ?_ (fun hHeld => ?_); (focus (refine HD.out _ ?_; first | exact (Below.refl _ _).drew | exact hHeld.2.2.2.2.2.2 | exact bl_next hb (hHeld.2.2.2.2.2.2))); clear hK K; (try simp only [Act.put, List.getElem_toArray, List.getElem_cons_succ, List.getElem_cons_zero, List.setIfInBounds_toArray, List.set_cons_zero, List.set_cons_succ])
  refine wpAnyH_ready (rs := [17]) (by kernel_rfl) (by simp) (AllReadyH.cons rfl (fun K hK => ?_) AllReadyH.nil); go_simp; (refine (rCheckRobot_all jx mx _ _ _ (HDX.out.below hHeld.2.2.2.2.2.2 (Nat.le_refl _))).mono ?_; rintro e w9 ⟨rfl, hb⟩; rw [hkx]); go_wp2_with fail; refine hK.out _ _ ?_ (fun hHeld => ?_); (focus (refine HD.out _ ?_; first | exact (Below.refl _ _).drew | exact hHeld.2.2.2.2.2.2 | exact bl_next hb (hHeld.2.2.2.2.2.2))); clear hK K; (try simp only [Act.put, List.getElem_toArray, List.getElem_cons_succ, List.getElem_cons_zero, List.setIfInBounds_toArray, List.set_cons_zero, List.set_cons_succ])
  refine wpAnyH_take (i := 18) (v := ?_) rfl (by kernel_rfl) (by kernel_rfl) (by kernel_rfl) (fun _ _ _ h => h) (Or.inl ⟨by rfl, ?_⟩) (by assumption) ?_; rotate_left; (focus (intro w hSw; (try dsimp only at hSw); go_simp; try with_reducible rfl)); (try simp only [Act.put, List.getElem_toArray, List.getElem_cons_succ, List.getElem_cons_zero, List.setIfInBounds_toArray, List.set_cons_zero, List.set_cons_succ])
  refine wpAnyH_take (i := 19) (v := ?_) rfl (by kernel_rfl) (by kernel_rfl) (by kernel_rfl) (fun _ _ _ h => h) (Or.inl ⟨by rfl, ?_⟩) (by assumption) ?_; rotate_left; (focus (intro w hSw; (try dsimp only at hSw); go_simp; try with_reducible rfl)); (try simp only [Act.put, List.getElem_toArray, List.getElem_cons_succ, List.getElem_cons_zero, List.setIfInBounds_toArray, List.set_cons_zero, List.set_cons_succ])
  refine wpAnyH_take (i := 20) (v := ?_) rfl (by kernel_rfl) (by kernel_rfl) (by kernel_rfl) (fun _ _ _ h => h) (Or.inl ⟨by rfl, ?_⟩) (by assumption) ?_; rotate_left; (focus (intro w hSw; (try dsimp only at hSw); go_simp; try with_reducible rfl)); (try simp only [Act.put, List.getElem_toArray, List.getElem_cons_succ, List.getElem_cons_zero, List.setIfInBounds_toArray, List.set_cons_zero, List.set_cons_succ])
  refine wpAnyH_done (by kernel_rfl) ?_ _
  refine NoPanic.normal ?_
  have HB9 := Lib.hid (bl_next hHeld.2.2.2.2.2.2 BV.out)
  go_wp2_with fail
  go_ret
  exact ⟨rfl, HB9.out⟩
end Go.Proofs.YtpaiapcnoifpmaaDoor
