/- Proved: the statement RobotRoundTrip returns true. Conditions: as the theorem states. -/
import Derived.Test.YtpaiapcnoifpmaaDoorRe6
import Derived.Test.YtpaiapcnoifpmaaDoorRd1
import Derived.Test.YtpaiapcnoifpmaaDoorRbA
import Derived.Test.YtpaiapcnoifpmaaDoorRb13
namespace Go.Proofs.YtpaiapcnoifpmaaDoor
open Go.RowKit

theorem listAt_below {w w' : World} {a : Option Addr} {n B : Nat} (h : ListAt w a n) (hb : Below B w w') (hB : w.heap.size ≤ B) : ListAt w' a n := by
  refine ⟨h.1, fun t ht => ?_⟩
  obtain ⟨lb, lo, z, h1, h2, h3, h4⟩ := h.2 t ht
  have hs := hb.size
  exact ⟨lb, lo, z, h1, by omega, (hb.cell (p := ⟨lb, lo + t, none⟩) (by show lb < B; omega)).trans h3, h4⟩
theorem cell_like {W V : World} {g o : Nat} (h : V.heap[g]? = W.heap[g]?) : V.cell? ⟨g, o, none⟩ = W.cell? ⟨g, o, none⟩ := by
  unfold World.cell?
  simp only [h]
/-- What no row of numbers and texts holds. -/
def NoSlc (xs : List Value) : Prop := ∀ u ∈ xs, ∀ q n c, u ≠ .slice q n c
theorem noslc_j (js : List JointD) : NoSlc (jcells js) := by
  intro u hu q n c e
  subst e
  obtain ⟨j, _, hj⟩ := List.mem_flatMap.1 hu
  simp [jointC] at hj
theorem noslc_m (ms : List MassD) : NoSlc (mcells ms) := by
  intro u hu q n c e
  subst e
  obtain ⟨j, _, hj⟩ := List.mem_flatMap.1 hu
  simp [massC] at hj
theorem lt_of_block' {W V : World} {g : Nat} (h : V.heap[g]? = W.heap[g]?) (hg : g < W.heap.size) : g < V.heap.size := by
  rw [Array.getElem?_eq_getElem hg] at h
  exact (Array.getElem?_eq_some_iff.1 h).1
theorem RdO.set_rob {W : World} {v : Value} {n size : Nat} {xs : List Value} {rb k : Nat} {q1 q2 : Option Addr} {n1 c1 n2 c2 : Nat} {u : Value} (h : RdO W v n size xs) (hl : xs.length = n * size) (hx : NoSlc xs) (hr : RobAt W rb (.slice q1 n1 c1) (.slice q2 n2 c2)) : RdO (W.setCell ⟨rb, k, none⟩ u) v n size xs := by
  obtain ⟨A, c, hv, hc, hk⟩ := h
  refine ⟨A, c, hv, hc, fun j hj => ?_⟩
  obtain ⟨g, o, hA, hg, h0⟩ := hk j hj
  have hne : g ≠ rb := by
    rintro rfl
    obtain ⟨x, hx2⟩ : ∃ x, xs[j]? = some x := ⟨_, List.getElem?_eq_getElem (by omega)⟩
    rw [hx2] at h0
    have hm := List.mem_of_getElem? hx2
    have h3 : (#[Value.slice q1 n1 c1, Value.slice q2 n2 c2] : Array Value)[o + j]? = some x := by rw [← h0]; exact (cell_of_row W g (o + j) _ _ _ hr).symm
    match o + j, h3 with
    | 0, h3 => exact hx x hm _ _ _ (by simpa using h3.symm)
    | 1, h3 => exact hx x hm _ _ _ (by simpa using h3.symm)
    | i + 2, h3 => simp at h3
  have hh : (W.setCell ⟨rb, k, none⟩ u).heap[g]? = W.heap[g]? := heap_setCell_other _ _ _ _ hne
  refine ⟨g, o, hA, lt_of_block' hh hg, (cell_like hh).trans h0⟩
theorem RobD.set_rob {W : World} {vj vm : Value} {js : List JointD} {ms : List MassD} {rb k : Nat} {q1 q2 : Option Addr} {n1 c1 n2 c2 : Nat} {u : Value} (h : RobD W vj vm js ms) (hr : RobAt W rb (.slice q1 n1 c1) (.slice q2 n2 c2)) : RobD (W.setCell ⟨rb, k, none⟩ u) vj vm js ms :=
  ⟨h.rj.set_rob (jc_len js) (noslc_j js) hr, h.rm.set_rob (mc_len ms) (noslc_m ms) hr, h.lj, h.lm, h.ij, h.im⟩
theorem few_len {l : List St} (h : ∀ g ∈ l, FewW g) : ∀ g ∈ l, g.args.length ≤ 8796093022208 := fun g hg => by have := (h g hg).1; omega
theorem few_size {l : List St} (h : ∀ g ∈ l, FewW g) : ∀ g ∈ l, ∀ a ∈ g.args, a.size ≤ maxLen := fun g hg a ha => by have := (h g hg).2 a ha; unfold maxLen; omega
set_option linter.unusedSimpArgs false in
set_option linter.unusedVariables false in
set_option maxRecDepth 100000 in
set_option maxHeartbeats 12800000 in
theorem RobotRoundTrip_any (a0 : Option Addr) (n0 c0 : Nat) (how at' v : Int) (w : World) (p1 : -9223372036854775808 ≤ how) (p2 : how ≤ 9223372036854775807) (p3 : -9223372036854775808 ≤ at') (p4 : at' ≤ 9223372036854775807) (p5 : -9223372036854775808 ≤ v) (p6 : v ≤ 9223372036854775807) (l0 : ListAt w a0 n0) (hP : Pow10 w) (hT : KindT w) :
    Calls Tryd.prog 5 #[ .slice a0 n0 c0, .int .i64 how, .int .i64 at', .int .i64 v ] w fun e w' => e = .returned (.bool true) ∧ Below w.heap.size w w' := by
  have HT := Lib.hid hT
  have HP := Lib.hid hP
  have HL := Lib.hid l0
  clear hT hP l0
  go_enter Tryd.func5, Tryd.ntmps5
  go_wp2_with fail
  refine (mkRobot_any a0 n0 c0 _ HL.out).mono ?_
  rintro e w1 ⟨vj, vm, js, ms, rfl, hm, hb⟩
  obtain ⟨Aj, cj, rfl, hcj, _⟩ := hm.rj.joint
  obtain ⟨Am, cm, rfl, hcm, _⟩ := hm.rm.mass
  have HCK := Lib.hid (made_check hm)
  have hal := (Below.refl _ w1).alloc (Nat.le_refl _) (.cells #[.slice Aj js.length cj, .slice Am ms.length cm] 25)
  have HM := Lib.hid (hm.below hal (Nat.le_refl _))
  have hR := RobAt.box (V := w1) (vj := .slice Aj js.length cj) (vm := .slice Am ms.length cm) rfl
  have hB2 := bl_next hal hb
  have hrw : w.heap.size ≤ w1.heap.size := hb.size
  clear hm hb hal
  go_wp2_with fail
  obtain ⟨U, hU⟩ : ∃ U, w1.alloc (.cells #[.slice Aj js.length cj, .slice Am ms.length cm] 25) = U := ⟨_, rfl⟩
  rw [hU] at hR hB2 HM ⊢
  obtain ⟨rb, hrb⟩ : ∃ b, w1.heap.size = b := ⟨_, rfl⟩
  rw [hrb] at hR hrw ⊢
  clear hU hrb
  have RU := Lib.hid hR
  have BU := Lib.hid hB2
  clear hR hB2
  refine (changed8_any js ms _ _ how at' v _ HM.out ⟨p1, p2⟩ ⟨p3, p4⟩ ⟨p5, p6⟩).mono ?_
  rintro e w2 ⟨xj, xm, jx, mx, rfl, hx, _, _, _, hb⟩
  obtain ⟨Xj, ej, rfl, _, _⟩ := hx.rj.joint
  obtain ⟨Xm, em, rfl, _, _⟩ := hx.rm.mass
  have hal := (Below.refl _ w2).alloc (Nat.le_refl _) (.cells #[.slice Xj jx.length ej, .slice Xm mx.length em] 25)
  have hX := RobAt.box (V := w2) (vj := .slice Xj jx.length ej) (vm := .slice Xm mx.length em) rfl
  have hbu := bl_next hal hb
  have RV := Lib.hid (RU.out.below hbu RU.out.lt')
  have BV := Lib.hid (bl_next hbu BU.out)
  have HD1 := Lib.hid (HM.out.robD.below hbu (Nat.le_refl _))
  have HDX := Lib.hid (hx.below hal (Nat.le_refl _))
  have hrx : rb < w2.heap.size := by have h1 := hb.size; have h2 := RU.out.lt'; omega
  clear hx hb hal hbu RU BU HM
  go_wp2_with fail
  obtain ⟨V, hV⟩ : ∃ V, w2.alloc (.cells #[.slice Xj jx.length ej, .slice Xm mx.length em] 25) = V := ⟨_, rfl⟩
  rw [hV] at hX RV BV HD1 HDX ⊢
  obtain ⟨xb, hxb⟩ : ∃ b, w2.heap.size = b := ⟨_, rfl⟩
  rw [hxb] at hX hrx ⊢
  clear hV hxb
  have XV := Lib.hid hX
  clear hX
  have x0 := XV.out.c0
  have x1 := XV.out.c1
  clear x0 x1
  refine (rCheckRobot_all jx mx _ _ _ HDX.out).mono ?_
  rintro e w3 ⟨rfl, hb3⟩
  have R3 := Lib.hid (RV.out.below hb3 RV.out.lt')
  have X3 := Lib.hid (XV.out.below hb3 XV.out.lt')
  have B3 := Lib.hid (bl_next hb3 BV.out)
  have HD13 := Lib.hid (HD1.out.below hb3 (Nat.le_refl _))
  have HDX3 := Lib.hid (HDX.out.below hb3 (Nat.le_refl _))
  clear hb3 RV XV BV HD1 HDX
  obtain ⟨kx, hkx⟩ : ∃ x, checkR jx mx = x := ⟨_, rfl⟩
  rw [hkx]
  by_cases hz : kx = 0
  · subst hz
    have x0 := X3.out.c0
    have x1 := X3.out.c1
    have f0 := R3.out.free 0
    have f1 := R3.out.free 1
    have r0 := R3.out.c0
    have r1 := R3.out.c1
    have hW0 := heap_setCell_same w3 rb 0 _ _ (.slice Xj jx.length ej) R3.out
    have hW1 := heap_setCell_same _ rb 1 _ _ (.slice Xm mx.length em) hW0
    have hbs := Below.setCell (Below.setCell B3.out (show w.heap.size ≤ (⟨rb, 0, none⟩ : Addr).block from hrw) (.slice Xj jx.length ej)) (show w.heap.size ≤ (⟨rb, 1, none⟩ : Addr).block from hrw) (.slice Xm mx.length em)
    go_wp2_with fail
    clear x0 x1 f0 f1 r0 r1
    obtain ⟨W0, hW⟩ : ∃ W0, (w3.setCell ⟨rb, 0, none⟩ (.slice Xj jx.length ej)).setCell ⟨rb, 1, none⟩ (.slice Xm mx.length em) = W0 := ⟨_, rfl⟩
    have hD0 := (HDX3.out.set_rob (k := 0) (u := .slice Xj jx.length ej) R3.out).set_rob (k := 1) (u := .slice Xm mx.length em) (q1 := Xj) (n1 := jx.length) (c1 := ej) (q2 := Am) (n2 := ms.length) (c2 := cm) hW0
    have hR0 : RobAt W0 rb (.slice Xj jx.length ej) (.slice Xm mx.length em) := by rw [← hW]; exact hW1
    rw [hW] at hD0 hbs ⊢
    have R0 := Lib.hid hR0
    have D0 := Lib.hid hD0
    have BB := Lib.hid hbs
    clear hW hW0 hW1 hR0 hD0 hbs
    refine (sWrite_any jx mx _ _ _ (HP.out.next BB.out) (HT.out.next BB.out) D0.out hkx).mono ?_
    rintro e w4 ⟨vl, l, vals, rfl, hout, hwr, hb4⟩
    have hlen := hwr.len
    obtain ⟨⟨_, h10⟩, _, h32, _⟩ := check_zero hkx
    have hrd := hout.rd (by omega) (few_len hwr.2.1)
    have hread := read_written hkx hwr.1
    obtain ⟨ql, kl, cl, rfl⟩ := own_slc hout.2.1
    have R4 := Lib.hid (R0.out.below hb4 R0.out.lt')
    have B4 := Lib.hid (bl_next hb4 BB.out)
    have HD4 := Lib.hid (D0.out.below hb4 (Nat.le_refl _))
    have HRD := Lib.hid hrd
    have HRE := Lib.hid hread
    have HFS := Lib.hid (few_size hwr.2.1)
    clear hout hwr hb4 hrd hread
    go_wp2_with fail
    refine (sRead_any _ l _ (HT.out.next B4.out) HRD.out HFS.out (by omega)).mono ?_
    unfold ReadP
    rw [HRE.out]
    rintro e w5 ⟨yj, ym, rfl, hy, hb5⟩
    dsimp only at hy ⊢
    obtain ⟨Yj, dj, rfl, _, _⟩ := hy.rj.joint
    obtain ⟨Ym, dm, rfl, _, _⟩ := hy.rm.mass
    have hbY := ((Below.refl _ w5).alloc (Nat.le_refl _) (.cells #[.slice Yj jx.length dj, .slice Ym mx.length dm] 25)).alloc (by simp) (.cells #[.int .i64 0, .int .i64 0] 48)
    have RY := Lib.hid ((R4.out.below hb5 R4.out.lt').below hbY (by have h1 := R4.out.lt'; have h2 := hb5.size; omega))
    have YY := Lib.hid ((RobAt.box (V := w5) (vj := .slice Yj jx.length dj) (vm := .slice Ym mx.length dm) rfl).below ((Below.refl _ (w5.alloc (.cells #[.slice Yj jx.length dj, .slice Ym mx.length dm] 25))).alloc (Nat.le_refl _) (.cells #[.int .i64 0, .int .i64 0] 48)) (by simp))
    have EY := Lib.hid (show ((w5.alloc (.cells #[.slice Yj jx.length dj, .slice Ym mx.length dm] 25)).alloc (.cells #[.int .i64 0, .int .i64 0] 48)).heap[w5.heap.size + 1]? = some (.cells #[.int .i64 0, .int .i64 0] 48 (0, 0)) from by rw [show w5.heap.size + 1 = (w5.alloc (.cells #[.slice Yj jx.length dj, .slice Ym mx.length dm] 25)).heap.size by simp]; exact heap_alloc_new _ _)
    have BY := Lib.hid (bl_next hbY (bl_next hb5 B4.out))
    have HDR := Lib.hid ((HD4.out.below hb5 (Nat.le_refl _)).below hbY (Nat.le_refl _))
    have HDY := Lib.hid (hy.below hbY (Nat.le_refl _))
    clear hy hb5 hbY
    go_wp2_with fail
    refine (awake8_any _ (HT.out.next BY.out)).mono ?_
    rintro e w6 ⟨rfl, hb6⟩
    have r0 := (RY.out.below hb6 RY.out.lt').c0
    have r1 := (RY.out.below hb6 RY.out.lt').c1
    have y0 := (YY.out.below hb6 YY.out.lt').c0
    have y1 := (YY.out.below hb6 YY.out.lt').c1
    have hE := (hb6.block _ (lt_of_block EY.out)).trans EY.out
    have e0 := cell_of_row _ _ 0 _ _ _ hE
    have e1 := cell_of_row _ _ 1 _ _ _ hE
    simp only [List.getElem?_toArray, List.getElem?_cons_zero, List.getElem?_cons_succ] at e0 e1
    have B6 := Lib.hid (bl_next hb6 BY.out)
    have HR6 := Lib.hid (HDR.out.below hb6 (Nat.le_refl _))
    have HY6 := Lib.hid (HDY.out.below hb6 (Nat.le_refl _))
    clear hb6 hE
    go_wp2_with fail
    refine (sameRobot_any _ _ _ _ jx mx _ HR6.out HY6.out).mono ?_
    rintro e w7 ⟨rfl, hb7⟩
    have B7 := Lib.hid (bl_next hb7 B6.out)
    clear hb7
    go_wp2_with fail
    go_ret
    exact ⟨rfl, B7.out⟩
  · have e0 : ((kx : Int) == 0) = false := by simp [hz]
    have r0 := R3.out.c0
    have r1 := R3.out.c1
    go_wp2_with fail
    clear r0 r1
    refine (sWrite_any js ms _ _ _ (HP.out.next B3.out) (HT.out.next B3.out) HD13.out HCK.out).mono ?_
    rintro e w4 ⟨vl, l, vals, rfl, hout, hwr, hb4⟩
    have hlen := hwr.len
    obtain ⟨⟨_, h10⟩, _, h32, _⟩ := check_zero HCK.out
    have hrd := hout.rd (by omega) (few_len hwr.2.1)
    have hread := read_written HCK.out hwr.1
    obtain ⟨ql, kl, cl, rfl⟩ := own_slc hout.2.1
    have R4 := Lib.hid (R3.out.below hb4 R3.out.lt')
    have B4 := Lib.hid (bl_next hb4 B3.out)
    have HD4 := Lib.hid (HD13.out.below hb4 (Nat.le_refl _))
    have HRD := Lib.hid hrd
    have HRE := Lib.hid hread
    have HFS := Lib.hid (few_size hwr.2.1)
    clear hout hwr hb4 hrd hread
    go_wp2_with fail
    refine (sRead_any _ l _ (HT.out.next B4.out) HRD.out HFS.out (by omega)).mono ?_
    unfold ReadP
    rw [HRE.out]
    rintro e w5 ⟨yj, ym, rfl, hy, hb5⟩
    dsimp only at hy ⊢
    obtain ⟨Yj, dj, rfl, _, _⟩ := hy.rj.joint
    obtain ⟨Ym, dm, rfl, _, _⟩ := hy.rm.mass
    have hbY := ((Below.refl _ w5).alloc (Nat.le_refl _) (.cells #[.slice Yj js.length dj, .slice Ym ms.length dm] 25)).alloc (by simp) (.cells #[.int .i64 0, .int .i64 0] 48)
    have RY := Lib.hid ((R4.out.below hb5 R4.out.lt').below hbY (by have h1 := R4.out.lt'; have h2 := hb5.size; omega))
    have YY := Lib.hid ((RobAt.box (V := w5) (vj := .slice Yj js.length dj) (vm := .slice Ym ms.length dm) rfl).below ((Below.refl _ (w5.alloc (.cells #[.slice Yj js.length dj, .slice Ym ms.length dm] 25))).alloc (Nat.le_refl _) (.cells #[.int .i64 0, .int .i64 0] 48)) (by simp))
    have EY := Lib.hid (show ((w5.alloc (.cells #[.slice Yj js.length dj, .slice Ym ms.length dm] 25)).alloc (.cells #[.int .i64 0, .int .i64 0] 48)).heap[w5.heap.size + 1]? = some (.cells #[.int .i64 0, .int .i64 0] 48 (0, 0)) from by rw [show w5.heap.size + 1 = (w5.alloc (.cells #[.slice Yj js.length dj, .slice Ym ms.length dm] 25)).heap.size by simp]; exact heap_alloc_new _ _)
    have BY := Lib.hid (bl_next hbY (bl_next hb5 B4.out))
    have HDR := Lib.hid ((HD4.out.below hb5 (Nat.le_refl _)).below hbY (Nat.le_refl _))
    have HDY := Lib.hid (hy.below hbY (Nat.le_refl _))
    clear hy hb5 hbY
    go_wp2_with fail
    refine (awake8_any _ (HT.out.next BY.out)).mono ?_
    rintro e w6 ⟨rfl, hb6⟩
    have r0 := (RY.out.below hb6 RY.out.lt').c0
    have r1 := (RY.out.below hb6 RY.out.lt').c1
    have y0 := (YY.out.below hb6 YY.out.lt').c0
    have y1 := (YY.out.below hb6 YY.out.lt').c1
    have hE := (hb6.block _ (lt_of_block EY.out)).trans EY.out
    have e0 := cell_of_row _ _ 0 _ _ _ hE
    have e1 := cell_of_row _ _ 1 _ _ _ hE
    simp only [List.getElem?_toArray, List.getElem?_cons_zero, List.getElem?_cons_succ] at e0 e1
    have B6 := Lib.hid (bl_next hb6 BY.out)
    have HR6 := Lib.hid (HDR.out.below hb6 (Nat.le_refl _))
    have HY6 := Lib.hid (HDY.out.below hb6 (Nat.le_refl _))
    clear hb6 hE
    go_wp2_with fail
    refine (sameRobot_any _ _ _ _ js ms _ HR6.out HY6.out).mono ?_
    rintro e w7 ⟨rfl, hb7⟩
    have B7 := Lib.hid (bl_next hb7 B6.out)
    clear hb7
    go_wp2_with fail
    go_ret
    exact ⟨rfl, B7.out⟩
end Go.Proofs.YtpaiapcnoifpmaaDoor
