/- Proved: the switch of the reference's ReadRobot at a limit. Conditions: as each theorem states. -/
import Derived.Test.YtpaiapcnoifpmaaDoorRb11
import Derived.Deep.CutBlock
namespace Go.Proofs.YtpaiapcnoifpmaaDoor
open Go.RowKit

set_option linter.unusedSimpArgs false in
set_option linter.unusedVariables false in
set_option maxRecDepth 100000 in
set_option maxHeartbeats 12800000 in
theorem sw_limit (w V : World) (q k n : Nat) (js : List JointD) (ms : List MassD) (qj qm : Option Addr) (kj cj km cm : Nat) (ln : Int) (wd : ByteArray) (ar : List ByteArray) (Ar : Option Addr) (cr : Nat) (i0 i1 : TypeInfo)
    (HI : Hid (Tryd.prog.info? 60 = some i0)) (HZ0 : Hid (i0.zero = some (.agg (jointC zeroJ)))) (HZ1 : Hid (i0.size = 12)) (HZ2 : Hid (i0.bytes = 104))
    (MI : Hid (Tryd.prog.info? 74 = some i1)) (MZ0 : Hid (i1.zero = some (.agg (massC ⟨0, 0, 0, 0, 0⟩)))) (MZ1 : Hid (i1.size = 5)) (MZ2 : Hid (i1.bytes = 40))
    (hk12 : k ≤ 1000000000000) (hcr : n ≤ cr ∧ n ≤ 8796093022208) (HRW : Hid (RdT w (.slice Ar n cr) ar)) (HN : Hid (ar.length = n)) (HPJ : Hid (PJ k js ms)) (HSZ : Hid (∀ a ∈ ar, a.size ≤ maxLen))
    (s0 : (wd.toList == [106, 111, 105, 110, 116]) = false) (s1 : (wd.toList == [108, 105, 109, 105, 116]) = true) (s2 : (wd.toList == [109, 97, 115, 115]) = false)
    (HK : Hid (wordK (bts wd) = 1)) (HR1 : Hid (RR w V js ms (.slice qj kj cj) (.slice qm km cm))) (HRA1 : Hid (RdT V (.slice Ar n cr) ar)) (ST : Hid (StAt V q ln wd (.slice Ar n cr)))
    (hq2 : w.heap.size + 1 + 1 < q) (hVs : q < V.heap.size) (hV2 : w.heap.size + 1 + 1 < V.heap.size)
    (z0 z1 z2 z3 z5 z8 z9 z10 z11 z12 z13 z14 z15 z16 z17 z18 z19 z20 z21 z22 z23 z24 z25 z26 z27 z28 z29 z30 z31 z32 z33 z34 z35 z36 z37 z38 z39 z40 z41 z42 z43 z44 z45 z46 z47 z48 z49 z50 z51 z52 z53 z54 z55 z56 z57 z58 z59 z60 z61 z62 z63 z64 z65 z66 z67 z68 z69 z70 z71 z72 z73 z74 z75 z76 z77 z78 z79 z80 z81 z82 z83 z84 z85 z86 z87 z88 z89 z90 z91 z92 z93 z94 z95 z96 z97 z98 z99 z100 z101 z102 z103 z104 z105 z106 z107 z108 z109 z110 z111 z112 z113 z114 z115 z116 z117 z118 z119 z120 z121 z122 z123 z124 z125 z126 z127 z128 z129 z130 z131 z132 z133 z134 z135 z136 z137 z138 z139 z140 z141 z142 z143 z144 z145 z146 z147 z148 z149 z150 z151 z152 z153 z154 z155 z156 z157 z158 z159 z160 z161 z162 z163 z164 z165 z166 z167 z168 z169 z170 z171 z172 z173 z174 z175 z176 z177 z178 z179 z180 z181 z182 z183 : Value) (Q : Exit → Act → World → Prop)
    (hQ : ∀ (y7 y8 y9 y10 y11 y12 y13 y14 y15 y16 y17 y19 y20 y21 y22 y23 y24 y25 y26 y27 y28 y29 y30 y31 y32 y33 y34 y35 y36 y37 y38 y39 y40 y41 y42 y43 y44 y45 y46 y47 y48 y49 y50 y51 y52 y53 y54 y55 y56 y57 y58 y59 y60 y61 y62 y63 y64 y65 y66 y67 y68 y69 y70 y71 y72 y73 y74 y75 y76 y77 y78 y79 y80 y81 y82 y83 y84 y85 y86 y87 y88 y89 y90 y91 y92 y93 y94 y95 y96 y97 y98 y99 y100 y101 y102 y103 y104 y105 y106 y107 y108 y109 y110 y111 y112 y113 y114 y115 y116 y117 y118 y119 y120 y121 y122 y123 y124 y125 y126 y127 y128 y129 y130 y131 y132 y133 y134 y135 y136 y137 y138 y139 y140 y141 y142 y143 y144 y145 y146 y147 y148 y149 y150 y151 y152 y153 y154 y155 y156 y157 y158 y159 y160 y161 y162 y163 y164 y165 y166 y167 y168 y169 y170 y171 y172 y173 y174 : Value) (W : World), SwP w q js ms ⟨ln, wd, ar⟩ y7 W → Q .normal ⟨#[z0, z1, z2, z3, .pointer (some ⟨w.heap.size + 1 + 1, 0, none⟩), z5, .pointer (some ⟨q, 0, none⟩), y7, y8, y9, y10, y11, y12, y13, y14, y15, y16, y17, z18, y19, y20, y21, y22, y23, y24, y25, y26, y27, y28, y29, y30, y31, y32, y33, y34, y35, y36, y37, y38, y39, y40, y41, y42, y43, y44, y45, y46, y47, y48, y49, y50, y51, y52, y53, y54, y55, y56, y57, y58, y59, y60, y61, y62, y63, y64, y65, y66, y67, y68, y69, y70, y71, y72, y73, y74, y75, y76, y77, y78, y79, y80, y81, y82, y83, y84, y85, y86, y87, y88, y89, y90, y91, y92, y93, y94, y95, y96, y97, y98, y99, y100, y101, y102, y103, y104, y105, y106, y107, y108, y109, y110, y111, y112, y113, y114, y115, y116, y117, y118, y119, y120, y121, y122, y123, y124, y125, y126, y127, y128, y129, y130, y131, y132, y133, y134, y135, y136, y137, y138, y139, y140, y141, y142, y143, y144, y145, y146, y147, y148, y149, y150, y151, y152, y153, y154, y155, y156, y157, y158, y159, y160, y161, y162, y163, y164, y165, y166, y167, y168, y169, y170, y171, y172, y173, y174, z175, z176, z177, z178, z179, z180, z181, z182, z183], []⟩ W) :
    Code.wp Tryd.prog (cL (cR (cR (cR (cB (cL (cR (cB (cB (cR (cL (cR (cR ((Tryd.f45).body.getD .skip)))))))))))))) Q ⟨#[z0, z1, z2, z3, .pointer (some ⟨w.heap.size + 1 + 1, 0, none⟩), z5, .pointer (some ⟨q, 0, none⟩), .int .i64 0, z8, z9, z10, z11, z12, z13, z14, z15, z16, z17, z18, z19, z20, z21, z22, z23, z24, z25, z26, z27, z28, z29, z30, z31, z32, z33, z34, z35, z36, z37, z38, z39, z40, z41, z42, z43, z44, z45, z46, z47, z48, z49, z50, z51, z52, z53, z54, z55, z56, z57, z58, z59, z60, z61, z62, z63, z64, z65, z66, z67, z68, z69, z70, z71, z72, z73, z74, z75, z76, z77, z78, z79, z80, z81, z82, z83, z84, z85, z86, z87, z88, z89, z90, z91, z92, z93, z94, z95, z96, z97, z98, z99, z100, z101, z102, z103, z104, z105, z106, z107, z108, z109, z110, z111, z112, z113, z114, z115, z116, z117, z118, z119, z120, z121, z122, z123, z124, z125, z126, z127, z128, z129, z130, z131, z132, z133, z134, z135, z136, z137, z138, z139, z140, z141, z142, z143, z144, z145, z146, z147, z148, z149, z150, z151, z152, z153, z154, z155, z156, z157, z158, z159, z160, z161, z162, z163, z164, z165, z166, z167, z168, z169, z170, z171, z172, z173, z174, z175, z176, z177, z178, z179, z180, z181, z182, z183], []⟩ V := by
  have HQX := Lib.hid hQ
  clear hQ
  conv => enter [2]; whnf
  have b1 := ST.out.c1
  have b2 := ST.out.c2
  go_wp2_with fail
  refine (rArguments_any wd n _ (by omega) (by omega)).mono ?_
  rintro e w1 ⟨rfl, rfl⟩
  rw [HK.out]
  cases hag : argsK 1 (n : Nat) with
  | false =>
    have HAG := Lib.hid hag
    clear hag
    go_wp2_with fail
    (try simp only [Exit.inBlock]); exact HQX.out _ _ _ _ _ _ _ _ _ _ _ _ _ _ _ _ _ _ _ _ _ _ _ _ _ _ _ _ _ _ _ _ _ _ _ _ _ _ _ _ _ _ _ _ _ _ _ _ _ _ _ _ _ _ _ _ _ _ _ _ _ _ _ _ _ _ _ _ _ _ _ _ _ _ _ _ _ _ _ _ _ _ _ _ _ _ _ _ _ _ _ _ _ _ _ _ _ _ _ _ _ _ _ _ _ _ _ _ _ _ _ _ _ _ _ _ _ _ _ _ _ _ _ _ _ _ _ _ _ _ _ _ _ _ _ _ _ _ _ _ _ _ _ _ _ _ _ _ _ _ _ _ _ _ _ _ _ _ _ _ _ _ _ _ _ _ _ _ <| SwP.bad (step_args (by rw [HK.out]; decide) (by rw [HK.out, HN.out]; exact HAG.out)) (by decide) HR1.out.r0 ST.out.c0
  | true =>
    have h9 : n = 4 := by simp [argsK] at hag; omega
    have HAG := Lib.hid hag
    clear hag
    subst h9
    obtain ⟨x0, x1, x2, x3, har⟩ := four_words ar HN.out
    subst har
    obtain ⟨ga, oa, cc, hv2, hc9⟩ := HRA1.out.addr
    injection hv2 with hv3 _ hv4
    subst hv3 hv4
    have hc9 : 4 ≤ cr := hcr.1
    have hl2 : k ≤ 8796093022208 := by omega
    have hga := (HRA1.out.word_at 0 (by simp)).1
    have xa : V.cell? ⟨ga, oa, none⟩ = some (.string x0) := (HRA1.out.word_at 0 (by simp)).2
    obtain ⟨fd, hfd⟩ : ∃ fd, findK js x0 = fd := ⟨_, rfl⟩
    have HF := find_range js x0
    rw [hfd] at HF
    have HFD := Lib.hid hfd
    have HD := Lib.hid (show ∀ W : World, Below V.heap.size V W → (fun w' => w'.cell? ⟨w.heap.size + 1 + 1, 0, none⟩ = some (.slice qj kj cj) ∧ w'.cell? ⟨w.heap.size + 1 + 1, 1, none⟩ = some (.slice qm km cm) ∧ w'.cell? ⟨q, 2, none⟩ = some (.slice (some ⟨ga, oa, none⟩) 4 cr) ∧ w'.cell? ⟨ga, oa, none⟩ = some (.string x0) ∧ Below V.heap.size V w') W from fun W hb => ⟨(HR1.out.next hb).rob.c0, (HR1.out.next hb).rob.c1, (ST.out.next hb).c2, (hb.cell (p := ⟨ga, oa, none⟩) hga).trans xa, hb⟩)
    go_wp2_with fail
    refine wp_region_noPanic ?_
    refine wp_region_held_drew (S := (fun w' => w'.cell? ⟨w.heap.size + 1 + 1, 0, none⟩ = some (.slice qj kj cj) ∧ w'.cell? ⟨w.heap.size + 1 + 1, 1, none⟩ = some (.slice qm km cm) ∧ w'.cell? ⟨q, 2, none⟩ = some (.slice (some ⟨ga, oa, none⟩) 4 cr) ∧ w'.cell? ⟨ga, oa, none⟩ = some (.string x0) ∧ Below V.heap.size V w')) (by kernel_rfl) ?_ (fun hHeld => ?_)
    focus (first | exact hHeld | exact HD.out _ ((Below.refl _ _).drew) | exact HD.out _ (bl_next hb5 hHeld.2.2.2.2))
    refine wpAnyH_take (i := 0) (v := ?_) rfl (by kernel_rfl) (by kernel_rfl) (by kernel_rfl) (fun _ _ _ h => h) (Or.inl ⟨by rfl, ?_⟩) (by assumption) ?_; rotate_left; (focus (intro w hSw; (try dsimp only at hSw); go_simp; try with_reducible rfl)); (try simp only [Act.put, List.getElem_toArray, List.getElem_cons_succ, List.getElem_cons_zero, List.setIfInBounds_toArray, List.set_cons_zero, List.set_cons_succ])
    refine wpAnyH_take (i := 1) (v := ?_) rfl (by kernel_rfl) (by kernel_rfl) (by kernel_rfl) (fun _ _ _ h => h) (Or.inl ⟨by rfl, ?_⟩) (by assumption) ?_; rotate_left; (focus (intro w hSw; (try dsimp only at hSw); go_simp; try with_reducible rfl)); (try simp only [Act.put, List.getElem_toArray, List.getElem_cons_succ, List.getElem_cons_zero, List.setIfInBounds_toArray, List.set_cons_zero, List.set_cons_succ])
    refine wpAnyH_take (i := 2) (v := ?_) rfl (by kernel_rfl) (by kernel_rfl) (by kernel_rfl) (fun _ _ _ h => h) (Or.inl ⟨by rfl, ?_⟩) (by assumption) ?_; rotate_left; (focus (intro w hSw; (try dsimp only at hSw); go_simp; try with_reducible rfl)); (try simp only [Act.put, List.getElem_toArray, List.getElem_cons_succ, List.getElem_cons_zero, List.setIfInBounds_toArray, List.set_cons_zero, List.set_cons_succ])
    refine wpAnyH_take (i := 3) (v := ?_) rfl (by kernel_rfl) (by kernel_rfl) (by kernel_rfl) (fun _ _ _ h => h) (Or.inl ⟨by rfl, ?_⟩) (by assumption) ?_; rotate_left; (focus (intro w hSw; (try dsimp only at hSw); go_simp; try with_reducible rfl)); (try simp only [Act.put, List.getElem_toArray, List.getElem_cons_succ, List.getElem_cons_zero, List.setIfInBounds_toArray, List.set_cons_zero, List.set_cons_succ])
    refine wpAnyH_take (i := 4) (v := ?_) rfl (by kernel_rfl) (by kernel_rfl) (by kernel_rfl) (fun _ _ _ h => h) (Or.inl ⟨by rfl, ?_⟩) (by assumption) ?_; rotate_left; (focus (intro w hSw; (try dsimp only at hSw); go_simp; try with_reducible rfl)); (try simp only [Act.put, List.getElem_toArray, List.getElem_cons_succ, List.getElem_cons_zero, List.setIfInBounds_toArray, List.set_cons_zero, List.set_cons_succ])
    refine wpAnyH_ready (rs := [5]) (by kernel_rfl) (by simp) (AllReadyH.cons rfl (fun K hK => ?_) AllReadyH.nil); go_simp; (refine (rFind_all js ms _ _ x0 _ (((HR1.out.next hHeld.2.2.2.2).robD HPJ.out hl2))).mono ?_; rintro e w5 ⟨rfl, hb5⟩; rw [hfd]); go_wp2_with fail; refine hK.out _ _ ?_ (fun hHeld => ?_); (focus (first | exact hHeld | exact HD.out _ ((Below.refl _ _).drew) | exact HD.out _ (bl_next hb5 hHeld.2.2.2.2))); clear hK K; (try simp only [Act.put, List.getElem_toArray, List.getElem_cons_succ, List.getElem_cons_zero, List.setIfInBounds_toArray, List.set_cons_zero, List.set_cons_succ])
    refine wpAnyH_take (i := 6) (v := ?_) rfl (by kernel_rfl) (by kernel_rfl) (by kernel_rfl) (fun _ _ _ h => h) (Or.inl ⟨by rfl, ?_⟩) (by assumption) ?_; rotate_left; (focus (intro w hSw; (try dsimp only at hSw); go_simp; try with_reducible rfl)); (try simp only [Act.put, List.getElem_toArray, List.getElem_cons_succ, List.getElem_cons_zero, List.setIfInBounds_toArray, List.set_cons_zero, List.set_cons_succ])
    refine wpAnyH_take (i := 7) (v := ?_) rfl (by kernel_rfl) (by kernel_rfl) (by kernel_rfl) (fun _ _ _ h => h) (Or.inl ⟨by rfl, ?_⟩) (by assumption) ?_; rotate_left; (focus (intro w hSw; (try dsimp only at hSw); go_simp; try with_reducible rfl)); (try simp only [Act.put, List.getElem_toArray, List.getElem_cons_succ, List.getElem_cons_zero, List.setIfInBounds_toArray, List.set_cons_zero, List.set_cons_succ])
    refine wpAnyH_done (by kernel_rfl) ?_ _
    refine NoPanic.normal ?_
    by_cases hf0 : fd < 0
    · have hge : decide (fd < 0) = true := decide_eq_true hf0
      go_wp2_with fail
      (try simp only [Exit.inBlock]); exact HQX.out _ _ _ _ _ _ _ _ _ _ _ _ _ _ _ _ _ _ _ _ _ _ _ _ _ _ _ _ _ _ _ _ _ _ _ _ _ _ _ _ _ _ _ _ _ _ _ _ _ _ _ _ _ _ _ _ _ _ _ _ _ _ _ _ _ _ _ _ _ _ _ _ _ _ _ _ _ _ _ _ _ _ _ _ _ _ _ _ _ _ _ _ _ _ _ _ _ _ _ _ _ _ _ _ _ _ _ _ _ _ _ _ _ _ _ _ _ _ _ _ _ _ _ _ _ _ _ _ _ _ _ _ _ _ _ _ _ _ _ _ _ _ _ _ _ _ _ _ _ _ _ _ _ _ _ _ _ _ _ _ _ _ _ _ _ _ _ _ <| SwP.bad (step_unknown (s := ⟨ln, wd, [x0, x1, x2, x3]⟩) (.inl HK.out) (by rw [HK.out]; exact HAG.out) (by show findK js x0 < 0; rw [HFD.out]; exact hf0)) (by decide) (HR1.out.next hHeld.2.2.2.2).r0 (ST.out.next hHeld.2.2.2.2).c0
    · have hge : decide (fd < 0) = false := decide_eq_false hf0
      obtain ⟨U, hU⟩ : ∃ U, w5 = U := ⟨_, rfl⟩
      have hbU := hHeld.2.2.2.2
      rw [hU] at hbU ⊢
      clear hU hHeld hb5
      obtain ⟨kf, hkf, hkl⟩ := find_nat js x0 (by rw [HFD.out]; exact hf0)
      have hfk : fd = (kf : Int) := HFD.out.symm.trans hkf
      have HBU := Lib.hid hbU
      clear hbU hkf
      have HR2 := Lib.hid (HR1.out.next HBU.out)
      have HRA2 := Lib.hid (HRA1.out.below HBU.out (Nat.le_refl _))
      have ST2 := Lib.hid (ST.out.next HBU.out)
      clear HR1 HRA1 ST HD xa b1 b2 HBU hga
      have b1 := ST2.out.c1
      have hga := (HRA2.out.word_at 0 (by simp)).1
      have xa : U.cell? ⟨ga, oa, none⟩ = some (.string x0) := (HRA2.out.word_at 0 (by simp)).2
      obtain ⟨gj, capj, hvj⟩ := own_form HR2.out.oj (by omega)
      injection hvj with e1 e2 e3
      subst e1 e2 e3
      subst hfk
      have hq3 := HR2.out.rob.lt
      have HD := Lib.hid (show ∀ W : World, Below U.heap.size U W → (fun w' => w'.cell? ⟨w.heap.size + 1 + 1, 0, none⟩ = some (.slice (some ⟨gj, 0, none⟩) js.length cj) ∧ w'.cell? ⟨w.heap.size + 1 + 1, 1, none⟩ = some (.slice qm km cm) ∧ w'.cell? ⟨q, 2, none⟩ = some (.slice (some ⟨ga, oa, none⟩) 4 cr) ∧ w'.cell? ⟨ga, oa, none⟩ = some (.string x0) ∧ Below U.heap.size U w') W from fun W hb => ⟨(HR2.out.next hb).rob.c0, (HR2.out.next hb).rob.c1, (ST2.out.next hb).c2, (hb.cell (p := ⟨ga, oa, none⟩) hga).trans xa, hb⟩)
      go_wp2_with fail
      refine wp_region_noPanic ?_
      refine wp_region_held_drew (S := (fun w' => w'.cell? ⟨w.heap.size + 1 + 1, 0, none⟩ = some (.slice (some ⟨gj, 0, none⟩) js.length cj) ∧ w'.cell? ⟨w.heap.size + 1 + 1, 1, none⟩ = some (.slice qm km cm) ∧ w'.cell? ⟨q, 2, none⟩ = some (.slice (some ⟨ga, oa, none⟩) 4 cr) ∧ w'.cell? ⟨ga, oa, none⟩ = some (.string x0) ∧ Below U.heap.size U w')) (by kernel_rfl) ?_ (fun hHeld => ?_)
      focus (first | exact hHeld | exact HD.out _ ((Below.refl _ _).drew) | exact HD.out _ (bl_next hb6 hHeld.2.2.2.2))
      refine wpAnyH_take (i := 0) (v := ?_) rfl (by kernel_rfl) (by kernel_rfl) (by kernel_rfl) (fun _ _ _ h => h) (Or.inl ⟨by rfl, ?_⟩) (by assumption) ?_; rotate_left; (focus (intro w hSw; (try dsimp only at hSw); go_simp; try with_reducible rfl)); (try simp only [Act.put, List.getElem_toArray, List.getElem_cons_succ, List.getElem_cons_zero, List.setIfInBounds_toArray, List.set_cons_zero, List.set_cons_succ])
      refine wpAnyH_take (i := 1) (v := ?_) rfl (by kernel_rfl) (by kernel_rfl) (by kernel_rfl) (fun _ _ _ h => h) (Or.inl ⟨by rfl, ?_⟩) (by assumption) ?_; rotate_left; (focus (intro w hSw; (try dsimp only at hSw); go_simp; try with_reducible rfl)); (try simp only [Act.put, List.getElem_toArray, List.getElem_cons_succ, List.getElem_cons_zero, List.setIfInBounds_toArray, List.set_cons_zero, List.set_cons_succ])
      refine wpAnyH_take (i := 2) (v := ?_) rfl (by kernel_rfl) (by kernel_rfl) (by kernel_rfl) (fun _ _ _ h => h) (Or.inl ⟨by rfl, ?_⟩) (by assumption) ?_; rotate_left; (focus (intro w hSw; (try dsimp only at hSw); go_simp; try with_reducible rfl)); (try simp only [Act.put, List.getElem_toArray, List.getElem_cons_succ, List.getElem_cons_zero, List.setIfInBounds_toArray, List.set_cons_zero, List.set_cons_succ])
      refine wpAnyH_take (i := 3) (v := ?_) rfl (by kernel_rfl) (by kernel_rfl) (by kernel_rfl) (fun _ _ _ h => h) (Or.inl ⟨by rfl, ?_⟩) (by assumption) ?_; rotate_left; (focus (intro w hSw; (try dsimp only at hSw); go_simp; try with_reducible rfl)); (try simp only [Act.put, List.getElem_toArray, List.getElem_cons_succ, List.getElem_cons_zero, List.setIfInBounds_toArray, List.set_cons_zero, List.set_cons_succ])
      refine wpAnyH_take (i := 4) (v := ?_) rfl (by kernel_rfl) (by kernel_rfl) (by kernel_rfl) (fun _ _ _ h => h) (Or.inl ⟨by rfl, ?_⟩) (by assumption) ?_; rotate_left; (focus (intro w hSw; (try dsimp only at hSw); go_simp; try with_reducible rfl)); (try simp only [Act.put, List.getElem_toArray, List.getElem_cons_succ, List.getElem_cons_zero, List.setIfInBounds_toArray, List.set_cons_zero, List.set_cons_succ])
      refine wpAnyH_take (i := 5) (v := ?_) rfl (by kernel_rfl) (by kernel_rfl) (by kernel_rfl) (fun _ _ _ h => h) (Or.inl ⟨by rfl, ?_⟩) (by assumption) ?_; rotate_left; (focus (intro w hSw; (try dsimp only at hSw); go_simp; try with_reducible rfl)); (try simp only [Act.put, List.getElem_toArray, List.getElem_cons_succ, List.getElem_cons_zero, List.setIfInBounds_toArray, List.set_cons_zero, List.set_cons_succ])
      refine wpAnyH_take (i := 6) (v := ?_) rfl (by kernel_rfl) (by kernel_rfl) (by kernel_rfl) (fun _ _ _ h => h) (Or.inl ⟨by rfl, ?_⟩) (by assumption) ?_; rotate_left; (focus (intro w hSw; (try dsimp only at hSw); go_simp; try with_reducible rfl)); (try simp only [Act.put, List.getElem_toArray, List.getElem_cons_succ, List.getElem_cons_zero, List.setIfInBounds_toArray, List.set_cons_zero, List.set_cons_succ])
      refine wpAnyH_ready (rs := [7]) (by kernel_rfl) (by simp) (AllReadyH.cons rfl (fun K hK => ?_) AllReadyH.nil); go_simp; (refine (rFind_all js ms _ _ x0 _ (((HR2.out.next hHeld.2.2.2.2).robD HPJ.out hl2))).mono ?_; rintro e w6 ⟨rfl, hb6⟩; rw [hfd]); go_wp2_with fail; refine hK.out _ _ ?_ (fun hHeld => ?_); (focus (first | exact hHeld | exact HD.out _ ((Below.refl _ _).drew) | exact HD.out _ (bl_next hb6 hHeld.2.2.2.2))); clear hK K; (try simp only [Act.put, List.getElem_toArray, List.getElem_cons_succ, List.getElem_cons_zero, List.setIfInBounds_toArray, List.set_cons_zero, List.set_cons_succ])
      refine wpAnyH_take (i := 8) (v := ?_) rfl (by kernel_rfl) (by kernel_rfl) (by kernel_rfl) (fun _ _ _ h => h) (Or.inl ⟨by rfl, ?_⟩) (by assumption) ?_; rotate_left; (focus (intro w hSw; (try dsimp only at hSw); go_simp; try with_reducible rfl)); (try simp only [Act.put, List.getElem_toArray, List.getElem_cons_succ, List.getElem_cons_zero, List.setIfInBounds_toArray, List.set_cons_zero, List.set_cons_succ])
      refine wpAnyH_take (i := 9) (v := ?_) rfl (by kernel_rfl) (by kernel_rfl) (by kernel_rfl) (fun _ _ _ h => h) (Or.inl ⟨by rfl, ?_⟩) (by assumption) ?_; rotate_left; (focus (intro w hSw; (try dsimp only at hSw); go_simp; try with_reducible rfl)); (try simp only [Act.put, List.getElem_toArray, List.getElem_cons_succ, List.getElem_cons_zero, List.setIfInBounds_toArray, List.set_cons_zero, List.set_cons_succ])
      refine wpAnyH_done (by kernel_rfl) ?_ _
      refine NoPanic.normal ?_
      obtain ⟨X, hX⟩ : ∃ X, w6 = X := ⟨_, rfl⟩
      have hbX := hHeld.2.2.2.2
      rw [hX] at hbX ⊢
      clear hX hHeld hb6 HD
      have HR3 := Lib.hid (HR2.out.next hbX)
      have HRA3 := Lib.hid (HRA2.out.below hbX (Nat.le_refl _))
      have ST3 := Lib.hid (ST2.out.next hbX)
      clear hbX HR2 HRA2 ST2
      have y2 := ST3.out.c2
      have w1 : X.cell? ⟨ga, oa + 1, none⟩ = some (.string x1) := (HRA3.out.word_at 1 (by simp)).2
      have w2 : X.cell? ⟨ga, oa + 2, none⟩ = some (.string x2) := (HRA3.out.word_at 2 (by simp)).2
      have w3 : X.cell? ⟨ga, oa + 3, none⟩ = some (.string x3) := (HRA3.out.word_at 3 (by simp)).2
      go_wp2_with fail
      refine (rInteger_any x1 _ (HSZ.out x1 (by simp))).mono ?_
      rintro e w1 ⟨rfl, rfl⟩
      obtain ⟨v1, hv1⟩ : ∃ v, outI (intS (bts x1)) = v := ⟨_, rfl⟩
      obtain ⟨p1, hp1⟩ : ∃ v, outB (intS (bts x1)) = v := ⟨_, rfl⟩
      rw [hv1, hp1]
      have HV1 := Lib.hid hv1
      have HQ1 := Lib.hid hp1
      clear hv1 hp1
      go_wp2_with fail
      refine (rInteger_any x2 _ (HSZ.out x2 (by simp))).mono ?_
      rintro e w1 ⟨rfl, rfl⟩
      obtain ⟨v2, hv2⟩ : ∃ v, outI (intS (bts x2)) = v := ⟨_, rfl⟩
      obtain ⟨p2, hp2⟩ : ∃ v, outB (intS (bts x2)) = v := ⟨_, rfl⟩
      rw [hv2, hp2]
      have HV2 := Lib.hid hv2
      have HQ2 := Lib.hid hp2
      clear hv2 hp2
      go_wp2_with fail
      refine (rInteger_any x3 _ (HSZ.out x3 (by simp))).mono ?_
      rintro e w1 ⟨rfl, rfl⟩
      obtain ⟨v3, hv3⟩ : ∃ v, outI (intS (bts x3)) = v := ⟨_, rfl⟩
      obtain ⟨p3, hp3⟩ : ∃ v, outB (intS (bts x3)) = v := ⟨_, rfl⟩
      rw [hv3, hp3]
      have HV3 := Lib.hid hv3
      have HQ3 := Lib.hid hp3
      clear hv3 hp3
      obtain ⟨_, _, eA, _, hjat⟩ := (own_rdO HR3.out.oj).joint
      injection eA with eA _ _
      subst eA
      obtain ⟨_, _, eB, _, _, _, _, _, _, _, _, _, _, k9, k10, k11⟩ := hjat kf hkl
      injection eB with eB
      injection eB with eB1 eB2 _
      subst eB1 eB2
      rw [Nat.zero_add] at k9 k10 k11
      have f9 := HR3.out.oj.frozenAt (kf * 12 + 9)
      have f10 := HR3.out.oj.frozenAt (kf * 12 + 10)
      have f11 := HR3.out.oj.frozenAt (kf * 12 + 11)
      have HRS := Lib.hid (HR3.out.set kf hkl v1 v2 v3)
      have hgq : gj ≠ q := fun e => own_ne HR3.out.oj ST3.out (by decide) (by rw [e]; rfl)
      have HSC := Lib.hid (show (((X.setCell ⟨gj, kf * 12 + 9, none⟩ (.int .i64 v1)).setCell ⟨gj, kf * 12 + 10, none⟩ (.int .i64 v2)).setCell ⟨gj, kf * 12 + 11, none⟩ (.int .i64 v3)).cell? ⟨q, 0, none⟩ = some (.int .i64 ln) from cell_of_row _ q 0 _ _ _ ((heap_setCell_other _ _ _ _ (by dsimp only; omega)).trans ((heap_setCell_other _ _ _ _ (by dsimp only; omega)).trans ((heap_setCell_other _ _ _ _ (by dsimp only; omega)).trans ST3.out))))
      have HST := Lib.hid (step_limit (js := js) (ms := ms) (s := ⟨ln, wd, [x0, x1, x2, x3]⟩) HK.out (by rw [HK.out]; exact HAG.out) (by show ¬ findK js x0 < 0; rw [HFD.out]; omega))
      clear hjat hgq y2 w1 w2 w3
      have hbad : p1 = false ∨ p2 = false ∨ p3 = false → SwP w q js ms ⟨ln, wd, [x0, x1, x2, x3]⟩ (.int .i64 809) (((X.setCell ⟨gj, kf * 12 + 9, none⟩ (.int .i64 v1)).setCell ⟨gj, kf * 12 + 10, none⟩ (.int .i64 v2)).setCell ⟨gj, kf * 12 + 11, none⟩ (.int .i64 v3)) := fun h => SwP.bad (HST.out.trans (if_pos (by show outB (intS (bts x1)) = false ∨ outB (intS (bts x2)) = false ∨ outB (intS (bts x3)) = false; rw [HQ1.out, HQ2.out, HQ3.out]; exact h))) (by decide) HRS.out.r0 HSC.out
      have HBAD := Lib.hid hbad
      clear hbad
      cases p1 with
      | false => go_wp2_with fail; (try simp only [Exit.inBlock]); exact HQX.out _ _ _ _ _ _ _ _ _ _ _ _ _ _ _ _ _ _ _ _ _ _ _ _ _ _ _ _ _ _ _ _ _ _ _ _ _ _ _ _ _ _ _ _ _ _ _ _ _ _ _ _ _ _ _ _ _ _ _ _ _ _ _ _ _ _ _ _ _ _ _ _ _ _ _ _ _ _ _ _ _ _ _ _ _ _ _ _ _ _ _ _ _ _ _ _ _ _ _ _ _ _ _ _ _ _ _ _ _ _ _ _ _ _ _ _ _ _ _ _ _ _ _ _ _ _ _ _ _ _ _ _ _ _ _ _ _ _ _ _ _ _ _ _ _ _ _ _ _ _ _ _ _ _ _ _ _ _ _ _ _ _ _ _ _ _ _ _ <| HBAD.out (by simp)
      | true =>
        cases p2 with
        | false => go_wp2_with fail; (try simp only [Exit.inBlock]); exact HQX.out _ _ _ _ _ _ _ _ _ _ _ _ _ _ _ _ _ _ _ _ _ _ _ _ _ _ _ _ _ _ _ _ _ _ _ _ _ _ _ _ _ _ _ _ _ _ _ _ _ _ _ _ _ _ _ _ _ _ _ _ _ _ _ _ _ _ _ _ _ _ _ _ _ _ _ _ _ _ _ _ _ _ _ _ _ _ _ _ _ _ _ _ _ _ _ _ _ _ _ _ _ _ _ _ _ _ _ _ _ _ _ _ _ _ _ _ _ _ _ _ _ _ _ _ _ _ _ _ _ _ _ _ _ _ _ _ _ _ _ _ _ _ _ _ _ _ _ _ _ _ _ _ _ _ _ _ _ _ _ _ _ _ _ _ _ _ _ _ <| HBAD.out (by simp)
        | true =>
          cases p3 with
          | false => go_wp2_with fail; (try simp only [Exit.inBlock]); exact HQX.out _ _ _ _ _ _ _ _ _ _ _ _ _ _ _ _ _ _ _ _ _ _ _ _ _ _ _ _ _ _ _ _ _ _ _ _ _ _ _ _ _ _ _ _ _ _ _ _ _ _ _ _ _ _ _ _ _ _ _ _ _ _ _ _ _ _ _ _ _ _ _ _ _ _ _ _ _ _ _ _ _ _ _ _ _ _ _ _ _ _ _ _ _ _ _ _ _ _ _ _ _ _ _ _ _ _ _ _ _ _ _ _ _ _ _ _ _ _ _ _ _ _ _ _ _ _ _ _ _ _ _ _ _ _ _ _ _ _ _ _ _ _ _ _ _ _ _ _ _ _ _ _ _ _ _ _ _ _ _ _ _ _ _ _ _ _ _ _ <| HBAD.out (by simp)
          | true =>
            go_wp2_with fail
            have hgd := HST.out.trans (if_neg (by show ¬ (outB (intS (bts x1)) = false ∨ outB (intS (bts x2)) = false ∨ outB (intS (bts x3)) = false); rw [HQ1.out, HQ2.out, HQ3.out]; simp))
            rw [show (findK js ((St.args ⟨ln, wd, [x0, x1, x2, x3]⟩).getD 0 ⟨#[]⟩)).toNat = kf by show (findK js x0).toNat = kf; rw [HFD.out]; omega, show outI (intS (bts ((St.args ⟨ln, wd, [x0, x1, x2, x3]⟩).getD 1 ⟨#[]⟩))) = v1 from HV1.out, show outI (intS (bts ((St.args ⟨ln, wd, [x0, x1, x2, x3]⟩).getD 2 ⟨#[]⟩))) = v2 from HV2.out, show outI (intS (bts ((St.args ⟨ln, wd, [x0, x1, x2, x3]⟩).getD 3 ⟨#[]⟩))) = v3 from HV3.out] at hgd
            (try simp only [Exit.inBlock]); exact HQX.out _ _ _ _ _ _ _ _ _ _ _ _ _ _ _ _ _ _ _ _ _ _ _ _ _ _ _ _ _ _ _ _ _ _ _ _ _ _ _ _ _ _ _ _ _ _ _ _ _ _ _ _ _ _ _ _ _ _ _ _ _ _ _ _ _ _ _ _ _ _ _ _ _ _ _ _ _ _ _ _ _ _ _ _ _ _ _ _ _ _ _ _ _ _ _ _ _ _ _ _ _ _ _ _ _ _ _ _ _ _ _ _ _ _ _ _ _ _ _ _ _ _ _ _ _ _ _ _ _ _ _ _ _ _ _ _ _ _ _ _ _ _ _ _ _ _ _ _ _ _ _ _ _ _ _ _ _ _ _ _ _ _ _ _ _ _ _ _ <| SwP.good hgd HRS.out HSC.out
end Go.Proofs.YtpaiapcnoifpmaaDoor
