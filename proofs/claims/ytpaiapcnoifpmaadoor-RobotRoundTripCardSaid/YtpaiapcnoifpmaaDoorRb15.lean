/- Proved: the switch of the reference's ReadRobot at a joint. Conditions: as each theorem states. -/
import Derived.Test.YtpaiapcnoifpmaaDoorRb11
import Derived.Deep.CutBlock
namespace Go.Proofs.YtpaiapcnoifpmaaDoor
open Go.RowKit

set_option linter.unusedSimpArgs false in
set_option linter.unusedVariables false in
set_option maxRecDepth 100000 in
set_option maxHeartbeats 12800000 in
theorem sw_joint (w V : World) (q k n : Nat) (js : List JointD) (ms : List MassD) (qj qm : Option Addr) (kj cj km cm : Nat) (ln : Int) (wd : ByteArray) (ar : List ByteArray) (Ar : Option Addr) (cr : Nat) (i0 i1 : TypeInfo)
    (HI : Hid (Tryd.prog.info? 60 = some i0)) (HZ0 : Hid (i0.zero = some (.agg (jointC zeroJ)))) (HZ1 : Hid (i0.size = 12)) (HZ2 : Hid (i0.bytes = 104))
    (MI : Hid (Tryd.prog.info? 74 = some i1)) (MZ0 : Hid (i1.zero = some (.agg (massC ⟨0, 0, 0, 0, 0⟩)))) (MZ1 : Hid (i1.size = 5)) (MZ2 : Hid (i1.bytes = 40))
    (hk12 : k ≤ 1000000000000) (hcr : n ≤ cr ∧ n ≤ 8796093022208) (HRW : Hid (RdT w (.slice Ar n cr) ar)) (HN : Hid (ar.length = n)) (HPJ : Hid (PJ k js ms)) (HSZ : Hid (∀ a ∈ ar, a.size ≤ maxLen))
    (s0 : (wd.toList == [106, 111, 105, 110, 116]) = true) (s1 : (wd.toList == [108, 105, 109, 105, 116]) = false) (s2 : (wd.toList == [109, 97, 115, 115]) = false)
    (HK : Hid (wordK (bts wd) = 0)) (HR1 : Hid (RR w V js ms (.slice qj kj cj) (.slice qm km cm))) (HRA1 : Hid (RdT V (.slice Ar n cr) ar)) (ST : Hid (StAt V q ln wd (.slice Ar n cr)))
    (hq2 : w.heap.size + 1 + 1 < q) (hVs : q < V.heap.size) (hV2 : w.heap.size + 1 + 1 < V.heap.size)
    (z0 z1 z2 z3 z5 z8 z9 z10 z11 z12 z13 z14 z15 z16 z17 z18 z19 z20 z21 z22 z23 z24 z25 z26 z27 z28 z29 z30 z31 z32 z33 z34 z35 z36 z37 z38 z39 z40 z41 z42 z43 z44 z45 z46 z47 z48 z49 z50 z51 z52 z53 z54 z55 z56 z57 z58 z59 z60 z61 z62 z63 z64 z65 z66 z67 z68 z69 z70 z71 z72 z73 z74 z75 z76 z77 z78 z79 z80 z81 z82 z83 z84 z85 z86 z87 z88 z89 z90 z91 z92 z93 z94 z95 z96 z97 z98 z99 z100 z101 z102 z103 z104 z105 z106 z107 z108 z109 z110 z111 z112 z113 z114 z115 z116 z117 z118 z119 z120 z121 z122 z123 z124 z125 z126 z127 z128 z129 z130 z131 z132 z133 z134 z135 z136 z137 z138 z139 z140 z141 z142 z143 z144 z145 z146 z147 z148 z149 z150 z151 z152 z153 z154 z155 z156 z157 z158 z159 z160 z161 z162 z163 z164 z165 z166 z167 z168 z169 z170 z171 z172 z173 z174 z175 z176 z177 z178 z179 z180 z181 z182 z183 : Value) (Q : Exit → Act → World → Prop)
    (hQ : ∀ (y7 y8 y9 y10 y11 y12 y13 y14 y15 y16 y17 y19 y20 y21 y22 y23 y24 y25 y26 y27 y28 y29 y30 y31 y32 y33 y34 y35 y36 y37 y38 y39 y40 y41 y42 y43 y44 y45 y46 y47 y48 y49 y50 y51 y52 y53 y54 y55 y56 y57 y58 y59 y60 y61 y62 y63 y64 y65 y66 y67 y68 y69 y70 y71 y72 y73 y74 y75 y76 y77 y78 y79 y80 y81 y82 y83 y84 y85 y86 y87 y88 y89 y90 y91 y92 y93 y94 y95 y96 y97 y98 y99 y100 y101 y102 y103 y104 y105 y106 y107 y108 y109 y110 y111 y112 y113 y114 y115 y116 y117 y118 y119 y120 y121 y122 y123 y124 y125 y126 y127 y128 y129 y130 y131 y132 y133 y134 y135 y136 y137 y138 y139 y140 y141 y142 y143 y144 y145 y146 y147 y148 y149 y150 y151 y152 y153 y154 y155 y156 y157 y158 y159 y160 y161 y162 y163 y164 y165 y166 y167 y168 y169 y170 y171 y172 y173 y174 : Value) (W : World), SwP w q js ms ⟨ln, wd, ar⟩ y7 W → Q .normal ⟨#[z0, z1, z2, z3, .pointer (some ⟨w.heap.size + 1 + 1, 0, none⟩), z5, .pointer (some ⟨q, 0, none⟩), y7, y8, y9, y10, y11, y12, y13, y14, y15, y16, y17, z18, y19, y20, y21, y22, y23, y24, y25, y26, y27, y28, y29, y30, y31, y32, y33, y34, y35, y36, y37, y38, y39, y40, y41, y42, y43, y44, y45, y46, y47, y48, y49, y50, y51, y52, y53, y54, y55, y56, y57, y58, y59, y60, y61, y62, y63, y64, y65, y66, y67, y68, y69, y70, y71, y72, y73, y74, y75, y76, y77, y78, y79, y80, y81, y82, y83, y84, y85, y86, y87, y88, y89, y90, y91, y92, y93, y94, y95, y96, y97, y98, y99, y100, y101, y102, y103, y104, y105, y106, y107, y108, y109, y110, y111, y112, y113, y114, y115, y116, y117, y118, y119, y120, y121, y122, y123, y124, y125, y126, y127, y128, y129, y130, y131, y132, y133, y134, y135, y136, y137, y138, y139, y140, y141, y142, y143, y144, y145, y146, y147, y148, y149, y150, y151, y152, y153, y154, y155, y156, y157, y158, y159, y160, y161, y162, y163, y164, y165, y166, y167, y168, y169, y170, y171, y172, y173, y174, z175, z176, z177, z178, z179, z180, z181, z182, z183], []⟩ W) :
    Code.wp Tryd.prog (cL (cR (cR (cR (cB (cL (cR (cB (cB (cR (cL (cR (cR ((Tryd.f45).body.getD .skip)))))))))))))) Q ⟨#[z0, z1, z2, z3, .pointer (some ⟨w.heap.size + 1 + 1, 0, none⟩), z5, .pointer (some ⟨q, 0, none⟩), .int .i64 0, z8, z9, z10, z11, z12, z13, z14, z15, z16, z17, z18, z19, z20, z21, z22, z23, z24, z25, z26, z27, z28, z29, z30, z31, z32, z33, z34, z35, z36, z37, z38, z39, z40, z41, z42, z43, z44, z45, z46, z47, z48, z49, z50, z51, z52, z53, z54, z55, z56, z57, z58, z59, z60, z61, z62, z63, z64, z65, z66, z67, z68, z69, z70, z71, z72, z73, z74, z75, z76, z77, z78, z79, z80, z81, z82, z83, z84, z85, z86, z87, z88, z89, z90, z91, z92, z93, z94, z95, z96, z97, z98, z99, z100, z101, z102, z103, z104, z105, z106, z107, z108, z109, z110, z111, z112, z113, z114, z115, z116, z117, z118, z119, z120, z121, z122, z123, z124, z125, z126, z127, z128, z129, z130, z131, z132, z133, z134, z135, z136, z137, z138, z139, z140, z141, z142, z143, z144, z145, z146, z147, z148, z149, z150, z151, z152, z153, z154, z155, z156, z157, z158, z159, z160, z161, z162, z163, z164, z165, z166, z167, z168, z169, z170, z171, z172, z173, z174, z175, z176, z177, z178, z179, z180, z181, z182, z183], []⟩ V := by
  have HQX := Lib.hid hQ
  clear hQ
  conv => enter [2]; whnf
  have b1 := ST.out.c1
  have b2 := ST.out.c2
  go_wp2_with fail
  refine (rArguments_any wd n _ (by omega) (by omega)).mono ?_
  rintro e w1 ⟨rfl, rfl⟩
  rw [HK.out]
  cases hag : argsK 0 (n : Nat) with
  | false =>
    have HAG := Lib.hid hag
    clear hag
    go_wp2_with fail
    (try simp only [Exit.inBlock]); exact HQX.out _ _ _ _ _ _ _ _ _ _ _ _ _ _ _ _ _ _ _ _ _ _ _ _ _ _ _ _ _ _ _ _ _ _ _ _ _ _ _ _ _ _ _ _ _ _ _ _ _ _ _ _ _ _ _ _ _ _ _ _ _ _ _ _ _ _ _ _ _ _ _ _ _ _ _ _ _ _ _ _ _ _ _ _ _ _ _ _ _ _ _ _ _ _ _ _ _ _ _ _ _ _ _ _ _ _ _ _ _ _ _ _ _ _ _ _ _ _ _ _ _ _ _ _ _ _ _ _ _ _ _ _ _ _ _ _ _ _ _ _ _ _ _ _ _ _ _ _ _ _ _ _ _ _ _ _ _ _ _ _ _ _ _ _ _ _ _ _ <| SwP.bad (step_args (by rw [HK.out]; decide) (by rw [HK.out, HN.out]; exact HAG.out)) (by decide) HR1.out.r0 ST.out.c0
  | true =>
    have h9 : n = 9 := by simp [argsK] at hag; omega
    have HAG := Lib.hid hag
    clear hag
    subst h9
    obtain ⟨x0, x1, x2, x3, x4, x5, x6, x7, x8, har⟩ := nine_words ar HN.out
    subst har
    obtain ⟨ga, oa, cc, hv2, hc9⟩ := HRA1.out.addr
    injection hv2 with hv3 _ hv4
    subst hv3 hv4
    have hc9 : 9 ≤ cr := hcr.1
    have d0 := HR1.out.rob.c0
    have d1 := HR1.out.rob.c1
    obtain ⟨er, her⟩ : ∃ er, jerrK js [x0, x1, x2, x3, x4, x5, x6, x7, x8] = er := ⟨_, rfl⟩
    have HER := Lib.hid her
    go_wp2_with fail
    have BA := Lib.hid (show Below V.heap.size V (V.alloc (.cells (jointC zeroJ) 60)) from (Below.refl _ _).alloc (Nat.le_refl _) _)
    have JA := Lib.hid (show JointAt (V.alloc (.cells (jointC zeroJ) 60)) V.heap.size zeroJ from JointAt.at_new rfl)
    have hl2 : k ≤ 8796093022208 := by omega
    refine (rReadJoint_any js ms _ _ x0 x1 x2 x3 x4 x5 x6 x7 x8 ga oa cr _ ((HR1.out.next BA.out).robD HPJ.out hl2) hc9 (HRA1.out.below BA.out (Nat.le_refl _)) HSZ.out).mono ?_
    rintro e w2 ⟨jj, rfl, hjj, hb2⟩
    rw [her] at hjj ⊢
    have JB := Lib.hid (show JointAt w2 V.heap.size zeroJ from (hb2.block _ (by simp)).trans JA.out)
    have BB := Lib.hid (bl_next hb2 BA.out)
    have HJJ := Lib.hid hjj
    clear hb2 hjj her d0 d1
    have BC := Lib.hid (show Below V.heap.size V (w2.setRow V.heap.size (jointC jj)) from ⟨BB.out.os, BB.out.tape, BB.out.output, by rw [show (w2.setRow V.heap.size (jointC jj)).heap.size = w2.heap.size by simp [World.setRow]]; exact BB.out.size, fun i hi => (setRow_other _ _ _ _ (by omega)).trans (BB.out.block i hi)⟩)
    have JC := Lib.hid (show (w2.setRow V.heap.size (jointC jj)).heap[V.heap.size]? = some (.cells #[.string jj.name, .int .i64 jj.kind, .int .i64 jj.parent, .int .i64 jj.x, .int .i64 jj.y, .int .i64 jj.z, .int .i64 jj.lo, .int .i64 jj.hi, .int .i64 jj.weight, .int .i64 jj.speed, .int .i64 jj.accel, .int .i64 jj.torque] 60 (0, 0)) from setRow_heap _ _ _ _ _ _ JB.out)
    have HRC := Lib.hid (HR1.out.next BC.out)
    have hjl := HPJ.out.lj
    go_upto_region 17 with (refine wpList_store_row rfl 60 _ _ rfl (V.heap.size) (jointC jj) rfl rfl 60 (jointC zeroJ) JB.out info_joint rfl (joint_one _) ?_)
    obtain ⟨W3, hW3⟩ : ∃ W3, w2.setRow V.heap.size (jointC jj) = W3 := ⟨_, rfl⟩
    rw [hW3] at BC JC HRC ⊢
    clear hW3
    have d0 := HRC.out.rob.c0
    have HRE := Lib.hid (HRC.out.alloc (.cells #[.string jj.name, .int .i64 jj.kind, .int .i64 jj.parent, .int .i64 jj.x, .int .i64 jj.y, .int .i64 jj.z, .int .i64 jj.lo, .int .i64 jj.hi, .int .i64 jj.weight, .int .i64 jj.speed, .int .i64 jj.accel, .int .i64 jj.torque] 60))
    have hW2 := HRC.out.rob.lt
    go_wp2_with (first | (refine wpList_load_row rfl 60 _ rfl (V.heap.size) rfl 60 _ (0, 0) _ JC.out under_joint rfl info_joint ?_) | (at_builtin; refine wpList_append_own _ rfl (.tmp 96) (.tmp 98) 22 rfl (w.heap.size + 1 + 1 + 1) 60 i0 (.agg (jointC zeroJ)) 12 104 under_joints HI.out HZ0.out HZ1.out HZ2.out rfl (by decide) _ js.length (jcells js) rfl HRE.out.oj ⟨_, 0, none⟩ 1 1 (jointC jj).toList rfl (by rfl) (joint_news _ jj) (joint_ones jj) (by unfold maxLen; omega) (by omega) (by have := HRE.out.rob.lt; omega) ?_))
    intro v2 w4 hown2 hgrow _
    obtain ⟨g4, cap4, rfl⟩ := own_form hown2 (by omega)
    obtain ⟨hrob, hpush⟩ := HRE.out.pushJ hown2 hgrow
    have hst := HRE.out.st_pushJ (i := 0) (v' := .slice (some ⟨g4, 0, none⟩) (js.length + 1) cap4) ((ST.out.next BC.out).next ((Below.refl _ _).alloc (Nat.le_refl _) _)) hgrow hq2
    have HPU := Lib.hid hpush
    have HST := Lib.hid hst
    have c0 := hrob.c0
    have f0 := hrob.free 0
    clear hown2 hgrow hpush hst hrob
    go_wp2_with fail
    have hjs := step_joint (js := js) (ms := ms) (s := ⟨ln, wd, [x0, x1, x2, x3, x4, x5, x6, x7, x8]⟩) HK.out (by rw [HK.out]; exact HAG.out)
    have hje : jerrK js [x0, x1, x2, x3, x4, x5, x6, x7, x8] = er := HER.out
    by_cases he : er = 0
    · rw [if_pos (by show jerrK js [x0, x1, x2, x3, x4, x5, x6, x7, x8] = 0; rw [hje]; exact he)] at hjs
      subst he
      rw [show readJ js (St.args ⟨ln, wd, [x0, x1, x2, x3, x4, x5, x6, x7, x8]⟩) = jj from (HJJ.out rfl).symm] at hjs
      (try simp only [Exit.inBlock]); exact HQX.out _ _ _ _ _ _ _ _ _ _ _ _ _ _ _ _ _ _ _ _ _ _ _ _ _ _ _ _ _ _ _ _ _ _ _ _ _ _ _ _ _ _ _ _ _ _ _ _ _ _ _ _ _ _ _ _ _ _ _ _ _ _ _ _ _ _ _ _ _ _ _ _ _ _ _ _ _ _ _ _ _ _ _ _ _ _ _ _ _ _ _ _ _ _ _ _ _ _ _ _ _ _ _ _ _ _ _ _ _ _ _ _ _ _ _ _ _ _ _ _ _ _ _ _ _ _ _ _ _ _ _ _ _ _ _ _ _ _ _ _ _ _ _ _ _ _ _ _ _ _ _ _ _ _ _ _ _ _ _ _ _ _ _ _ _ _ _ _ <| SwP.good hjs HPU.out HST.out.c0
    · rw [if_neg (by show ¬ jerrK js [x0, x1, x2, x3, x4, x5, x6, x7, x8] = 0; rw [hje]; exact he), show jerrK js (St.args ⟨ln, wd, [x0, x1, x2, x3, x4, x5, x6, x7, x8]⟩) = er from hje] at hjs
      (try simp only [Exit.inBlock]); exact HQX.out _ _ _ _ _ _ _ _ _ _ _ _ _ _ _ _ _ _ _ _ _ _ _ _ _ _ _ _ _ _ _ _ _ _ _ _ _ _ _ _ _ _ _ _ _ _ _ _ _ _ _ _ _ _ _ _ _ _ _ _ _ _ _ _ _ _ _ _ _ _ _ _ _ _ _ _ _ _ _ _ _ _ _ _ _ _ _ _ _ _ _ _ _ _ _ _ _ _ _ _ _ _ _ _ _ _ _ _ _ _ _ _ _ _ _ _ _ _ _ _ _ _ _ _ _ _ _ _ _ _ _ _ _ _ _ _ _ _ _ _ _ _ _ _ _ _ _ _ _ _ _ _ _ _ _ _ _ _ _ _ _ _ _ _ _ _ _ _ <| SwP.bad hjs he HPU.out.r0 HST.out.c0
end Go.Proofs.YtpaiapcnoifpmaaDoor
