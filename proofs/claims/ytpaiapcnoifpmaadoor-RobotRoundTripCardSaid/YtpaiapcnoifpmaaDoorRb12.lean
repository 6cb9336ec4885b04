/- Proved: the reference's ReadRobot returns what readR computes. Conditions: as each theorem states. -/
import Derived.Test.YtpaiapcnoifpmaaDoorRb15
import Derived.Test.YtpaiapcnoifpmaaDoorRb16
import Derived.Test.YtpaiapcnoifpmaaDoorRb17
import Derived.Deep.CutBlock
namespace Go.Proofs.YtpaiapcnoifpmaaDoor
open Go.RowKit

def ReadP (w : World) (l : List St) : Ending → World → Prop := fun e w' => ∃ vj vm, e = .returned (.tuple #[.agg #[vj, vm], .agg #[.int .i64 (readR [] [] l).2.1, .int .i64 (readR [] [] l).2.2]]) ∧ RobD w' vj vm (readR [] [] l).1.1 (readR [] [] l).1.2 ∧ Below w.heap.size w w'
theorem read_skip {js : List JointD} {ms : List MassD} {s : St} (l : List St) (h : 2 < wordK (bts s.word)) : readR js ms (s :: l) = readR js ms l := by
  rw [readR]
  unfold stepR
  rw [if_pos h]
theorem read_ok {js js' : List JointD} {ms ms' : List MassD} {s : St} (l : List St) (h : stepR js ms s = .ok js' ms') : readR js ms (s :: l) = readR js' ms' l := by
  rw [readR, h]
theorem read_err {js : List JointD} {ms : List MassD} {s : St} {e : Int} (l : List St) (h : stepR js ms s = .err e) : readR js ms (s :: l) = (([], []), e, s.line) := by
  rw [readR, h]
theorem robD_nil (W : World) : RobD W (.slice none 0 0) (.slice none 0 0) [] [] :=
  ⟨⟨none, 0, rfl, Nat.le_refl _, fun j hj => absurd hj (by simp)⟩, ⟨none, 0, rfl, Nat.le_refl _, fun j hj => absurd hj (by simp)⟩, by decide, by decide, fun k h => absurd h (by simp), fun k h => absurd h (by simp)⟩
set_option linter.unusedSimpArgs false in
set_option linter.unusedVariables false in
set_option maxRecDepth 100000 in
set_option maxHeartbeats 12800000 in
theorem rReadRobot_any (u : Value) (l : List St) (w : World) (hu : RdS w u l) (hs : ∀ s ∈ l, ∀ a ∈ s.args, a.size ≤ maxLen) (hn0 : l.length ≤ 1000000000000) :
    Calls Tryd.prog 45 #[ u ] w (ReadP w l) := by
  have HU := Lib.hid hu
  have HS := Lib.hid hs
  obtain ⟨A, c, rfl, hl, _⟩ := hu
  unfold ReadP
  obtain ⟨RES, hRES⟩ : ∃ R, readR [] [] l = R := ⟨_, rfl⟩
  have HRES := Lib.hid hRES
  rw [hRES]
  obtain ⟨i0, hi, hz0, hz1, hz2⟩ := info_parts info_jointA
  have HI := Lib.hid hi
  have HZ0 := Lib.hid hz0
  have HZ1 := Lib.hid hz1
  have HZ2 := Lib.hid hz2
  clear hi hz0 hz1 hz2
  obtain ⟨i1, hi, hz0, hz1, hz2⟩ := info_parts info_mass
  have MI := Lib.hid hi
  have MZ0 := Lib.hid hz0
  have MZ1 := Lib.hid hz1
  have MZ2 := Lib.hid hz2
  clear hs hi hz0 hz1 hz2 hRES
  have HP := Lib.hid (RR.start (w := w))
  go_enter Tryd.func45, Tryd.ntmps45
  go_wp2_with fail
  go_loopw [5] (fun v5 wr => ∃ (k : Nat) (js : List JointD) (ms : List MassD) (vj vm : Value), k ≤ l.length ∧ v5 = .int .i64 k ∧ RR w wr js ms vj vm ∧ PJ k js ms ∧ readR js ms (l.drop k) = RES) (fun v5 _ => l.length - (intOf v5).toNat)
  case atStart => exact ⟨0, [], [], _, _, Nat.zero_le _, rfl, HP.out, ⟨Nat.le_refl _, Nat.le_refl _, fun k h => absurd h (by simp), fun k h => absurd h (by simp)⟩, by rw [List.drop_zero]; exact HRES.out⟩
  case round =>
    obtain ⟨k, js, ms, vj, vm, hkl, rfl, hR, hp, hread⟩ := hrel
    clear HP
    obtain ⟨qj, kj, cj, rfl⟩ := own_slc hR.oj
    obtain ⟨qm, km, cm, rfl⟩ := own_slc hR.om
    by_cases hlt : k < l.length
    · obtain ⟨_, _, ea, _, hat⟩ := HU.out
      injection ea with ea _ ec
      subst ea ec
      obtain ⟨g, o, va, rfl, hgw, w0, w1, w2, hraw⟩ := hat k hlt
      have hg : g < wr.heap.size := Nat.lt_of_lt_of_le hgw hR.bl.size
      have a0 := (hR.bl.cell (p := ⟨g, o + k * 3, none⟩) hgw).trans w0
      have a1 := (hR.bl.cell (p := ⟨g, o + k * 3 + 1, none⟩) hgw).trans w1
      have a2 := (hR.bl.cell (p := ⟨g, o + k * 3 + 2, none⟩) hgw).trans w2
      have hra := hraw.below hR.bl (Nat.le_refl _)
      have HRW := Lib.hid hraw
      clear w0 w1 w2 hraw
      have hsz := HS.out l[k] (List.getElem_mem hlt)
      rw [List.drop_eq_getElem_cons hlt] at hread
      obtain ⟨s, hse⟩ : ∃ s, l[k] = s := ⟨_, rfl⟩
      rw [hse] at a0 a1 hra HRW hread hsz
      obtain ⟨ln, wd, ar⟩ := s
      simp only at a0 a1 hra HRW hsz
      obtain ⟨Ar, cr, hva, hcr, _⟩ := id hra
      obtain ⟨n, hn⟩ : ∃ n, ar.length = n := ⟨_, rfl⟩
      rw [hn] at hva hcr
      subst hva
      have HN := Lib.hid hn
      clear hn
      have HR := Lib.hid hR
      have HPJ := Lib.hid hp
      have HRD := Lib.hid hread
      have HRA := Lib.hid hra
      have HSZ := Lib.hid hsz
      have hq2 := hR.rob.lt'
      clear hR hp hread hra hsz hat hse
      rcases word_cases wd with ⟨hK, s0, s1, s2, _, _⟩ | ⟨hK, s0, s1, s2, _, _⟩ | ⟨hK, s0, s1, s2, _, _⟩ | ⟨hK, s0, s1, s2, _, _⟩ | ⟨hK, s0, s1, s2, _, _⟩ | ⟨hK, s0, s1, s2, _, _⟩
      · skip
        have HK := Lib.hid hK
        clear hK
        have st0 : StAt (wr.alloc (.cells #[.int .i64 ln, .string wd, .slice Ar n cr] 43)) wr.heap.size ln wd (.slice Ar n cr) := heap_alloc_new _ _
        have HR1 := Lib.hid (HR.out.alloc (.cells #[.int .i64 ln, .string wd, .slice Ar n cr] 43))
        have HRA1 := Lib.hid (HRA.out.below ((Below.refl wr.heap.size wr).alloc (Nat.le_refl _) (.cells #[.int .i64 ln, .string wd, .slice Ar n cr] 43)) (Nat.le_refl _))
        have ST := Lib.hid st0
        clear st0
        go_upto_block 2 with fail
        obtain ⟨V, hV⟩ : ∃ V, wr.alloc (.cells #[.int .i64 ln, .string wd, .slice Ar n cr] 43) = V := ⟨_, rfl⟩
        rw [hV] at HR1 HRA1 ST ⊢
        have hVs : wr.heap.size < V.heap.size := by rw [← hV]; simp
        clear hV HR HRA a0 a1 a2
        obtain ⟨q, hq⟩ : ∃ q, wr.heap.size = q := ⟨_, rfl⟩
        rw [hq] at ST hq2 hVs ⊢
        clear hq
        have hV2 : w.heap.size + 1 + 1 < V.heap.size := by omega
        refine sw_joint w V q k n js ms qj qm kj cj km cm ln wd ar Ar cr i0 i1 HI HZ0 HZ1 HZ2 MI MZ0 MZ1 MZ2 (by omega) hcr HRW HN HPJ HSZ s0 s1 s2 HK HR1 HRA1 ST hq2 hVs hV2 _ _ _ _ _ _ _ _ _ _ _ _ _ _ _ _ _ _ _ _ _ _ _ _ _ _ _ _ _ _ _ _ _ _ _ _ _ _ _ _ _ _ _ _ _ _ _ _ _ _ _ _ _ _ _ _ _ _ _ _ _ _ _ _ _ _ _ _ _ _ _ _ _ _ _ _ _ _ _ _ _ _ _ _ _ _ _ _ _ _ _ _ _ _ _ _ _ _ _ _ _ _ _ _ _ _ _ _ _ _ _ _ _ _ _ _ _ _ _ _ _ _ _ _ _ _ _ _ _ _ _ _ _ _ _ _ _ _ _ _ _ _ _ _ _ _ _ _ _ _ _ _ _ _ _ _ _ _ _ _ _ _ _ _ _ _ _ _ _ _ _ _ _ _ _ _ _ _ _ _ _ _ ?_
        intro y7 y8 y9 y10 y11 y12 y13 y14 y15 y16 y17 y19 y20 y21 y22 y23 y24 y25 y26 y27 y28 y29 y30 y31 y32 y33 y34 y35 y36 y37 y38 y39 y40 y41 y42 y43 y44 y45 y46 y47 y48 y49 y50 y51 y52 y53 y54 y55 y56 y57 y58 y59 y60 y61 y62 y63 y64 y65 y66 y67 y68 y69 y70 y71 y72 y73 y74 y75 y76 y77 y78 y79 y80 y81 y82 y83 y84 y85 y86 y87 y88 y89 y90 y91 y92 y93 y94 y95 y96 y97 y98 y99 y100 y101 y102 y103 y104 y105 y106 y107 y108 y109 y110 y111 y112 y113 y114 y115 y116 y117 y118 y119 y120 y121 y122 y123 y124 y125 y126 y127 y128 y129 y130 y131 y132 y133 y134 y135 y136 y137 y138 y139 y140 y141 y142 y143 y144 y145 y146 y147 y148 y149 y150 y151 y152 y153 y154 y155 y156 y157 y158 y159 y160 y161 y162 y163 y164 y165 y166 y167 y168 y169 y170 y171 y172 y173 y174 wc hcut
        (try simp only [Exit.then])
        obtain ⟨er, rfl, h0, h1, hr0, hc⟩ := hcut
        clear HR1 HRA1 ST
        by_cases he : er = 0
        · obtain ⟨js2, ms2, vj2, vm2, hst, hrr⟩ := h0 he
          subst he
          have HX := Lib.hid hst
          have HY := Lib.hid hrr
          clear h0 h1 hr0 hc hst hrr
          go_wp2_with fail
          go_roundw
          case rel => exact ⟨k + 1, js2, ms2, vj2, vm2, by omega, by go_num, HY.out, HPJ.out.step (by omega) HX.out, (read_ok _ HX.out).symm.trans HRD.out⟩
          case measure => simp [intOf]; omega
        · have hrs := (read_err _ (h1 he)).symm.trans HRD.out
          have H0 := Lib.hid hr0
          have HX := Lib.hid hrs
          clear h0 h1 hrs hr0
          have hne : ((er : Int) == 0) = false := by rw [beq_eq_false_iff_ne]; exact he
          obtain ⟨U, hU⟩ : ∃ U, wc = U := ⟨_, rfl⟩
          rw [hU] at H0 hc ⊢
          clear hU he
          have HD := Lib.hid (show ∀ W : World, W.heap[q]? = U.heap[q]? → (fun w' : World => w'.cell? ⟨q, 0, none⟩ = some (.int .i64 ln)) W from fun W h => (World.cell?_of_block (w := U) h).trans hc)
          have e0 := H0.out.res.c0
          have e1 := H0.out.res.c1
          have e2 := H0.out.res.free 0
          have e3 := H0.out.res.free 1
          have e4 : U.cell? ⟨w.heap.size + 1, 0, none⟩ = some (.int .i64 0) := cell_of_row U _ 0 _ _ _ H0.out.err
          have e5 : U.cell? ⟨w.heap.size + 1, 1, none⟩ = some (.int .i64 0) := cell_of_row U _ 1 _ _ _ H0.out.err
          have e6 := frozen_of_row U _ 0 _ _ H0.out.err
          have e7 := frozen_of_row U _ 1 _ _ H0.out.err
          go_wp2_with fail
          refine wp_region_held_drew (S := (fun w' : World => w'.cell? ⟨q, 0, none⟩ = some (.int .i64 ln))) (by kernel_rfl) ?_ (fun hHeld => ?_)
          focus (refine HD.out _ ?_; (try rw [show ∀ W : World, W.drew.heap = W.heap from fun _ => rfl]); (repeat (with_reducible refine (heap_setCell_other _ _ _ _ (by dsimp only; omega)).trans ?_)); (try exact rfl))
          refine wpAnyH_take (i := 0) (v := ?_) rfl (by kernel_rfl) (by kernel_rfl) (by kernel_rfl) (fun _ _ _ h => h) (Or.inl ⟨by rfl, ?_⟩) (by assumption) ?_; rotate_left; (focus (intro w hSw; (try dsimp only at hSw); go_simp; try with_reducible rfl)); (try simp only [Act.put, List.getElem_toArray, List.getElem_cons_succ, List.getElem_cons_zero, List.setIfInBounds_toArray, List.set_cons_zero, List.set_cons_succ])
          refine wpAnyH_take (i := 1) (v := ?_) rfl (by kernel_rfl) (by kernel_rfl) (by kernel_rfl) (fun _ _ _ h => h) (Or.inl ⟨by rfl, ?_⟩) (by assumption) ?_; rotate_left; (focus (intro w hSw; (try dsimp only at hSw); go_simp; try with_reducible rfl)); (try simp only [Act.put, List.getElem_toArray, List.getElem_cons_succ, List.getElem_cons_zero, List.setIfInBounds_toArray, List.set_cons_zero, List.set_cons_succ])
          refine wpAnyH_take (i := 2) (v := ?_) rfl (by kernel_rfl) (by kernel_rfl) (by kernel_rfl) (fun _ _ _ h => h) (Or.inl ⟨by rfl, ?_⟩) (by assumption) ?_; rotate_left; (focus (intro w hSw; (try dsimp only at hSw); go_simp; try with_reducible rfl)); (try simp only [Act.put, List.getElem_toArray, List.getElem_cons_succ, List.getElem_cons_zero, List.setIfInBounds_toArray, List.set_cons_zero, List.set_cons_succ])
          refine wpAnyH_take (i := 3) (v := ?_) rfl (by kernel_rfl) (by kernel_rfl) (by kernel_rfl) (fun _ _ _ h => h) (Or.inl ⟨by rfl, ?_⟩) (by assumption) ?_; rotate_left; (focus (intro w hSw; (try dsimp only at hSw); go_simp; try with_reducible rfl)); (try simp only [Act.put, List.getElem_toArray, List.getElem_cons_succ, List.getElem_cons_zero, List.setIfInBounds_toArray, List.set_cons_zero, List.set_cons_succ])
          refine wpAnyH_take (i := 4) (v := ?_) rfl (by kernel_rfl) (by kernel_rfl) (by kernel_rfl) (fun _ _ _ h => h) (Or.inl ⟨by rfl, ?_⟩) (by assumption) ?_; rotate_left; (focus (intro w hSw; (try dsimp only at hSw); go_simp; try with_reducible rfl)); (try simp only [Act.put, List.getElem_toArray, List.getElem_cons_succ, List.getElem_cons_zero, List.setIfInBounds_toArray, List.set_cons_zero, List.set_cons_succ])
          refine wpAnyH_ready (rs := [5]) (by kernel_rfl) (by simp) (AllReadyH.cons rfl (fun K hK => ?_) AllReadyH.nil); go_simp; refine hK.out _ _ ?_ (fun hHeld => ?_); (focus (refine HD.out _ ?_; (try rw [show ∀ W : World, W.drew.heap = W.heap from fun _ => rfl]); (repeat (with_reducible refine (heap_setCell_other _ _ _ _ (by dsimp only; omega)).trans ?_)); (try exact rfl))); clear hK K; (try simp only [Act.put, List.getElem_toArray, List.getElem_cons_succ, List.getElem_cons_zero, List.setIfInBounds_toArray, List.set_cons_zero, List.set_cons_succ])
          refine wpAnyH_ready (rs := [6]) (by kernel_rfl) (by simp) (AllReadyH.cons rfl (fun K hK => ?_) AllReadyH.nil); go_simp; refine hK.out _ _ ?_ (fun hHeld => ?_); (focus (refine HD.out _ ?_; (try rw [show ∀ W : World, W.drew.heap = W.heap from fun _ => rfl]); (repeat (with_reducible refine (heap_setCell_other _ _ _ _ (by dsimp only; omega)).trans ?_)); (try exact rfl))); clear hK K; (try simp only [Act.put, List.getElem_toArray, List.getElem_cons_succ, List.getElem_cons_zero, List.setIfInBounds_toArray, List.set_cons_zero, List.set_cons_succ])
          refine wpAnyH_done (by kernel_rfl) ?_ _
          obtain ⟨z1, z2, z3⟩ := H0.out.fin (.slice none 0 0) (.slice none 0 0) er ln
          have Z1 := Lib.hid z1
          have Z2 := Lib.hid z2
          have Z3 := Lib.hid z3
          have hx := HX.out
          subst hx
          clear z1 z2 z3 hHeld hc e0 e1 e2 e3 e4 e5 e6 e7 HRES
          go_wp2_with fail
          (try simp only [Exit.inBlock, Exit.then])
          refine bodyPost_ret (v := .tuple #[.agg #[.slice none 0 0, .slice none 0 0], .agg #[.int .i64 er, .int .i64 ln]]) (read_res rfl _ _ _ _ _ _ _ _ Z1.out Z2.out rfl rfl) rfl ⟨_, _, rfl, robD_nil _, Z3.out.drew⟩
      · skip
        have HK := Lib.hid hK
        clear hK
        have st0 : StAt (wr.alloc (.cells #[.int .i64 ln, .string wd, .slice Ar n cr] 43)) wr.heap.size ln wd (.slice Ar n cr) := heap_alloc_new _ _
        have HR1 := Lib.hid (HR.out.alloc (.cells #[.int .i64 ln, .string wd, .slice Ar n cr] 43))
        have HRA1 := Lib.hid (HRA.out.below ((Below.refl wr.heap.size wr).alloc (Nat.le_refl _) (.cells #[.int .i64 ln, .string wd, .slice Ar n cr] 43)) (Nat.le_refl _))
        have ST := Lib.hid st0
        clear st0
        go_upto_block 2 with fail
        obtain ⟨V, hV⟩ : ∃ V, wr.alloc (.cells #[.int .i64 ln, .string wd, .slice Ar n cr] 43) = V := ⟨_, rfl⟩
        rw [hV] at HR1 HRA1 ST ⊢
        have hVs : wr.heap.size < V.heap.size := by rw [← hV]; simp
        clear hV HR HRA a0 a1 a2
        obtain ⟨q, hq⟩ : ∃ q, wr.heap.size = q := ⟨_, rfl⟩
        rw [hq] at ST hq2 hVs ⊢
        clear hq
        have hV2 : w.heap.size + 1 + 1 < V.heap.size := by omega
        refine sw_limit w V q k n js ms qj qm kj cj km cm ln wd ar Ar cr i0 i1 HI HZ0 HZ1 HZ2 MI MZ0 MZ1 MZ2 (by omega) hcr HRW HN HPJ HSZ s0 s1 s2 HK HR1 HRA1 ST hq2 hVs hV2 _ _ _ _ _ _ _ _ _ _ _ _ _ _ _ _ _ _ _ _ _ _ _ _ _ _ _ _ _ _ _ _ _ _ _ _ _ _ _ _ _ _ _ _ _ _ _ _ _ _ _ _ _ _ _ _ _ _ _ _ _ _ _ _ _ _ _ _ _ _ _ _ _ _ _ _ _ _ _ _ _ _ _ _ _ _ _ _ _ _ _ _ _ _ _ _ _ _ _ _ _ _ _ _ _ _ _ _ _ _ _ _ _ _ _ _ _ _ _ _ _ _ _ _ _ _ _ _ _ _ _ _ _ _ _ _ _ _ _ _ _ _ _ _ _ _ _ _ _ _ _ _ _ _ _ _ _ _ _ _ _ _ _ _ _ _ _ _ _ _ _ _ _ _ _ _ _ _ _ _ _ _ ?_
        intro y7 y8 y9 y10 y11 y12 y13 y14 y15 y16 y17 y19 y20 y21 y22 y23 y24 y25 y26 y27 y28 y29 y30 y31 y32 y33 y34 y35 y36 y37 y38 y39 y40 y41 y42 y43 y44 y45 y46 y47 y48 y49 y50 y51 y52 y53 y54 y55 y56 y57 y58 y59 y60 y61 y62 y63 y64 y65 y66 y67 y68 y69 y70 y71 y72 y73 y74 y75 y76 y77 y78 y79 y80 y81 y82 y83 y84 y85 y86 y87 y88 y89 y90 y91 y92 y93 y94 y95 y96 y97 y98 y99 y100 y101 y102 y103 y104 y105 y106 y107 y108 y109 y110 y111 y112 y113 y114 y115 y116 y117 y118 y119 y120 y121 y122 y123 y124 y125 y126 y127 y128 y129 y130 y131 y132 y133 y134 y135 y136 y137 y138 y139 y140 y141 y142 y143 y144 y145 y146 y147 y148 y149 y150 y151 y152 y153 y154 y155 y156 y157 y158 y159 y160 y161 y162 y163 y164 y165 y166 y167 y168 y169 y170 y171 y172 y173 y174 wc hcut
        (try simp only [Exit.then])
        obtain ⟨er, rfl, h0, h1, hr0, hc⟩ := hcut
        clear HR1 HRA1 ST
        by_cases he : er = 0
        · obtain ⟨js2, ms2, vj2, vm2, hst, hrr⟩ := h0 he
          subst he
          have HX := Lib.hid hst
          have HY := Lib.hid hrr
          clear h0 h1 hr0 hc hst hrr
          go_wp2_with fail
          go_roundw
          case rel => exact ⟨k + 1, js2, ms2, vj2, vm2, by omega, by go_num, HY.out, HPJ.out.step (by omega) HX.out, (read_ok _ HX.out).symm.trans HRD.out⟩
          case measure => simp [intOf]; omega
        · have hrs := (read_err _ (h1 he)).symm.trans HRD.out
          have H0 := Lib.hid hr0
          have HX := Lib.hid hrs
          clear h0 h1 hrs hr0
          have hne : ((er : Int) == 0) = false := by rw [beq_eq_false_iff_ne]; exact he
          obtain ⟨U, hU⟩ : ∃ U, wc = U := ⟨_, rfl⟩
          rw [hU] at H0 hc ⊢
          clear hU he
          have HD := Lib.hid (show ∀ W : World, W.heap[q]? = U.heap[q]? → (fun w' : World => w'.cell? ⟨q, 0, none⟩ = some (.int .i64 ln)) W from fun W h => (World.cell?_of_block (w := U) h).trans hc)
          have e0 := H0.out.res.c0
          have e1 := H0.out.res.c1
          have e2 := H0.out.res.free 0
          have e3 := H0.out.res.free 1
          have e4 : U.cell? ⟨w.heap.size + 1, 0, none⟩ = some (.int .i64 0) := cell_of_row U _ 0 _ _ _ H0.out.err
          have e5 : U.cell? ⟨w.heap.size + 1, 1, none⟩ = some (.int .i64 0) := cell_of_row U _ 1 _ _ _ H0.out.err
          have e6 := frozen_of_row U _ 0 _ _ H0.out.err
          have e7 := frozen_of_row U _ 1 _ _ H0.out.err
          go_wp2_with fail
          refine wp_region_held_drew (S := (fun w' : World => w'.cell? ⟨q, 0, none⟩ = some (.int .i64 ln))) (by kernel_rfl) ?_ (fun hHeld => ?_)
          focus (refine HD.out _ ?_; (try rw [show ∀ W : World, W.drew.heap = W.heap from fun _ => rfl]); (repeat (with_reducible refine (heap_setCell_other _ _ _ _ (by dsimp only; omega)).trans ?_)); (try exact rfl))
          refine wpAnyH_take (i := 0) (v := ?_) rfl (by kernel_rfl) (by kernel_rfl) (by kernel_rfl) (fun _ _ _ h => h) (Or.inl ⟨by rfl, ?_⟩) (by assumption) ?_; rotate_left; (focus (intro w hSw; (try dsimp only at hSw); go_simp; try with_reducible rfl)); (try simp only [Act.put, List.getElem_toArray, List.getElem_cons_succ, List.getElem_cons_zero, List.setIfInBounds_toArray, List.set_cons_zero, List.set_cons_succ])
          refine wpAnyH_take (i := 1) (v := ?_) rfl (by kernel_rfl) (by kernel_rfl) (by kernel_rfl) (fun _ _ _ h => h) (Or.inl ⟨by rfl, ?_⟩) (by assumption) ?_; rotate_left; (focus (intro w hSw; (try dsimp only at hSw); go_simp; try with_reducible rfl)); (try simp only [Act.put, List.getElem_toArray, List.getElem_cons_succ, List.getElem_cons_zero, List.setIfInBounds_toArray, List.set_cons_zero, List.set_cons_succ])
          refine wpAnyH_take (i := 2) (v := ?_) rfl (by kernel_rfl) (by kernel_rfl) (by kernel_rfl) (fun _ _ _ h => h) (Or.inl ⟨by rfl, ?_⟩) (by assumption) ?_; rotate_left; (focus (intro w hSw; (try dsimp only at hSw); go_simp; try with_reducible rfl)); (try simp only [Act.put, List.getElem_toArray, List.getElem_cons_succ, List.getElem_cons_zero, List.setIfInBounds_toArray, List.set_cons_zero, List.set_cons_succ])
          refine wpAnyH_take (i := 3) (v := ?_) rfl (by kernel_rfl) (by kernel_rfl) (by kernel_rfl) (fun _ _ _ h => h) (Or.inl ⟨by rfl, ?_⟩) (by assumption) ?_; rotate_left; (focus (intro w hSw; (try dsimp only at hSw); go_simp; try with_reducible rfl)); (try simp only [Act.put, List.getElem_toArray, List.getElem_cons_succ, List.getElem_cons_zero, List.setIfInBounds_toArray, List.set_cons_zero, List.set_cons_succ])
          refine wpAnyH_take (i := 4) (v := ?_) rfl (by kernel_rfl) (by kernel_rfl) (by kernel_rfl) (fun _ _ _ h => h) (Or.inl ⟨by rfl, ?_⟩) (by assumption) ?_; rotate_left; (focus (intro w hSw; (try dsimp only at hSw); go_simp; try with_reducible rfl)); (try simp only [Act.put, List.getElem_toArray, List.getElem_cons_succ, List.getElem_cons_zero, List.setIfInBounds_toArray, List.set_cons_zero, List.set_cons_succ])
          refine wpAnyH_ready (rs := [5]) (by kernel_rfl) (by simp) (AllReadyH.cons rfl (fun K hK => ?_) AllReadyH.nil); go_simp; refine hK.out _ _ ?_ (fun hHeld => ?_); (focus (refine HD.out _ ?_; (try rw [show ∀ W : World, W.drew.heap = W.heap from fun _ => rfl]); (repeat (with_reducible refine (heap_setCell_other _ _ _ _ (by dsimp only; omega)).trans ?_)); (try exact rfl))); clear hK K; (try simp only [Act.put, List.getElem_toArray, List.getElem_cons_succ, List.getElem_cons_zero, List.setIfInBounds_toArray, List.set_cons_zero, List.set_cons_succ])
          refine wpAnyH_ready (rs := [6]) (by kernel_rfl) (by simp) (AllReadyH.cons rfl (fun K hK => ?_) AllReadyH.nil); go_simp; refine hK.out _ _ ?_ (fun hHeld => ?_); (focus (refine HD.out _ ?_; (try rw [show ∀ W : World, W.drew.heap = W.heap from fun _ => rfl]); (repeat (with_reducible refine (heap_setCell_other _ _ _ _ (by dsimp only; omega)).trans ?_)); (try exact rfl))); clear hK K; (try simp only [Act.put, List.getElem_toArray, List.getElem_cons_succ, List.getElem_cons_zero, List.setIfInBounds_toArray, List.set_cons_zero, List.set_cons_succ])
          refine wpAnyH_done (by kernel_rfl) ?_ _
          obtain ⟨z1, z2, z3⟩ := H0.out.fin (.slice none 0 0) (.slice none 0 0) er ln
          have Z1 := Lib.hid z1
          have Z2 := Lib.hid z2
          have Z3 := Lib.hid z3
          have hx := HX.out
          subst hx
          clear z1 z2 z3 hHeld hc e0 e1 e2 e3 e4 e5 e6 e7 HRES
          go_wp2_with fail
          (try simp only [Exit.inBlock, Exit.then])
          refine bodyPost_ret (v := .tuple #[.agg #[.slice none 0 0, .slice none 0 0], .agg #[.int .i64 er, .int .i64 ln]]) (read_res rfl _ _ _ _ _ _ _ _ Z1.out Z2.out rfl rfl) rfl ⟨_, _, rfl, robD_nil _, Z3.out.drew⟩
      · skip
        have HK := Lib.hid hK
        clear hK
        have st0 : StAt (wr.alloc (.cells #[.int .i64 ln, .string wd, .slice Ar n cr] 43)) wr.heap.size ln wd (.slice Ar n cr) := heap_alloc_new _ _
        have HR1 := Lib.hid (HR.out.alloc (.cells #[.int .i64 ln, .string wd, .slice Ar n cr] 43))
        have HRA1 := Lib.hid (HRA.out.below ((Below.refl wr.heap.size wr).alloc (Nat.le_refl _) (.cells #[.int .i64 ln, .string wd, .slice Ar n cr] 43)) (Nat.le_refl _))
        have ST := Lib.hid st0
        clear st0
        go_upto_block 2 with fail
        obtain ⟨V, hV⟩ : ∃ V, wr.alloc (.cells #[.int .i64 ln, .string wd, .slice Ar n cr] 43) = V := ⟨_, rfl⟩
        rw [hV] at HR1 HRA1 ST ⊢
        have hVs : wr.heap.size < V.heap.size := by rw [← hV]; simp
        clear hV HR HRA a0 a1 a2
        obtain ⟨q, hq⟩ : ∃ q, wr.heap.size = q := ⟨_, rfl⟩
        rw [hq] at ST hq2 hVs ⊢
        clear hq
        have hV2 : w.heap.size + 1 + 1 < V.heap.size := by omega
        refine sw_mass w V q k n js ms qj qm kj cj km cm ln wd ar Ar cr i0 i1 HI HZ0 HZ1 HZ2 MI MZ0 MZ1 MZ2 (by omega) hcr HRW HN HPJ HSZ s0 s1 s2 HK HR1 HRA1 ST hq2 hVs hV2 _ _ _ _ _ _ _ _ _ _ _ _ _ _ _ _ _ _ _ _ _ _ _ _ _ _ _ _ _ _ _ _ _ _ _ _ _ _ _ _ _ _ _ _ _ _ _ _ _ _ _ _ _ _ _ _ _ _ _ _ _ _ _ _ _ _ _ _ _ _ _ _ _ _ _ _ _ _ _ _ _ _ _ _ _ _ _ _ _ _ _ _ _ _ _ _ _ _ _ _ _ _ _ _ _ _ _ _ _ _ _ _ _ _ _ _ _ _ _ _ _ _ _ _ _ _ _ _ _ _ _ _ _ _ _ _ _ _ _ _ _ _ _ _ _ _ _ _ _ _ _ _ _ _ _ _ _ _ _ _ _ _ _ _ _ _ _ _ _ _ _ _ _ _ _ _ _ _ _ _ _ _ ?_
        intro y7 y8 y9 y10 y11 y12 y13 y14 y15 y16 y17 y19 y20 y21 y22 y23 y24 y25 y26 y27 y28 y29 y30 y31 y32 y33 y34 y35 y36 y37 y38 y39 y40 y41 y42 y43 y44 y45 y46 y47 y48 y49 y50 y51 y52 y53 y54 y55 y56 y57 y58 y59 y60 y61 y62 y63 y64 y65 y66 y67 y68 y69 y70 y71 y72 y73 y74 y75 y76 y77 y78 y79 y80 y81 y82 y83 y84 y85 y86 y87 y88 y89 y90 y91 y92 y93 y94 y95 y96 y97 y98 y99 y100 y101 y102 y103 y104 y105 y106 y107 y108 y109 y110 y111 y112 y113 y114 y115 y116 y117 y118 y119 y120 y121 y122 y123 y124 y125 y126 y127 y128 y129 y130 y131 y132 y133 y134 y135 y136 y137 y138 y139 y140 y141 y142 y143 y144 y145 y146 y147 y148 y149 y150 y151 y152 y153 y154 y155 y156 y157 y158 y159 y160 y161 y162 y163 y164 y165 y166 y167 y168 y169 y170 y171 y172 y173 y174 wc hcut
        (try simp only [Exit.then])
        obtain ⟨er, rfl, h0, h1, hr0, hc⟩ := hcut
        clear HR1 HRA1 ST
        by_cases he : er = 0
        · obtain ⟨js2, ms2, vj2, vm2, hst, hrr⟩ := h0 he
          subst he
          have HX := Lib.hid hst
          have HY := Lib.hid hrr
          clear h0 h1 hr0 hc hst hrr
          go_wp2_with fail
          go_roundw
          case rel => exact ⟨k + 1, js2, ms2, vj2, vm2, by omega, by go_num, HY.out, HPJ.out.step (by omega) HX.out, (read_ok _ HX.out).symm.trans HRD.out⟩
          case measure => simp [intOf]; omega
        · have hrs := (read_err _ (h1 he)).symm.trans HRD.out
          have H0 := Lib.hid hr0
          have HX := Lib.hid hrs
          clear h0 h1 hrs hr0
          have hne : ((er : Int) == 0) = false := by rw [beq_eq_false_iff_ne]; exact he
          obtain ⟨U, hU⟩ : ∃ U, wc = U := ⟨_, rfl⟩
          rw [hU] at H0 hc ⊢
          clear hU he
          have HD := Lib.hid (show ∀ W : World, W.heap[q]? = U.heap[q]? → (fun w' : World => w'.cell? ⟨q, 0, none⟩ = some (.int .i64 ln)) W from fun W h => (World.cell?_of_block (w := U) h).trans hc)
          have e0 := H0.out.res.c0
          have e1 := H0.out.res.c1
          have e2 := H0.out.res.free 0
          have e3 := H0.out.res.free 1
          have e4 : U.cell? ⟨w.heap.size + 1, 0, none⟩ = some (.int .i64 0) := cell_of_row U _ 0 _ _ _ H0.out.err
          have e5 : U.cell? ⟨w.heap.size + 1, 1, none⟩ = some (.int .i64 0) := cell_of_row U _ 1 _ _ _ H0.out.err
          have e6 := frozen_of_row U _ 0 _ _ H0.out.err
          have e7 := frozen_of_row U _ 1 _ _ H0.out.err
          go_wp2_with fail
          refine wp_region_held_drew (S := (fun w' : World => w'.cell? ⟨q, 0, none⟩ = some (.int .i64 ln))) (by kernel_rfl) ?_ (fun hHeld => ?_)
          focus (refine HD.out _ ?_; (try rw [show ∀ W : World, W.drew.heap = W.heap from fun _ => rfl]); (repeat (with_reducible refine (heap_setCell_other _ _ _ _ (by dsimp only; omega)).trans ?_)); (try exact rfl))
          refine wpAnyH_take (i := 0) (v := ?_) rfl (by kernel_rfl) (by kernel_rfl) (by kernel_rfl) (fun _ _ _ h => h) (Or.inl ⟨by rfl, ?_⟩) (by assumption) ?_; rotate_left; (focus (intro w hSw; (try dsimp only at hSw); go_simp; try with_reducible rfl)); (try simp only [Act.put, List.getElem_toArray, List.getElem_cons_succ, List.getElem_cons_zero, List.setIfInBounds_toArray, List.set_cons_zero, List.set_cons_succ])
          refine wpAnyH_take (i := 1) (v := ?_) rfl (by kernel_rfl) (by kernel_rfl) (by kernel_rfl) (fun _ _ _ h => h) (Or.inl ⟨by rfl, ?_⟩) (by assumption) ?_; rotate_left; (focus (intro w hSw; (try dsimp only at hSw); go_simp; try with_reducible rfl)); (try simp only [Act.put, List.getElem_toArray, List.getElem_cons_succ, List.getElem_cons_zero, List.setIfInBounds_toArray, List.set_cons_zero, List.set_cons_succ])
          refine wpAnyH_take (i := 2) (v := ?_) rfl (by kernel_rfl) (by kernel_rfl) (by kernel_rfl) (fun _ _ _ h => h) (Or.inl ⟨by rfl, ?_⟩) (by assumption) ?_; rotate_left; (focus (intro w hSw; (try dsimp only at hSw); go_simp; try with_reducible rfl)); (try simp only [Act.put, List.getElem_toArray, List.getElem_cons_succ, List.getElem_cons_zero, List.setIfInBounds_toArray, List.set_cons_zero, List.set_cons_succ])
          refine wpAnyH_take (i := 3) (v := ?_) rfl (by kernel_rfl) (by kernel_rfl) (by kernel_rfl) (fun _ _ _ h => h) (Or.inl ⟨by rfl, ?_⟩) (by assumption) ?_; rotate_left; (focus (intro w hSw; (try dsimp only at hSw); go_simp; try with_reducible rfl)); (try simp only [Act.put, List.getElem_toArray, List.getElem_cons_succ, List.getElem_cons_zero, List.setIfInBounds_toArray, List.set_cons_zero, List.set_cons_succ])
          refine wpAnyH_take (i := 4) (v := ?_) rfl (by kernel_rfl) (by kernel_rfl) (by kernel_rfl) (fun _ _ _ h => h) (Or.inl ⟨by rfl, ?_⟩) (by assumption) ?_; rotate_left; (focus (intro w hSw; (try dsimp only at hSw); go_simp; try with_reducible rfl)); (try simp only [Act.put, List.getElem_toArray, List.getElem_cons_succ, List.getElem_cons_zero, List.setIfInBounds_toArray, List.set_cons_zero, List.set_cons_succ])
          refine wpAnyH_ready (rs := [5]) (by kernel_rfl) (by simp) (AllReadyH.cons rfl (fun K hK => ?_) AllReadyH.nil); go_simp; refine hK.out _ _ ?_ (fun hHeld => ?_); (focus (refine HD.out _ ?_; (try rw [show ∀ W : World, W.drew.heap = W.heap from fun _ => rfl]); (repeat (with_reducible refine (heap_setCell_other _ _ _ _ (by dsimp only; omega)).trans ?_)); (try exact rfl))); clear hK K; (try simp only [Act.put, List.getElem_toArray, List.getElem_cons_succ, List.getElem_cons_zero, List.setIfInBounds_toArray, List.set_cons_zero, List.set_cons_succ])
          refine wpAnyH_ready (rs := [6]) (by kernel_rfl) (by simp) (AllReadyH.cons rfl (fun K hK => ?_) AllReadyH.nil); go_simp; refine hK.out _ _ ?_ (fun hHeld => ?_); (focus (refine HD.out _ ?_; (try rw [show ∀ W : World, W.drew.heap = W.heap from fun _ => rfl]); (repeat (with_reducible refine (heap_setCell_other _ _ _ _ (by dsimp only; omega)).trans ?_)); (try exact rfl))); clear hK K; (try simp only [Act.put, List.getElem_toArray, List.getElem_cons_succ, List.getElem_cons_zero, List.setIfInBounds_toArray, List.set_cons_zero, List.set_cons_succ])
          refine wpAnyH_done (by kernel_rfl) ?_ _
          obtain ⟨z1, z2, z3⟩ := H0.out.fin (.slice none 0 0) (.slice none 0 0) er ln
          have Z1 := Lib.hid z1
          have Z2 := Lib.hid z2
          have Z3 := Lib.hid z3
          have hx := HX.out
          subst hx
          clear z1 z2 z3 hHeld hc e0 e1 e2 e3 e4 e5 e6 e7 HRES
          go_wp2_with fail
          (try simp only [Exit.inBlock, Exit.then])
          refine bodyPost_ret (v := .tuple #[.agg #[.slice none 0 0, .slice none 0 0], .agg #[.int .i64 er, .int .i64 ln]]) (read_res rfl _ _ _ _ _ _ _ _ Z1.out Z2.out rfl rfl) rfl ⟨_, _, rfl, robD_nil _, Z3.out.drew⟩
      · have HK := Lib.hid hK
        clear hK
        go_wp2_with fail
        go_roundw
        case rel => exact ⟨k + 1, js, ms, _, _, by omega, by go_num, HR.out.alloc _, ⟨Nat.le_succ_of_le HPJ.out.lj, Nat.le_succ_of_le HPJ.out.lm, HPJ.out.ij, HPJ.out.im⟩, (read_skip _ (by rw [HK.out]; decide)).symm.trans HRD.out⟩
        case measure => simp [intOf]; omega
      · have HK := Lib.hid hK
        clear hK
        go_wp2_with fail
        go_roundw
        case rel => exact ⟨k + 1, js, ms, _, _, by omega, by go_num, HR.out.alloc _, ⟨Nat.le_succ_of_le HPJ.out.lj, Nat.le_succ_of_le HPJ.out.lm, HPJ.out.ij, HPJ.out.im⟩, (read_skip _ (by rw [HK.out]; decide)).symm.trans HRD.out⟩
        case measure => simp [intOf]; omega
      · have HK := Lib.hid hK
        clear hK
        go_wp2_with fail
        go_roundw
        case rel => exact ⟨k + 1, js, ms, _, _, by omega, by go_num, HR.out.alloc _, ⟨Nat.le_succ_of_le HPJ.out.lj, Nat.le_succ_of_le HPJ.out.lm, HPJ.out.ij, HPJ.out.im⟩, (read_skip _ (by rw [HK.out]; decide)).symm.trans HRD.out⟩
        case measure => simp [intOf]; omega
    · have hke : k = l.length := by omega
      subst hke
      rw [List.drop_length, readR] at hread
      have HR := Lib.hid hR
      have HPJ := Lib.hid hp
      have HRD := Lib.hid hread
      have hl2 : l.length ≤ 8796093022208 := hl.2
      have d0 := hR.rob.c0
      have d1 := hR.rob.c1
      clear hR hp hread
      go_wp2_with fail
      refine (rCheckRobot_all js ms _ _ _ (HR.out.robD HPJ.out hl2)).mono ?_
      rintro e U ⟨rfl, hb1⟩
      have HR2 := Lib.hid (HR.out.next hb1)
      obtain ⟨er, her⟩ : ∃ er, checkR js ms = er := ⟨_, rfl⟩
      have HER := Lib.hid her
      rw [her]
      clear hb1 d0 d1 her HR
      have d0 := HR2.out.rob.c0
      have d1 := HR2.out.rob.c1
      have e0 := HR2.out.res.c0
      have e1 := HR2.out.res.c1
      have e2 := HR2.out.res.free 0
      have e3 := HR2.out.res.free 1
      have e4 : U.cell? ⟨w.heap.size + 1, 0, none⟩ = some (.int .i64 0) := cell_of_row U _ 0 _ _ _ HR2.out.err
      have e5 : U.cell? ⟨w.heap.size + 1, 1, none⟩ = some (.int .i64 0) := cell_of_row U _ 1 _ _ _ HR2.out.err
      have e6 := frozen_of_row U _ 0 _ _ HR2.out.err
      have e7 := frozen_of_row U _ 1 _ _ HR2.out.err
      by_cases he : er = 0
      · subst he
        have hx := (if_pos HER.out).symm.trans HRD.out
        obtain ⟨z1, z2, z3⟩ := HR2.out.r0.fin (.slice qj kj cj) (.slice qm km cm) 0 0
        have Z1 := Lib.hid z1
        have Z2 := Lib.hid z2
        have Z3 := Lib.hid z3
        clear z1 z2 z3
        subst hx
        clear HRES HRD
        go_wp2_with fail
        (try simp only [Exit.inBlock, Exit.then])
        refine bodyPost_ret (v := .tuple #[.agg #[(.slice qj kj cj), (.slice qm km cm)], .agg #[.int .i64 0, .int .i64 0]]) (read_res rfl _ _ _ _ _ _ _ _ Z1.out Z2.out rfl rfl) rfl ⟨_, _, rfl, HR2.out.fin HPJ.out hl2 _ _ _ _, Z3.out⟩
      · have hx := (if_neg (by rw [HER.out]; exact he)).symm.trans HRD.out
        have hne : ((er : Int) == 0) = false := by rw [beq_eq_false_iff_ne]; exact he
        clear he
        rw [HER.out] at hx
        obtain ⟨z1, z2, z3⟩ := HR2.out.r0.fin (.slice none 0 0) (.slice none 0 0) er 0
        have Z1 := Lib.hid z1
        have Z2 := Lib.hid z2
        have Z3 := Lib.hid z3
        clear z1 z2 z3
        subst hx
        clear HRES HRD
        go_wp2_with fail
        (try simp only [Exit.inBlock, Exit.then])
        refine bodyPost_ret (v := .tuple #[.agg #[(.slice none 0 0), (.slice none 0 0)], .agg #[.int .i64 er, .int .i64 0]]) (read_res rfl _ _ _ _ _ _ _ _ Z1.out Z2.out rfl rfl) rfl ⟨_, _, rfl, robD_nil _, Z3.out⟩
end Go.Proofs.YtpaiapcnoifpmaaDoor
