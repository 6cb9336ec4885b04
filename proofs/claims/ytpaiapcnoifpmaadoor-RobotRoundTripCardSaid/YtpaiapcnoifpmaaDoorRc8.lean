/- Proved: the developers' reading of a limit's and of a mass's words: they return the error, and where that is 0 the reader holds what stepR says. Conditions: as each theorem states. -/
import Derived.Test.YtpaiapcnoifpmaaDoorRc7
namespace Go.Proofs.YtpaiapcnoifpmaaDoor
open Go.RowKit

def limE (js : List JointD) (x0 x1 x2 x3 : ByteArray) : Int := if findK js x0 < 0 then 810 else if outB (intS (bts x1)) = false ∨ outB (intS (bts x2)) = false ∨ outB (intS (bts x3)) = false then 809 else 0
def limJ (js : List JointD) (x0 x1 x2 x3 : ByteArray) : List JointD := setL js (findK js x0).toNat (outI (intS (bts x1))) (outI (intS (bts x2))) (outI (intS (bts x3)))
def masE (js : List JointD) (x0 x1 x2 x3 x4 : ByteArray) : Int := if findK js x0 < 0 then 810 else if numOk [x1, x2, x3, x4] = false then 809 else 0
def masM (js : List JointD) (x0 x1 x2 x3 x4 : ByteArray) : MassD := ⟨findK js x0, outI (numS (bts x1)), outI (numS (bts x2)), outI (numS (bts x3)), outI (numS (bts x4))⟩
def LP (M : Nat) (js : List JointD) (ms : List MassD) (vj vm : Value) (x0 x1 x2 x3 : ByteArray) (w : World) : Ending → World → Prop := fun e V =>
  e = .returned (.int .i64 (limE js x0 x1 x2 x3)) ∧ KeptR M vj vm w V ∧ (limE js x0 x1 x2 x3 = 0 → ∃ v', RS M V (nameF (limJ js x0 x1 x2 x3)) (limJ js x0 x1 x2 x3) ms v' vm)
def MP (M : Nat) (js : List JointD) (ms : List MassD) (vj vm : Value) (x0 x1 x2 x3 x4 : ByteArray) (w : World) : Ending → World → Prop := fun e V =>
  e = .returned (.int .i64 (masE js x0 x1 x2 x3 x4)) ∧ KeptR M vj vm w V ∧ (masE js x0 x1 x2 x3 x4 = 0 → ∃ v', RS M V (nameF js) js (ms ++ [masM js x0 x1 x2 x3 x4]) vj v')
set_option linter.unusedSimpArgs false in
set_option linter.unusedVariables false in
set_option maxRecDepth 100000 in
set_option maxHeartbeats 12800000 in
theorem sLimit_any (M : Nat) (js : List JointD) (ms : List MassD) (vj vm : Value) (x0 x1 x2 x3 : ByteArray) (g o c : Nat) (w : World) (hT : KindT w) (hr : RS M w (nameF js) js ms vj vm) (hl : js.length ≤ 1000000000000) (hlm : ms.length ≤ 1000000000000) (hc : 4 ≤ c)
    (hu : RdT w (.slice (some ⟨g, o, none⟩) 4 c) [x0, x1, x2, x3]) (hs : ∀ s ∈ [x0, x1, x2, x3], s.size ≤ maxLen) :
    Calls Tryd.prog 77 #[ .pointer (some ⟨M + 1, 0, none⟩), .slice (some ⟨g, o, none⟩) 4 c ] w (LP M js ms vj vm x0 x1 x2 x3 w) := by
  have HS := Lib.hid hs
  have S0 := Lib.hid (RW.start hr hu hT)
  obtain ⟨qj, cj, rfl⟩ := own_sln hr.oj
  obtain ⟨qm, cm, rfl⟩ := own_sln hr.om
  unfold LP
  obtain ⟨E, hE⟩ : ∃ E, limE js x0 x1 x2 x3 = E := ⟨_, rfl⟩
  have HX : Hid (limE js x0 x1 x2 x3 = E) := Lib.hid hE
  rw [hE]
  have hMw := hr.lt
  have hgw := (hu.word_at 0 (by simp)).1
  have hm := hr.map
  have b2 := hr.c2
  have c0 : w.cell? ⟨g, o, none⟩ = some (.string x0) := (hu.word_at 0 (by simp)).2
  clear hE hr hu hs hT
  by_cases hf0 : findK js x0 < 0
  · have hlk : ∀ n, (Instr.lookup 96 (.map (some M)) (.string x0) true).run Tryd.prog (w.drewN n) = .ok (.tuple #[.int .i64 0, .bool false]) (w.drewN n) := fun n => map_miss sw_mapi sw_int0 (hm.drewN n) (nameF_miss hf0) true
    have hx := HX.out.symm.trans (by unfold limE; exact if_pos hf0)
    subst hx
    clear hm hf0
    go_enter Tryd.func77, Tryd.ntmps77
    go_wp2_with fail
    go_quiet (fail)
    go_wp2_with fail
    go_ret
    first | exact ⟨rfl, S0.out.kp.next (bl_drewN (Below.refl _ _))⟩ | exact ⟨rfl, S0.out.kp.next (bl_drewN (Below.refl _ _)), fun h => absurd h (by decide)⟩
  have hf1 := find_range js x0
  have hlk : ∀ n, (Instr.lookup 96 (.map (some M)) (.string x0) true).run Tryd.prog (w.drewN n) = .ok (.tuple #[.int .i64 (findK js x0), .bool true]) (w.drewN n) := fun n => map_hit sw_mapi (hm.drewN n) (nameF_hit hf0) true
  obtain ⟨kf, hkf⟩ : ∃ kf : Nat, findK js x0 = kf := ⟨(findK js x0).toNat, by omega⟩
  have HKF := Lib.hid hkf
  rw [hkf] at hlk hf1
  have hkl : kf < js.length := by omega
  have HX2 := Lib.hid (HX.out.symm.trans (by unfold limE; exact if_neg hf0))
  clear hm hf0 hkf HX
  go_enter Tryd.func77, Tryd.ntmps77
  go_wp2_with fail
  go_quiet (fail)
  have S1 := Lib.hid (S0.out.next (bl_drewN (Below.refl w.heap.size w) (n := nq)))
  obtain ⟨w3, hw3⟩ : ∃ w3, w.drewN nq = w3 := ⟨_, rfl⟩
  rw [hw3] at S1 ⊢
  clear hlk hw3 b2 c0 S0
  go_wp2_with fail
  refine (sValuesI_any _ [x1, x2, x3] _ (S1.out.rd.rest 1 3 (c - 1) (by simp) (by omega)) (fun s hs => HS.out s (by simp at hs ⊢; rcases hs with h | h | h <;> simp [h]))).mono ?_
  rintro e V (⟨hok, rfl, hb⟩ | ⟨hok, rfl, hrow, hb⟩)
  · have S2 := Lib.hid (S1.out.next hb)
    have hx := HX2.out.trans (if_pos (by
      simp only [List.all_cons, List.all_nil, Bool.and_true, Bool.and_eq_false_iff] at hok
      exact hok))
    subst hx
    clear hok hb
    go_wp2_with fail
    go_ret
    first | exact ⟨rfl, S2.out.kp⟩ | exact ⟨rfl, S2.out.kp, fun h => absurd h (by decide)⟩
  · have S2 := Lib.hid (S1.out.next hb)
    have hsV := hb.size
    have hMr := S1.out.rs.lt
    obtain ⟨r, hre⟩ : ∃ r, w3.heap.size = r := ⟨_, rfl⟩
    rw [hre] at hrow hsV hMr ⊢
    have hx := HX2.out.trans (if_neg (by
      simp only [List.all_cons, List.all_nil, Bool.and_true, Bool.and_eq_true] at hok
      rw [hok.1, hok.2.1, hok.2.2]; decide))
    subst hx
    obtain ⟨n0, hn0⟩ : ∃ x, outI (intS (bts x1)) = x := ⟨_, rfl⟩
    have e0 : V.cell? ⟨r, 0, none⟩ = some (.int .i64 n0) := by rw [← hn0]; exact hrow.cell (i := 0) (by simp)
    obtain ⟨n1, hn1⟩ : ∃ x, outI (intS (bts x2)) = x := ⟨_, rfl⟩
    have e1 : V.cell? ⟨r, 1, none⟩ = some (.int .i64 n1) := by rw [← hn1]; exact hrow.cell (i := 1) (by simp)
    obtain ⟨n2, hn2⟩ : ∃ x, outI (intS (bts x3)) = x := ⟨_, rfl⟩
    have e2 : V.cell? ⟨r, 2, none⟩ = some (.int .i64 n2) := by rw [← hn2]; exact hrow.cell (i := 2) (by simp)
    have hJS : limJ js x0 x1 x2 x3 = setL js kf n0 n1 n2 := by unfold limJ; rw [HKF.out, hn0, hn1, hn2]; rfl
    have HJS := Lib.hid hJS
    have hrb : ∃ cs, V.heap[r]? = some (.cells cs 2 (0, 0)) := by obtain ⟨cs, h1, _⟩ := hrow; exact ⟨cs, h1⟩
    obtain ⟨cs, hcs⟩ := hrb
    obtain ⟨gj, capj, hvj⟩ := own_form S2.out.rs.oj (by omega)
    obtain ⟨rfl, rfl⟩ : qj = some ⟨gj, 0, none⟩ ∧ capj = cj := by injection hvj with h1 h2 h3; exact ⟨h1, h3.symm⟩
    have hgj : M + 2 ≤ gj := (S2.out.rs.oj.lt gj rfl).1
    have hgr : r ≠ gj := fun e => own_ne S2.out.rs.oj hcs (by decide) (by rw [e]; rfl)
    have d0 := S2.out.rs.c0
    clear hn0 hn1 hn2 hrow hok hb hre hJS HX2 hvj
    go_wp2_with fail
    clear d0
    have SR := Lib.hid (show RS M V.drew (nameF js) js ms (.slice (some ⟨gj, 0, none⟩) js.length capj) (.slice qm ms.length cm) from S2.out.rs.drew)
    have KR := Lib.hid (show KeptR M (.slice (some ⟨gj, 0, none⟩) js.length capj) (.slice qm ms.length cm) w V.drew from S2.out.kp.next ((Below.refl _ _).drew))
    obtain ⟨_, _, eA, _, hjat⟩ := (own_rdO SR.out.oj).joint
    injection eA with eA _ eC
    subst eA eC
    obtain ⟨_, _, eB, _, _, _, _, _, _, _, _, _, _, k9, k10, k11⟩ := hjat kf hkl
    injection eB with eB
    injection eB with eB1 eB2 _
    subst eB1 eB2
    rw [Nat.zero_add] at k9 k10 k11
    have f9 := SR.out.oj.frozenAt (kf * 12 + 9)
    have f10 := SR.out.oj.frozenAt (kf * 12 + 10)
    have f11 := SR.out.oj.frozenAt (kf * 12 + 11)
    have HRS := Lib.hid (SR.out.set kf hkl n0 n1 n2)
    have KP := Lib.hid (((KR.out.setJ (kf * 12 + 9) (.int .i64 n0)).setJ (kf * 12 + 10) (.int .i64 n1)).setJ (kf * 12 + 11) (.int .i64 n2))
    have hcd : V.drew.heap[r]? = some (.cells cs 2 (0, 0)) := hcs
    have far : ∀ (W : World) (i : Nat) (u : Value), W.heap[r]? = some (.cells cs 2 (0, 0)) → (W.setCell ⟨gj, i, none⟩ u).heap[r]? = some (.cells cs 2 (0, 0)) := fun W i u h => (heap_setCell_other _ _ _ _ (by dsimp only; exact hgr)).trans h
    have H1 := Lib.hid (show (V.setCell ⟨gj, kf * 12 + 9, none⟩ (.int .i64 n0)).drew.heap[r]? = some (.cells cs 2 (0, 0)) from far V (kf * 12 + 9) (.int .i64 n0) hcs)
    have H2 := Lib.hid (show ((V.setCell ⟨gj, kf * 12 + 9, none⟩ (.int .i64 n0)).setCell ⟨gj, kf * 12 + 10, none⟩ (.int .i64 n1)).drew.heap[r]? = some (.cells cs 2 (0, 0)) from far _ (kf * 12 + 10) (.int .i64 n1) H1.out)
    have H3 := Lib.hid (show (((V.setCell ⟨gj, kf * 12 + 9, none⟩ (.int .i64 n0)).setCell ⟨gj, kf * 12 + 10, none⟩ (.int .i64 n1)).setCell ⟨gj, kf * 12 + 11, none⟩ (.int .i64 n2)).drew.heap[r]? = some (.cells cs 2 (0, 0)) from far _ (kf * 12 + 11) (.int .i64 n2) H2.out)
    obtain ⟨o1, _⟩ := S2.out.rs.oj.stored (kf * 12 + 9) (.int .i64 n0)
    obtain ⟨o2, _⟩ := o1.stored (kf * 12 + 10) (.int .i64 n1)
    obtain ⟨y10, k10'⟩ := cell?_setCell_some (p := ⟨gj, kf * 12 + 9, none⟩) (x := .int .i64 n0) (show V.cell? ⟨gj, kf * 12 + 10, none⟩ = _ from k10)
    obtain ⟨y11, k11'⟩ := cell?_setCell_some (p := ⟨gj, kf * 12 + 9, none⟩) (x := .int .i64 n0) (show V.cell? ⟨gj, kf * 12 + 11, none⟩ = _ from k11)
    obtain ⟨z11, k11''⟩ := cell?_setCell_some (p := ⟨gj, kf * 12 + 10, none⟩) (x := .int .i64 n1) k11'
    have f10' := o1.frozenAt (kf * 12 + 10)
    have f11' := o2.frozenAt (kf * 12 + 11)
    clear o1 o2 k10 k11 k11' f10 f11
    replace HRS := Lib.hid (show RS M (((V.setCell ⟨gj, kf * 12 + 9, none⟩ (.int .i64 n0)).setCell ⟨gj, kf * 12 + 10, none⟩ (.int .i64 n1)).setCell ⟨gj, kf * 12 + 11, none⟩ (.int .i64 n2)).drew _ _ _ _ _ from (S2.out.rs.set kf hkl n0 n1 n2).drew)
    replace KP := Lib.hid (show KeptR M _ _ w (((V.setCell ⟨gj, kf * 12 + 9, none⟩ (.int .i64 n0)).setCell ⟨gj, kf * 12 + 10, none⟩ (.int .i64 n1)).setCell ⟨gj, kf * 12 + 11, none⟩ (.int .i64 n2)).drew from (((S2.out.kp.setJ (kf * 12 + 9) (.int .i64 n0)).setJ (kf * 12 + 10) (.int .i64 n1)).setJ (kf * 12 + 11) (.int .i64 n2)).next ((Below.refl _ _).drew))
    have HSJ : Hid (∀ W : World, W.heap[r]? = some (.cells cs 2 (0, 0)) → (fun w1 => w1.cell? ⟨r, 0, none⟩ = some (.int .i64 n0) ∧ w1.cell? ⟨r, 1, none⟩ = some (.int .i64 n1) ∧ w1.cell? ⟨r, 2, none⟩ = some (.int .i64 n2) ∧ w1.heap[r]? = some (.cells cs 2 (0, 0))) W) := Lib.hid (fun W h => ⟨(World.cell?_of_block (w := V) (h.trans hcs.symm)).trans e0, (World.cell?_of_block (w := V) (h.trans hcs.symm)).trans e1, (World.cell?_of_block (w := V) (h.trans hcs.symm)).trans e2, h⟩)
    clear hjat e0 e1 e2 hcs far S2
    refine wp_region_noPanic ?_
    refine wp_region_held_drew (S := (fun w1 => w1.cell? ⟨r, 0, none⟩ = some (.int .i64 n0) ∧ w1.cell? ⟨r, 1, none⟩ = some (.int .i64 n1) ∧ w1.cell? ⟨r, 2, none⟩ = some (.int .i64 n2) ∧ w1.heap[r]? = some (.cells cs 2 (0, 0)))) (by kernel_rfl) ?_ (fun hHeld => ?_)
    focus (with_reducible first | exact hHeld | exact HSJ.out _ hcd | exact HSJ.out _ H1.out | exact HSJ.out _ H2.out | exact HSJ.out _ H3.out)
    refine wpAnyH_take (i := 0) (v := ?_) rfl (by kernel_rfl) (by kernel_rfl) (by kernel_rfl) (fun _ _ _ h => h) (Or.inl ⟨by rfl, ?_⟩) (by assumption) ?_; rotate_left; (focus (intro w hSw; (try dsimp only at hSw); go_simp; try with_reducible rfl)); (try simp only [Act.put, List.getElem_toArray, List.getElem_cons_succ, List.getElem_cons_zero, List.setIfInBounds_toArray, List.set_cons_zero, List.set_cons_succ])
    refine wpAnyH_take (i := 1) (v := ?_) rfl (by kernel_rfl) (by kernel_rfl) (by kernel_rfl) (fun _ _ _ h => h) (Or.inl ⟨by rfl, ?_⟩) (by assumption) ?_; rotate_left; (focus (intro w hSw; (try dsimp only at hSw); go_simp; try with_reducible rfl)); (try simp only [Act.put, List.getElem_toArray, List.getElem_cons_succ, List.getElem_cons_zero, List.setIfInBounds_toArray, List.set_cons_zero, List.set_cons_succ])
    refine wpAnyH_take (i := 2) (v := ?_) rfl (by kernel_rfl) (by kernel_rfl) (by kernel_rfl) (fun _ _ _ h => h) (Or.inl ⟨by rfl, ?_⟩) (by assumption) ?_; rotate_left; (focus (intro w hSw; (try dsimp only at hSw); go_simp; try with_reducible rfl)); (try simp only [Act.put, List.getElem_toArray, List.getElem_cons_succ, List.getElem_cons_zero, List.setIfInBounds_toArray, List.set_cons_zero, List.set_cons_succ])
    refine wpAnyH_take (i := 3) (v := ?_) rfl (by kernel_rfl) (by kernel_rfl) (by kernel_rfl) (fun _ _ _ h => h) (Or.inl ⟨by rfl, ?_⟩) (by assumption) ?_; rotate_left; (focus (intro w hSw; (try dsimp only at hSw); go_simp; try with_reducible rfl)); (try simp only [Act.put, List.getElem_toArray, List.getElem_cons_succ, List.getElem_cons_zero, List.setIfInBounds_toArray, List.set_cons_zero, List.set_cons_succ])
    refine wpAnyH_take (i := 4) (v := ?_) rfl (by kernel_rfl) (by kernel_rfl) (by kernel_rfl) (fun _ _ _ h => h) (Or.inl ⟨by rfl, ?_⟩) (by assumption) ?_; rotate_left; (focus (intro w hSw; (try dsimp only at hSw); go_simp; try with_reducible rfl)); (try simp only [Act.put, List.getElem_toArray, List.getElem_cons_succ, List.getElem_cons_zero, List.setIfInBounds_toArray, List.set_cons_zero, List.set_cons_succ])
    refine wpAnyH_take (i := 5) (v := ?_) rfl (by kernel_rfl) (by kernel_rfl) (by kernel_rfl) (fun _ _ _ h => h) (Or.inl ⟨by rfl, ?_⟩) (by assumption) ?_; rotate_left; (focus (intro w hSw; (try dsimp only at hSw); go_simp; try with_reducible rfl)); (try simp only [Act.put, List.getElem_toArray, List.getElem_cons_succ, List.getElem_cons_zero, List.setIfInBounds_toArray, List.set_cons_zero, List.set_cons_succ])
    refine wpAnyH_take (i := 6) (v := ?_) rfl (by kernel_rfl) (by kernel_rfl) (by kernel_rfl) (fun _ _ _ h => h) (Or.inl ⟨by rfl, ?_⟩) (by assumption) ?_; rotate_left; (focus (intro w hSw; (try dsimp only at hSw); go_simp; try with_reducible rfl)); (try simp only [Act.put, List.getElem_toArray, List.getElem_cons_succ, List.getElem_cons_zero, List.setIfInBounds_toArray, List.set_cons_zero, List.set_cons_succ])
    refine wpAnyH_take (i := 7) (v := ?_) rfl (by kernel_rfl) (by kernel_rfl) (by kernel_rfl) (fun _ _ _ h => h) (Or.inl ⟨by rfl, ?_⟩) (by assumption) ?_; rotate_left; (focus (intro w hSw; (try dsimp only at hSw); go_simp; try with_reducible rfl)); (try simp only [Act.put, List.getElem_toArray, List.getElem_cons_succ, List.getElem_cons_zero, List.setIfInBounds_toArray, List.set_cons_zero, List.set_cons_succ])
    refine wpAnyH_take (i := 8) (v := ?_) rfl (by kernel_rfl) (by kernel_rfl) (by kernel_rfl) (fun _ _ _ h => h) (Or.inl ⟨by rfl, ?_⟩) (by assumption) ?_; rotate_left; (focus (intro w hSw; (try dsimp only at hSw); go_simp; try with_reducible rfl)); (try simp only [Act.put, List.getElem_toArray, List.getElem_cons_succ, List.getElem_cons_zero, List.setIfInBounds_toArray, List.set_cons_zero, List.set_cons_succ])
    refine wpAnyH_take (i := 9) (v := ?_) rfl (by kernel_rfl) (by kernel_rfl) (by kernel_rfl) (fun _ _ _ h => h) (Or.inl ⟨by rfl, ?_⟩) (by assumption) ?_; rotate_left; (focus (intro w hSw; (try dsimp only at hSw); go_simp; try with_reducible rfl)); (try simp only [Act.put, List.getElem_toArray, List.getElem_cons_succ, List.getElem_cons_zero, List.setIfInBounds_toArray, List.set_cons_zero, List.set_cons_succ])
    refine wpAnyH_take (i := 10) (v := ?_) rfl (by kernel_rfl) (by kernel_rfl) (by kernel_rfl) (fun _ _ _ h => h) (Or.inl ⟨by rfl, ?_⟩) (by assumption) ?_; rotate_left; (focus (intro w hSw; (try dsimp only at hSw); go_simp; try with_reducible rfl)); (try simp only [Act.put, List.getElem_toArray, List.getElem_cons_succ, List.getElem_cons_zero, List.setIfInBounds_toArray, List.set_cons_zero, List.set_cons_succ])
    refine wpAnyH_take (i := 11) (v := ?_) rfl (by kernel_rfl) (by kernel_rfl) (by kernel_rfl) (fun _ _ _ h => h) (Or.inl ⟨by rfl, ?_⟩) (by assumption) ?_; rotate_left; (focus (intro w hSw; (try dsimp only at hSw); go_simp; try with_reducible rfl)); (try simp only [Act.put, List.getElem_toArray, List.getElem_cons_succ, List.getElem_cons_zero, List.setIfInBounds_toArray, List.set_cons_zero, List.set_cons_succ])
    refine wpAnyH_take (i := 12) (v := ?_) rfl (by kernel_rfl) (by kernel_rfl) (by kernel_rfl) (fun _ _ _ h => h) (Or.inl ⟨by rfl, ?_⟩) (by assumption) ?_; rotate_left; (focus (intro w hSw; (try dsimp only at hSw); go_simp; try with_reducible rfl)); (try simp only [Act.put, List.getElem_toArray, List.getElem_cons_succ, List.getElem_cons_zero, List.setIfInBounds_toArray, List.set_cons_zero, List.set_cons_succ])
    refine wpAnyH_take (i := 13) (v := ?_) rfl (by kernel_rfl) (by kernel_rfl) (by kernel_rfl) (fun _ _ _ h => h) (Or.inl ⟨by rfl, ?_⟩) (by assumption) ?_; rotate_left; (focus (intro w hSw; (try dsimp only at hSw); go_simp; try with_reducible rfl)); (try simp only [Act.put, List.getElem_toArray, List.getElem_cons_succ, List.getElem_cons_zero, List.setIfInBounds_toArray, List.set_cons_zero, List.set_cons_succ])
    refine wpAnyH_ready (rs := [14]) (by kernel_rfl) (by simp) (AllReadyH.cons rfl (fun K hK => ?_) AllReadyH.nil); go_simp; refine hK.out _ _ ?_ (fun hHeld => ?_); (focus (with_reducible first | exact hHeld | exact HSJ.out _ hcd | exact HSJ.out _ H1.out | exact HSJ.out _ H2.out | exact HSJ.out _ H3.out)); clear hK K; (try simp only [Act.put, List.getElem_toArray, List.getElem_cons_succ, List.getElem_cons_zero, List.setIfInBounds_toArray, List.set_cons_zero, List.set_cons_succ])
    refine wpAnyH_take (i := 15) (v := ?_) rfl (by kernel_rfl) (by kernel_rfl) (by kernel_rfl) (fun _ _ _ h => h) (Or.inl ⟨by rfl, ?_⟩) (by assumption) ?_; rotate_left; (focus (intro w hSw; (try dsimp only at hSw); go_simp; try with_reducible rfl)); (try simp only [Act.put, List.getElem_toArray, List.getElem_cons_succ, List.getElem_cons_zero, List.setIfInBounds_toArray, List.set_cons_zero, List.set_cons_succ])
    refine wpAnyH_take (i := 16) (v := ?_) rfl (by kernel_rfl) (by kernel_rfl) (by kernel_rfl) (fun _ _ _ h => h) (Or.inl ⟨by rfl, ?_⟩) (by assumption) ?_; rotate_left; (focus (intro w hSw; (try dsimp only at hSw); go_simp; try with_reducible rfl)); (try simp only [Act.put, List.getElem_toArray, List.getElem_cons_succ, List.getElem_cons_zero, List.setIfInBounds_toArray, List.set_cons_zero, List.set_cons_succ])
    refine wpAnyH_ready (rs := [17]) (by kernel_rfl) (by simp) (AllReadyH.cons rfl (fun K hK => ?_) AllReadyH.nil); go_simp; refine hK.out _ _ ?_ (fun hHeld => ?_); (focus (with_reducible first | exact hHeld | exact HSJ.out _ hcd | exact HSJ.out _ H1.out | exact HSJ.out _ H2.out | exact HSJ.out _ H3.out)); clear hK K; (try simp only [Act.put, List.getElem_toArray, List.getElem_cons_succ, List.getElem_cons_zero, List.setIfInBounds_toArray, List.set_cons_zero, List.set_cons_succ])
    refine wpAnyH_take (i := 18) (v := ?_) rfl (by kernel_rfl) (by kernel_rfl) (by kernel_rfl) (fun _ _ _ h => h) (Or.inl ⟨by rfl, ?_⟩) (by assumption) ?_; rotate_left; (focus (intro w hSw; (try dsimp only at hSw); go_simp; try with_reducible rfl)); (try simp only [Act.put, List.getElem_toArray, List.getElem_cons_succ, List.getElem_cons_zero, List.setIfInBounds_toArray, List.set_cons_zero, List.set_cons_succ])
    refine wpAnyH_take (i := 19) (v := ?_) rfl (by kernel_rfl) (by kernel_rfl) (by kernel_rfl) (fun _ _ _ h => h) (Or.inl ⟨by rfl, ?_⟩) (by assumption) ?_; rotate_left; (focus (intro w hSw; (try dsimp only at hSw); go_simp; try with_reducible rfl)); (try simp only [Act.put, List.getElem_toArray, List.getElem_cons_succ, List.getElem_cons_zero, List.setIfInBounds_toArray, List.set_cons_zero, List.set_cons_succ])
    refine wpAnyH_ready (rs := [20]) (by kernel_rfl) (by simp) (AllReadyH.cons rfl (fun K hK => ?_) AllReadyH.nil); go_simp; refine hK.out _ _ ?_ (fun hHeld => ?_); (focus (with_reducible first | exact hHeld | exact HSJ.out _ hcd | exact HSJ.out _ H1.out | exact HSJ.out _ H2.out | exact HSJ.out _ H3.out)); clear hK K; (try simp only [Act.put, List.getElem_toArray, List.getElem_cons_succ, List.getElem_cons_zero, List.setIfInBounds_toArray, List.set_cons_zero, List.set_cons_succ])
    refine wpAnyH_done (by kernel_rfl) ?_ _
    refine NoPanic.normal ?_
    go_wp2_with fail
    go_ret
    exact ⟨rfl, KP.out, _, by have h := HRS.out.as (nameF_set js kf n0 n1 n2); rw [← HJS.out] at h; exact h⟩
set_option linter.unusedSimpArgs false in
set_option linter.unusedVariables false in
set_option maxRecDepth 100000 in
set_option maxHeartbeats 12800000 in
theorem sMass_any (M : Nat) (js : List JointD) (ms : List MassD) (vj vm : Value) (x0 x1 x2 x3 x4 : ByteArray) (g o c : Nat) (w : World) (hT : KindT w) (hr : RS M w (nameF js) js ms vj vm) (hl : js.length ≤ 1000000000000) (hlm : ms.length ≤ 1000000000000) (hc : 5 ≤ c)
    (hu : RdT w (.slice (some ⟨g, o, none⟩) 5 c) [x0, x1, x2, x3, x4]) (hs : ∀ s ∈ [x0, x1, x2, x3, x4], s.size ≤ maxLen) :
    Calls Tryd.prog 78 #[ .pointer (some ⟨M + 1, 0, none⟩), .slice (some ⟨g, o, none⟩) 5 c ] w (MP M js ms vj vm x0 x1 x2 x3 x4 w) := by
  have HS := Lib.hid hs
  have S0 := Lib.hid (RW.start hr hu hT)
  obtain ⟨qj, cj, rfl⟩ := own_sln hr.oj
  obtain ⟨qm, cm, rfl⟩ := own_sln hr.om
  unfold MP
  obtain ⟨E, hE⟩ : ∃ E, masE js x0 x1 x2 x3 x4 = E := ⟨_, rfl⟩
  have HX : Hid (masE js x0 x1 x2 x3 x4 = E) := Lib.hid hE
  rw [hE]
  have hMw := hr.lt
  have hgw := (hu.word_at 0 (by simp)).1
  have hm := hr.map
  have b2 := hr.c2
  have c0 : w.cell? ⟨g, o, none⟩ = some (.string x0) := (hu.word_at 0 (by simp)).2
  clear hE hr hu hs hT
  by_cases hf0 : findK js x0 < 0
  · have hlk : ∀ n, (Instr.lookup 96 (.map (some M)) (.string x0) true).run Tryd.prog (w.drewN n) = .ok (.tuple #[.int .i64 0, .bool false]) (w.drewN n) := fun n => map_miss sw_mapi sw_int0 (hm.drewN n) (nameF_miss hf0) true
    have hx := HX.out.symm.trans (by unfold masE; exact if_pos hf0)
    subst hx
    clear hm hf0
    go_enter Tryd.func78, Tryd.ntmps78
    go_wp2_with fail
    go_quiet (fail)
    go_wp2_with fail
    go_ret
    first | exact ⟨rfl, S0.out.kp.next (bl_drewN (Below.refl _ _))⟩ | exact ⟨rfl, S0.out.kp.next (bl_drewN (Below.refl _ _)), fun h => absurd h (by decide)⟩
  have hf1 := find_range js x0
  have hlk : ∀ n, (Instr.lookup 96 (.map (some M)) (.string x0) true).run Tryd.prog (w.drewN n) = .ok (.tuple #[.int .i64 (findK js x0), .bool true]) (w.drewN n) := fun n => map_hit sw_mapi (hm.drewN n) (nameF_hit hf0) true
  obtain ⟨kf, hkf⟩ : ∃ kf : Nat, findK js x0 = kf := ⟨(findK js x0).toNat, by omega⟩
  have HKF := Lib.hid hkf
  rw [hkf] at hlk hf1
  have hkl : kf < js.length := by omega
  have HX2 := Lib.hid (HX.out.symm.trans (by unfold masE; exact if_neg hf0))
  clear hm hf0 hkf HX
  go_enter Tryd.func78, Tryd.ntmps78
  go_wp2_with fail
  go_quiet (fail)
  have S1 := Lib.hid (S0.out.next (bl_drewN (Below.refl w.heap.size w) (n := nq)))
  obtain ⟨w3, hw3⟩ : ∃ w3, w.drewN nq = w3 := ⟨_, rfl⟩
  rw [hw3] at S1 ⊢
  clear hlk hw3 b2 c0 S0
  go_wp2_with fail
  refine (sValuesN_any _ [x1, x2, x3, x4] _ (S1.out.rd.rest 1 4 (c - 1) (by simp) (by omega)) (fun s hs => HS.out s (by simp at hs ⊢; rcases hs with h | h | h | h <;> simp [h]))).mono ?_
  rintro e V (⟨hok, rfl, hb⟩ | ⟨hok, rfl, hrow, hb⟩)
  · have S2 := Lib.hid (S1.out.next hb)
    have hx := HX2.out.trans (if_pos hok)
    subst hx
    clear hok hb
    go_wp2_with fail
    go_ret
    first | exact ⟨rfl, S2.out.kp⟩ | exact ⟨rfl, S2.out.kp, fun h => absurd h (by decide)⟩
  · have S2 := Lib.hid (S1.out.next hb)
    have hsV := hb.size
    have hMr := S1.out.rs.lt
    obtain ⟨r, hre⟩ : ∃ r, w3.heap.size = r := ⟨_, rfl⟩
    rw [hre] at hrow hsV hMr ⊢
    have hx := HX2.out.trans (if_neg (by rw [show numOk [x1, x2, x3, x4] = true from hok]; decide))
    subst hx
    obtain ⟨n0, hn0⟩ : ∃ x, outI (numS (bts x1)) = x := ⟨_, rfl⟩
    have e0 : V.cell? ⟨r, 0, none⟩ = some (.int .i64 n0) := by rw [← hn0]; exact hrow.cell (i := 0) (by simp)
    obtain ⟨n1, hn1⟩ : ∃ x, outI (numS (bts x2)) = x := ⟨_, rfl⟩
    have e1 : V.cell? ⟨r, 1, none⟩ = some (.int .i64 n1) := by rw [← hn1]; exact hrow.cell (i := 1) (by simp)
    obtain ⟨n2, hn2⟩ : ∃ x, outI (numS (bts x3)) = x := ⟨_, rfl⟩
    have e2 : V.cell? ⟨r, 2, none⟩ = some (.int .i64 n2) := by rw [← hn2]; exact hrow.cell (i := 2) (by simp)
    obtain ⟨n3, hn3⟩ : ∃ x, outI (numS (bts x4)) = x := ⟨_, rfl⟩
    have e3 : V.cell? ⟨r, 3, none⟩ = some (.int .i64 n3) := by rw [← hn3]; exact hrow.cell (i := 3) (by simp)
    have hMS : masM js x0 x1 x2 x3 x4 = (⟨((kf : Nat) : Int), n0, n1, n2, n3⟩ : MassD) := by unfold masM; rw [HKF.out, hn0, hn1, hn2, hn3]
    have HMS := Lib.hid hMS
    have hrb : ∃ cs, V.heap[r]? = some (.cells cs 2 (0, 0)) := by obtain ⟨cs, h1, _⟩ := hrow; exact ⟨cs, h1⟩
    obtain ⟨cs, hcs⟩ := hrb
    obtain ⟨i1, hi, hz0, hz1, hz2⟩ := info_parts info_mass
    have MI := Lib.hid hi
    have MZ0 := Lib.hid hz0
    have MZ1 := Lib.hid hz1
    have MZ2 := Lib.hid hz2
    have d1 := S2.out.rs.c1
    have hXs := S2.out.rs.lt
    have hcd : V.drew.heap[r]? = some (.cells cs 2 (0, 0)) := hcs
    have hav := arr_vec (some ⟨r, 1, none⟩) 3
    have HC6 := Lib.hid (show (V.alloc (.cells #[.int .i64 (kf : Int), .int .i64 n0, .int .i64 n1, .int .i64 n2, .int .i64 n3] 74)).drew.heap[r]? = some (.cells cs 2 (0, 0)) from (Below.heap_alloc _ _ _ (lt_of_block hcs)).trans hcs)
    have HSJ : Hid (∀ W : World, W.heap[r]? = some (.cells cs 2 (0, 0)) → (fun w1 => w1.cell? ⟨r, 0, none⟩ = some (.int .i64 n0) ∧ w1.cell? ⟨r, 1, none⟩ = some (.int .i64 n1) ∧ w1.cell? ⟨r, 2, none⟩ = some (.int .i64 n2) ∧ w1.cell? ⟨r, 3, none⟩ = some (.int .i64 n3) ∧ w1.heap[r]? = some (.cells cs 2 (0, 0))) W) := Lib.hid (fun W h => ⟨(World.cell?_of_block (w := V) (h.trans hcs.symm)).trans e0, (World.cell?_of_block (w := V) (h.trans hcs.symm)).trans e1, (World.cell?_of_block (w := V) (h.trans hcs.symm)).trans e2, (World.cell?_of_block (w := V) (h.trans hcs.symm)).trans e3, h⟩)
    clear hn0 hn1 hn2 hn3 hrow hok hb hre hMS HX2 e0 e1 e2 e3 hcs hi hz0 hz1 hz2
    go_wp2_with fail
    refine wp_region_noPanic ?_
    refine wp_region_held_drew (S := (fun w1 => w1.cell? ⟨r, 0, none⟩ = some (.int .i64 n0) ∧ w1.cell? ⟨r, 1, none⟩ = some (.int .i64 n1) ∧ w1.cell? ⟨r, 2, none⟩ = some (.int .i64 n2) ∧ w1.cell? ⟨r, 3, none⟩ = some (.int .i64 n3) ∧ w1.heap[r]? = some (.cells cs 2 (0, 0)))) (by kernel_rfl) ?_ (fun hHeld => ?_)
    focus (with_reducible first | exact hHeld | exact HSJ.out _ hcd | exact HSJ.out _ HC6.out | exact HSJ.out _ HC7.out | exact HSJ.out _ HC8.out)
    refine wpAnyH_take (i := 0) (v := ?_) rfl (by kernel_rfl) (by kernel_rfl) (by kernel_rfl) (fun _ _ _ h => h) (Or.inl ⟨by rfl, ?_⟩) (by assumption) ?_; rotate_left; (focus (intro w hSw; (try dsimp only at hSw); go_simp; try with_reducible rfl)); (try simp only [Act.put, List.getElem_toArray, List.getElem_cons_succ, List.getElem_cons_zero, List.setIfInBounds_toArray, List.set_cons_zero, List.set_cons_succ])
    refine wpAnyH_take (i := 1) (v := ?_) rfl (by kernel_rfl) (by kernel_rfl) (by kernel_rfl) (fun _ _ _ h => h) (Or.inl ⟨by rfl, ?_⟩) (by assumption) ?_; rotate_left; (focus (intro w hSw; (try dsimp only at hSw); go_simp; try with_reducible rfl)); (try simp only [Act.put, List.getElem_toArray, List.getElem_cons_succ, List.getElem_cons_zero, List.setIfInBounds_toArray, List.set_cons_zero, List.set_cons_succ])
    refine wpAnyH_take (i := 2) (v := ?_) rfl (by kernel_rfl) (by kernel_rfl) (by kernel_rfl) (fun _ _ _ h => h) (Or.inl ⟨by rfl, ?_⟩) (by assumption) ?_; rotate_left; (focus (intro w hSw; (try dsimp only at hSw); go_simp; try with_reducible rfl)); (try simp only [Act.put, List.getElem_toArray, List.getElem_cons_succ, List.getElem_cons_zero, List.setIfInBounds_toArray, List.set_cons_zero, List.set_cons_succ])
    refine wpAnyH_take (i := 3) (v := ?_) rfl (by kernel_rfl) (by kernel_rfl) (by kernel_rfl) (fun _ _ _ h => h) (Or.inl ⟨by rfl, ?_⟩) (by assumption) ?_; rotate_left; (focus (intro w hSw; (try dsimp only at hSw); go_simp; try with_reducible rfl)); (try simp only [Act.put, List.getElem_toArray, List.getElem_cons_succ, List.getElem_cons_zero, List.setIfInBounds_toArray, List.set_cons_zero, List.set_cons_succ])
    refine wpAnyH_take (i := 4) (v := ?_) rfl (by kernel_rfl) (by kernel_rfl) (by kernel_rfl) (fun _ _ _ h => h) (Or.inl ⟨by rfl, ?_⟩) (by assumption) ?_; rotate_left; (focus (intro w hSw; (try dsimp only at hSw); go_simp; try with_reducible rfl)); (try simp only [Act.put, List.getElem_toArray, List.getElem_cons_succ, List.getElem_cons_zero, List.setIfInBounds_toArray, List.set_cons_zero, List.set_cons_succ])
    refine wpAnyH_take (i := 6) (v := ?_) rfl (by kernel_rfl) (by kernel_rfl) (by kernel_rfl) (fun _ _ _ h => h) (Or.inl ⟨by rfl, ?_⟩) (by assumption) ?_; rotate_left; (focus (intro w hSw; (try dsimp only at hSw); go_simp; try with_reducible rfl)); (try simp only [Act.put, List.getElem_toArray, List.getElem_cons_succ, List.getElem_cons_zero, List.setIfInBounds_toArray, List.set_cons_zero, List.set_cons_succ])
    refine wpAnyH_take (i := 7) (v := ?_) rfl (by kernel_rfl) (by kernel_rfl) (by kernel_rfl) (fun _ _ _ h => h) (Or.inl ⟨by rfl, ?_⟩) (by assumption) ?_; rotate_left; (focus (intro w hSw; (try dsimp only at hSw); go_simp; try with_reducible rfl)); (try simp only [Act.put, List.getElem_toArray, List.getElem_cons_succ, List.getElem_cons_zero, List.setIfInBounds_toArray, List.set_cons_zero, List.set_cons_succ])
    refine wpAnyH_take (i := 8) (v := ?_) rfl (by kernel_rfl) (by kernel_rfl) (by kernel_rfl) (fun _ _ _ h => h) (Or.inl ⟨by rfl, ?_⟩) (by assumption) ?_; rotate_left; (focus (intro w hSw; (try dsimp only at hSw); go_simp; try with_reducible rfl)); (try simp only [Act.put, List.getElem_toArray, List.getElem_cons_succ, List.getElem_cons_zero, List.setIfInBounds_toArray, List.set_cons_zero, List.set_cons_succ])
    refine wpAnyH_take (i := 9) (v := ?_) rfl (by kernel_rfl) (by kernel_rfl) (by kernel_rfl) (fun _ _ _ h => h) (Or.inl ⟨by rfl, ?_⟩) (by assumption) ?_; rotate_left; (focus (intro w hSw; (try dsimp only at hSw); go_simp; try with_reducible rfl)); (try simp only [Act.put, List.getElem_toArray, List.getElem_cons_succ, List.getElem_cons_zero, List.setIfInBounds_toArray, List.set_cons_zero, List.set_cons_succ])
    refine wpAnyH_take (i := 10) (v := ?_) rfl (by kernel_rfl) (by kernel_rfl) (by kernel_rfl) (fun _ _ _ h => h) (Or.inl ⟨by rfl, ?_⟩) (by assumption) ?_; rotate_left; (focus (intro w hSw; (try dsimp only at hSw); go_simp; try with_reducible rfl)); (try simp only [Act.put, List.getElem_toArray, List.getElem_cons_succ, List.getElem_cons_zero, List.setIfInBounds_toArray, List.set_cons_zero, List.set_cons_succ])
    refine wpAnyH_take (i := 11) (v := ?_) rfl (by kernel_rfl) (by kernel_rfl) (by kernel_rfl) (fun _ _ _ h => h) (Or.inl ⟨by rfl, ?_⟩) (by assumption) ?_; rotate_left; (focus (intro w hSw; (try dsimp only at hSw); go_simp; try with_reducible rfl)); (try simp only [Act.put, List.getElem_toArray, List.getElem_cons_succ, List.getElem_cons_zero, List.setIfInBounds_toArray, List.set_cons_zero, List.set_cons_succ])
    refine wpAnyH_take (i := 12) (v := ?_) rfl (by kernel_rfl) (by kernel_rfl) (by kernel_rfl) (fun _ _ _ h => h) (Or.inl ⟨by rfl, ?_⟩) (by assumption) ?_; rotate_left; (focus (intro w hSw; (try dsimp only at hSw); go_simp; try with_reducible rfl)); (try simp only [Act.put, List.getElem_toArray, List.getElem_cons_succ, List.getElem_cons_zero, List.setIfInBounds_toArray, List.set_cons_zero, List.set_cons_succ])
    refine wpAnyH_take (i := 13) (v := ?_) rfl (by kernel_rfl) (by kernel_rfl) (by kernel_rfl) (fun _ _ _ h => h) (Or.inl ⟨by rfl, ?_⟩) (by assumption) ?_; rotate_left; (focus (intro w hSw; (try dsimp only at hSw); go_simp; try with_reducible rfl)); (try simp only [Act.put, List.getElem_toArray, List.getElem_cons_succ, List.getElem_cons_zero, List.setIfInBounds_toArray, List.set_cons_zero, List.set_cons_succ])
    refine wpAnyH_take (i := 14) (v := ?_) rfl (by kernel_rfl) (by kernel_rfl) (by kernel_rfl) (fun _ _ _ h => h) (Or.inl ⟨by rfl, ?_⟩) (by assumption) ?_; rotate_left; (focus (intro w hSw; (try dsimp only at hSw); go_simp; try with_reducible rfl)); (try simp only [Act.put, List.getElem_toArray, List.getElem_cons_succ, List.getElem_cons_zero, List.setIfInBounds_toArray, List.set_cons_zero, List.set_cons_succ])
    refine wpAnyH_ready (rs := [5, 15]) (by kernel_rfl) (by simp) (AllReadyH.cons rfl (fun K hK => ?_) (AllReadyH.cons rfl (fun K hK => ?_) (AllReadyH.nil)))
    · go_simp; refine hK.out _ _ ?_ (fun hHeld => ?_); (focus (with_reducible first | exact hHeld | exact HSJ.out _ hcd | exact HSJ.out _ HC6.out | exact HSJ.out _ HC7.out | exact HSJ.out _ HC8.out)); clear hK K; (try simp only [Act.put, List.getElem_toArray, List.getElem_cons_succ, List.getElem_cons_zero, List.setIfInBounds_toArray, List.set_cons_zero, List.set_cons_succ])
      refine wpAnyH_ready (rs := [15]) (by kernel_rfl) (by simp) (AllReadyH.cons rfl (fun K hK => ?_) (AllReadyH.nil))
      go_simp; refine hK.out _ _ ?_ (fun hHeld => ?_); (focus (with_reducible first | exact hHeld | exact HSJ.out _ hcd | exact HSJ.out _ HC6.out | exact HSJ.out _ HC7.out | exact HSJ.out _ HC8.out)); clear hK K; (try simp only [Act.put, List.getElem_toArray, List.getElem_cons_succ, List.getElem_cons_zero, List.setIfInBounds_toArray, List.set_cons_zero, List.set_cons_succ])
      refine wpAnyH_ready (rs := [16]) (by kernel_rfl) (by simp) (AllReadyH.cons rfl (fun K hK => ?_) (AllReadyH.nil))
      rw [if_pos (by rfl)]; have SR7 := Lib.hid ((S2.out.rs.next ((Below.refl _ _).alloc (Nat.le_refl _) (.cells #[.int .i64 (kf : Int), .int .i64 n0, .int .i64 n1, .int .i64 n2, .int .i64 n3] 74))).drew); have KR7 := Lib.hid ((S2.out.kp.next ((Below.refl _ _).alloc (Nat.le_refl _) (.cells #[.int .i64 (kf : Int), .int .i64 n0, .int .i64 n1, .int .i64 n2, .int .i64 n3] 74))).next ((Below.refl _ _).drew)); refine wp_append_own _ (.tmp 35) (.tmp 45) 23 rfl (M + 2) 74 i1 (.agg (massC ⟨0, 0, 0, 0, 0⟩)) 5 40 under_masses MI.out MZ0.out MZ1.out MZ2.out rfl (by decide) _ ms.length (mcells ms) rfl SR7.out.om ⟨V.heap.size, 0, none⟩ 1 1 (massC (⟨((kf : Nat) : Int), n0, n1, n2, n3⟩ : MassD)).toList rfl (by rfl) (show ∀ k u, (massC (⟨((kf : Nat) : Int), n0, n1, n2, n3⟩ : MassD)).toList[k]? = some u → (V.alloc (.cells #[.int .i64 (kf : Int), .int .i64 n0, .int .i64 n1, .int .i64 n2, .int .i64 n3] 74)).drew.cell? ((⟨V.heap.size, 0, none⟩ : Addr).add k) = some u from mass_news V (⟨((kf : Nat) : Int), n0, n1, n2, n3⟩ : MassD)) (mass_ones (⟨((kf : Nat) : Int), n0, n1, n2, n3⟩ : MassD)) (by unfold maxLen; omega) (by omega) (by have := SR7.out.lt; omega) ?_; intro v2 w7 hown2 hgrow _; obtain ⟨g4, cap4, rfl⟩ := own_form hown2 (by omega); obtain ⟨hblk, hpush⟩ := SR7.out.pushM hown2 hgrow; have HPU := Lib.hid hpush; have KP8 := Lib.hid ((KR7.out.grownM hgrow).setR 1 (.slice (some ⟨g4, 0, none⟩) (ms.length + 1) cap4)); have HC7 := Lib.hid ((hgrow.block r (lt_of_block HC6.out) (fun e => own_ne SR7.out.om HC6.out (by decide) e.symm)).trans HC6.out); have HC8 := Lib.hid (show (w7.setCell ⟨M + 1, 1, none⟩ (.slice (some ⟨g4, 0, none⟩) (ms.length + 1) cap4)).heap[r]? = _ from (heap_setCell_other _ _ _ _ (show r ≠ M + 1 by omega)).trans HC7.out); have c1 := cell_of_row w7 _ 1 _ _ _ hblk; have f1 := frozen_of_row w7 _ 1 _ _ hblk; clear hown2 hgrow hpush hblk; refine hK.out _ _ ?_ (fun hHeld => ?_); (focus (with_reducible first | exact hHeld | exact HSJ.out _ hcd | exact HSJ.out _ HC6.out | exact HSJ.out _ HC7.out | exact HSJ.out _ HC8.out)); clear hK K; (try simp only [Act.put, List.getElem_toArray, List.getElem_cons_succ, List.getElem_cons_zero, List.setIfInBounds_toArray, List.set_cons_zero, List.set_cons_succ])
      refine wpAnyH_take (i := 17) (v := ?_) rfl (by kernel_rfl) (by kernel_rfl) (by kernel_rfl) (fun _ _ _ h => h) (Or.inl ⟨by rfl, ?_⟩) (by assumption) ?_; rotate_left; (focus (intro w hSw; (try dsimp only at hSw); go_simp; try with_reducible rfl)); (try simp only [Act.put, List.getElem_toArray, List.getElem_cons_succ, List.getElem_cons_zero, List.setIfInBounds_toArray, List.set_cons_zero, List.set_cons_succ])
      refine wpAnyH_take (i := 18) (v := ?_) rfl (by kernel_rfl) (by kernel_rfl) (by kernel_rfl) (fun _ _ _ h => h) (Or.inl ⟨by rfl, ?_⟩) (by assumption) ?_; rotate_left; (focus (intro w hSw; (try dsimp only at hSw); go_simp; try with_reducible rfl)); (try simp only [Act.put, List.getElem_toArray, List.getElem_cons_succ, List.getElem_cons_zero, List.setIfInBounds_toArray, List.set_cons_zero, List.set_cons_succ])
      refine wpAnyH_take (i := 19) (v := ?_) rfl (by kernel_rfl) (by kernel_rfl) (by kernel_rfl) (fun _ _ _ h => h) (Or.inl ⟨by rfl, ?_⟩) (by assumption) ?_; rotate_left; (focus (intro w hSw; (try dsimp only at hSw); go_simp; try with_reducible rfl)); (try simp only [Act.put, List.getElem_toArray, List.getElem_cons_succ, List.getElem_cons_zero, List.setIfInBounds_toArray, List.set_cons_zero, List.set_cons_succ])
      refine wpAnyH_ready (rs := [20]) (by kernel_rfl) (by simp) (AllReadyH.cons rfl (fun K hK => ?_) (AllReadyH.nil))
      go_simp; refine hK.out _ _ ?_ (fun hHeld => ?_); (focus (with_reducible first | exact hHeld | exact HSJ.out _ hcd | exact HSJ.out _ HC6.out | exact HSJ.out _ HC7.out | exact HSJ.out _ HC8.out)); clear hK K; (try simp only [Act.put, List.getElem_toArray, List.getElem_cons_succ, List.getElem_cons_zero, List.setIfInBounds_toArray, List.set_cons_zero, List.set_cons_succ])
      refine wpAnyH_done (by kernel_rfl) ?_ _
      refine NoPanic.normal ?_
      go_wp2_with fail
      go_ret
      exact ⟨rfl, KP8.out, _, by have h := HPU.out; rw [← HMS.out] at h; exact h⟩
    · go_simp; refine hK.out _ _ ?_ (fun hHeld => ?_); (focus (with_reducible first | exact hHeld | exact HSJ.out _ hcd | exact HSJ.out _ HC6.out | exact HSJ.out _ HC7.out | exact HSJ.out _ HC8.out)); clear hK K; (try simp only [Act.put, List.getElem_toArray, List.getElem_cons_succ, List.getElem_cons_zero, List.setIfInBounds_toArray, List.set_cons_zero, List.set_cons_succ])
      refine wpAnyH_ready (rs := [5]) (by kernel_rfl) (by simp) (AllReadyH.cons rfl (fun K hK => ?_) (AllReadyH.nil))
      go_simp; refine hK.out _ _ ?_ (fun hHeld => ?_); (focus (with_reducible first | exact hHeld | exact HSJ.out _ hcd | exact HSJ.out _ HC6.out | exact HSJ.out _ HC7.out | exact HSJ.out _ HC8.out)); clear hK K; (try simp only [Act.put, List.getElem_toArray, List.getElem_cons_succ, List.getElem_cons_zero, List.setIfInBounds_toArray, List.set_cons_zero, List.set_cons_succ])
      refine wpAnyH_ready (rs := [16]) (by kernel_rfl) (by simp) (AllReadyH.cons rfl (fun K hK => ?_) (AllReadyH.nil))
      rw [if_pos (by rfl)]; have SR7 := Lib.hid ((S2.out.rs.next ((Below.refl _ _).alloc (Nat.le_refl _) (.cells #[.int .i64 (kf : Int), .int .i64 n0, .int .i64 n1, .int .i64 n2, .int .i64 n3] 74))).drew); have KR7 := Lib.hid ((S2.out.kp.next ((Below.refl _ _).alloc (Nat.le_refl _) (.cells #[.int .i64 (kf : Int), .int .i64 n0, .int .i64 n1, .int .i64 n2, .int .i64 n3] 74))).next ((Below.refl _ _).drew)); refine wp_append_own _ (.tmp 35) (.tmp 45) 23 rfl (M + 2) 74 i1 (.agg (massC ⟨0, 0, 0, 0, 0⟩)) 5 40 under_masses MI.out MZ0.out MZ1.out MZ2.out rfl (by decide) _ ms.length (mcells ms) rfl SR7.out.om ⟨V.heap.size, 0, none⟩ 1 1 (massC (⟨((kf : Nat) : Int), n0, n1, n2, n3⟩ : MassD)).toList rfl (by rfl) (show ∀ k u, (massC (⟨((kf : Nat) : Int), n0, n1, n2, n3⟩ : MassD)).toList[k]? = some u → (V.alloc (.cells #[.int .i64 (kf : Int), .int .i64 n0, .int .i64 n1, .int .i64 n2, .int .i64 n3] 74)).drew.cell? ((⟨V.heap.size, 0, none⟩ : Addr).add k) = some u from mass_news V (⟨((kf : Nat) : Int), n0, n1, n2, n3⟩ : MassD)) (mass_ones (⟨((kf : Nat) : Int), n0, n1, n2, n3⟩ : MassD)) (by unfold maxLen; omega) (by omega) (by have := SR7.out.lt; omega) ?_; intro v2 w7 hown2 hgrow _; obtain ⟨g4, cap4, rfl⟩ := own_form hown2 (by omega); obtain ⟨hblk, hpush⟩ := SR7.out.pushM hown2 hgrow; have HPU := Lib.hid hpush; have KP8 := Lib.hid ((KR7.out.grownM hgrow).setR 1 (.slice (some ⟨g4, 0, none⟩) (ms.length + 1) cap4)); have HC7 := Lib.hid ((hgrow.block r (lt_of_block HC6.out) (fun e => own_ne SR7.out.om HC6.out (by decide) e.symm)).trans HC6.out); have HC8 := Lib.hid (show (w7.setCell ⟨M + 1, 1, none⟩ (.slice (some ⟨g4, 0, none⟩) (ms.length + 1) cap4)).heap[r]? = _ from (heap_setCell_other _ _ _ _ (show r ≠ M + 1 by omega)).trans HC7.out); have c1 := cell_of_row w7 _ 1 _ _ _ hblk; have f1 := frozen_of_row w7 _ 1 _ _ hblk; clear hown2 hgrow hpush hblk; refine hK.out _ _ ?_ (fun hHeld => ?_); (focus (with_reducible first | exact hHeld | exact HSJ.out _ hcd | exact HSJ.out _ HC6.out | exact HSJ.out _ HC7.out | exact HSJ.out _ HC8.out)); clear hK K; (try simp only [Act.put, List.getElem_toArray, List.getElem_cons_succ, List.getElem_cons_zero, List.setIfInBounds_toArray, List.set_cons_zero, List.set_cons_succ])
      refine wpAnyH_take (i := 17) (v := ?_) rfl (by kernel_rfl) (by kernel_rfl) (by kernel_rfl) (fun _ _ _ h => h) (Or.inl ⟨by rfl, ?_⟩) (by assumption) ?_; rotate_left; (focus (intro w hSw; (try dsimp only at hSw); go_simp; try with_reducible rfl)); (try simp only [Act.put, List.getElem_toArray, List.getElem_cons_succ, List.getElem_cons_zero, List.setIfInBounds_toArray, List.set_cons_zero, List.set_cons_succ])
      refine wpAnyH_take (i := 18) (v := ?_) rfl (by kernel_rfl) (by kernel_rfl) (by kernel_rfl) (fun _ _ _ h => h) (Or.inl ⟨by rfl, ?_⟩) (by assumption) ?_; rotate_left; (focus (intro w hSw; (try dsimp only at hSw); go_simp; try with_reducible rfl)); (try simp only [Act.put, List.getElem_toArray, List.getElem_cons_succ, List.getElem_cons_zero, List.setIfInBounds_toArray, List.set_cons_zero, List.set_cons_succ])
      refine wpAnyH_take (i := 19) (v := ?_) rfl (by kernel_rfl) (by kernel_rfl) (by kernel_rfl) (fun _ _ _ h => h) (Or.inl ⟨by rfl, ?_⟩) (by assumption) ?_; rotate_left; (focus (intro w hSw; (try dsimp only at hSw); go_simp; try with_reducible rfl)); (try simp only [Act.put, List.getElem_toArray, List.getElem_cons_succ, List.getElem_cons_zero, List.setIfInBounds_toArray, List.set_cons_zero, List.set_cons_succ])
      refine wpAnyH_ready (rs := [20]) (by kernel_rfl) (by simp) (AllReadyH.cons rfl (fun K hK => ?_) (AllReadyH.nil))
      go_simp; refine hK.out _ _ ?_ (fun hHeld => ?_); (focus (with_reducible first | exact hHeld | exact HSJ.out _ hcd | exact HSJ.out _ HC6.out | exact HSJ.out _ HC7.out | exact HSJ.out _ HC8.out)); clear hK K; (try simp only [Act.put, List.getElem_toArray, List.getElem_cons_succ, List.getElem_cons_zero, List.setIfInBounds_toArray, List.set_cons_zero, List.set_cons_succ])
      refine wpAnyH_done (by kernel_rfl) ?_ _
      refine NoPanic.normal ?_
      go_wp2_with fail
      go_ret
      exact ⟨rfl, KP8.out, _, by have h := HPU.out; rw [← HMS.out] at h; exact h⟩
end Go.Proofs.YtpaiapcnoifpmaaDoor
