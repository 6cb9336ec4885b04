/- Proved: the reference's readJoint returns what jerrK and readJ compute. Conditions: as each theorem states. -/
import Derived.Test.YtpaiapcnoifpmaaDoorRb9
import Derived.Laws.ResultCell
namespace Go.Proofs.YtpaiapcnoifpmaaDoor
open Go.RowKit

/-- What is known while a joint is read: the robot, the result, the joint so far, and what lies below. -/
structure RJ (w : World) (vj vm : Value) (W : World) (j : JointD) : Prop where
  rob : RobAt W w.heap.size vj vm
  res : JointAt W (w.heap.size + 1) zeroJ
  jo : JointAt W (w.heap.size + 1 + 1) j
  bl : Below w.heap.size w W
theorem RJ.next {w W V : World} {vj vm : Value} {j : JointD} (h : RJ w vj vm W j) (hb : Below W.heap.size W V) : RJ w vj vm V j :=
  ⟨h.rob.below hb h.rob.lt', (hb.block _ h.res.lt).trans h.res, (hb.block _ h.jo.lt).trans h.jo, h.bl.trans (hb.mono h.bl.size)⟩
theorem RJ.drew {w W : World} {vj vm : Value} {j : JointD} (h : RJ w vj vm W j) : RJ w vj vm W.drew j := h.next ((Below.refl _ _).drew)
theorem RJ.set {w W : World} {vj vm : Value} {j j' : JointD} (h : RJ w vj vm W j) (k : Nat) (v : Value) (e : (jointC j).setIfInBounds k v = jointC j') : RJ w vj vm (W.setCell ⟨w.heap.size + 1 + 1, k, none⟩ v) j' :=
  ⟨(heap_setCell_other _ _ _ _ (by dsimp only; omega)).trans h.rob, h.res.far (by omega), h.jo.set k v e, h.bl.setCell (by dsimp only; omega) _⟩
theorem RJ.start {w : World} {vj vm : Value} (j : JointD) : RJ w vj vm (((w.alloc (.cells #[vj, vm] 25)).alloc (.cells (jointC zeroJ) 60)).alloc (.cells (jointC j) 60)) j :=
  ⟨(Below.heap_alloc _ _ _ (by simp <;> omega)).trans ((Below.heap_alloc _ _ _ (by simp)).trans (heap_alloc_new _ _)), (JointAt.at_new (by simp)).alloc _, JointAt.at_new (by simp), bl_alloc (bl_alloc (bl_alloc (Below.refl _ _) _) _) _⟩
theorem RJ.done {w W : World} {vj vm : Value} {j : JointD} (h : RJ w vj vm W j) (c : Array Value) : Below w.heap.size w (W.setRow (w.heap.size + 1) c) :=
  ⟨h.bl.os, h.bl.tape, h.bl.output, by rw [show (W.setRow (w.heap.size + 1) c).heap.size = W.heap.size by simp [World.setRow]]; exact h.bl.size, fun i hi => (setRow_other _ _ _ _ (by omega)).trans (h.bl.block i hi)⟩
theorem results_row_tmp {fn : Func} {p u : Tmp} {ty : TypeId} (h : fn.results = #[.cell p ty, .tmp u]) (tmps : Array Value) (w : World) (g : Nat) (cs : Array Value) (e : Value)
    (hl : (loadVar ty ⟨g, 0, none⟩).run Tryd.prog w = .ok (.agg cs) w) (hp : tmps.getD p undef = .pointer (some ⟨g, 0, none⟩)) (hu : tmps.getD u undef = e) :
    (results fn tmps).run Tryd.prog w = .ok (.tuple #[.agg cs, e]) w := by
  have ha : (asAddr (.pointer (some ⟨g, 0, none⟩))).run Tryd.prog w = .ok ⟨g, 0, none⟩ w := by simp [asAddr]
  rw [results_cell_tmp h, hp, hu, ha]
  simp only [Result.andThen, hl]
theorem joint_res {fn : Func} (h : fn.results = #[.cell 4 60, .tmp 5]) (tmps : Array Value) (w : World) (g : Nat) (j k : JointD) (e : Value) (hg : JointAt w g k)
    (hp : tmps.getD 4 undef = .pointer (some ⟨g, 0, none⟩)) (hu : tmps.getD 5 undef = e) :
    (results fn tmps).run Tryd.prog (w.setRow g (jointC j)) = .ok (.tuple #[.agg (jointC j), e]) (w.setRow g (jointC j)) :=
  results_row_tmp h tmps _ g _ e (run_loadVar_row _ g 60 60 (jointC j) (0, 0) _ (setRow_heap _ _ _ _ _ _ hg) under_joint rfl info_joint) hp hu
theorem RdT.word_at {W : World} {g o n c : Nat} {xs : List ByteArray} (h : RdT W (.slice (some ⟨g, o, none⟩) n c) xs) (k : Nat) (hk : k < xs.length) : g < W.heap.size ∧ W.cell? ⟨g, o + k, none⟩ = some (.string xs[k]) := by
  obtain ⟨A, c', hv, _, hat⟩ := h
  obtain ⟨g', o', hA, hg, h0⟩ := hat k hk
  injection hv with e1 _ _
  rw [hA] at e1
  injection e1 with e1
  injection e1 with e1 e2 _
  subst e1 e2
  exact ⟨hg, h0⟩
theorem RdT.rest {W : World} {g o n c : Nat} {xs : List ByteArray} (h : RdT W (.slice (some ⟨g, o, none⟩) n c) xs) (k m c' : Nat) (hm : k + m ≤ xs.length) (hc : m ≤ c') : RdT W (.slice (some ⟨g, o + k, none⟩) m c') ((xs.drop k).take m) := by
  have hl : xs.length ≤ 8796093022208 := by obtain ⟨_, _, _, h, _⟩ := h; exact h.2
  have hlen : ((xs.drop k).take m).length = m := by rw [List.length_take, List.length_drop]; omega
  refine ⟨some ⟨g, o + k, none⟩, c', by rw [hlen], ⟨by omega, by omega⟩, fun j hj => ?_⟩
  obtain ⟨hg, h0⟩ := h.word_at (k + j) (by omega)
  refine ⟨g, o + k, rfl, hg, ?_⟩
  rw [Nat.add_assoc, h0, List.getElem_take, List.getElem_drop]
set_option linter.unusedSimpArgs false in
set_option linter.unusedVariables false in
set_option maxRecDepth 100000 in
set_option maxHeartbeats 12800000 in
theorem rReadJoint_any (js : List JointD) (ms : List MassD) (vj vm : Value) (a0 a1 a2 a3 a4 a5 a6 a7 a8 : ByteArray) (g o c : Nat) (w : World) (hr : RobD w vj vm js ms) (hc : 9 ≤ c) (hu : RdT w (.slice (some ⟨g, o, none⟩) 9 c) [a0, a1, a2, a3, a4, a5, a6, a7, a8]) (hs : ∀ s ∈ [a0, a1, a2, a3, a4, a5, a6, a7, a8], s.size ≤ maxLen) :
    Calls Tryd.prog 73 #[ .agg #[vj, vm], .slice (some ⟨g, o, none⟩) 9 c ] w fun e w' => ∃ jj, e = .returned (.tuple #[.agg (jointC jj), .int .i64 (jerrK js [a0, a1, a2, a3, a4, a5, a6, a7, a8])]) ∧ (jerrK js [a0, a1, a2, a3, a4, a5, a6, a7, a8] = 0 → jj = readJ js [a0, a1, a2, a3, a4, a5, a6, a7, a8]) ∧ Below w.heap.size w w' := by
  have HR := Lib.hid hr
  have HU := Lib.hid hu
  have HS := Lib.hid hs
  have hg := (hu.word_at 0 (by simp)).1
  obtain ⟨Aj, cj, rfl, hcj, _⟩ := hr.rj.joint
  obtain ⟨Am, cm, rfl, hcm, _⟩ := hr.rm.mass
  have lj := hr.lj
  obtain ⟨E, hE⟩ : ∃ E, jerrK js [a0, a1, a2, a3, a4, a5, a6, a7, a8] = E := ⟨_, rfl⟩
  have HX : Hid ((if nameS (bts a0) = false ∨ 0 ≤ findK js a0 then 802 else if kindK a1 < 0 then 803 else if a2 ≠ worldB ∧ findK js a2 < 0 then 810 else if numOk [a3, a4, a5, a6, a7] = false ∨ outB (intS (bts a8)) = false then 809 else 0 : Int) = E) := Lib.hid hE
  obtain ⟨JJ, hJJ⟩ : ∃ JJ, readJ js [a0, a1, a2, a3, a4, a5, a6, a7, a8] = JJ := ⟨_, rfl⟩
  have HJ : Hid (JJ = ⟨a0, kindK a1, if a2 = worldB then -1 else findK js a2, outI (numS (bts a3)), outI (numS (bts a4)), outI (numS (bts a5)), outI (numS (bts a6)), outI (numS (bts a7)), outI (intS (bts a8)), 65536, 65536, 65536⟩) := Lib.hid hJJ.symm
  rw [hE, hJJ]
  clear hE hJJ hr hu hs
  have c0 : w.cell? ⟨g, o, none⟩ = some (.string a0) := (HU.out.word_at 0 (by simp)).2
  have R := Lib.hid (RJ.start (w := w) (vj := .slice Aj js.length cj) (vm := .slice Am ms.length cm) ⟨a0, 0, 0, 0, 0, 0, 0, 0, 0, 65536, 65536, 65536⟩)
  go_enter Tryd.func73, Tryd.ntmps73
  go_wp2_with fail
  obtain ⟨U, hU⟩ : ∃ U, ((w.alloc (.cells #[.slice Aj js.length cj, .slice Am ms.length cm] 25)).alloc (.cells (jointC zeroJ) 60)).alloc (.cells (jointC ⟨a0, 0, 0, 0, 0, 0, 0, 0, 0, 65536, 65536, 65536⟩) 60) = U := ⟨_, rfl⟩
  rw [hU] at R
  simp only [jointC, zeroJ] at hU
  rw [hU]
  clear hU
  have HD := Lib.hid (show ∀ W', RJ w (.slice Aj js.length cj) (.slice Am ms.length cm) W' ⟨a0, 0, 0, 0, 0, 0, 0, 0, 0, 65536, 65536, 65536⟩ → (fun w' => w'.cell? ⟨w.heap.size, 0, none⟩ = some (.slice Aj js.length cj) ∧ w'.cell? ⟨w.heap.size, 1, none⟩ = some (.slice Am ms.length cm) ∧ w'.cell? ⟨g, o, none⟩ = some (.string a0) ∧ RJ w (.slice Aj js.length cj) (.slice Am ms.length cm) w' ⟨a0, 0, 0, 0, 0, 0, 0, 0, 0, 65536, 65536, 65536⟩) W' from fun W' h => ⟨h.rob.c0, h.rob.c1, (h.bl.cell (p := ⟨g, o + 0, none⟩) hg).trans (HU.out.word_at 0 (by simp)).2, h⟩)
  obtain ⟨nm, hnm⟩ : ∃ nm, nameS (bts a0) = nm := ⟨_, rfl⟩
  obtain ⟨fd, hfd⟩ : ∃ fd, findK js a0 = fd := ⟨_, rfl⟩
  have HF := find_range js a0
  rw [hfd] at HF
  cases nm with
  | false =>
    refine wp_region_noPanic ?_
    refine wp_region_held_drew (S := (fun w' => w'.cell? ⟨w.heap.size, 0, none⟩ = some (.slice Aj js.length cj) ∧ w'.cell? ⟨w.heap.size, 1, none⟩ = some (.slice Am ms.length cm) ∧ w'.cell? ⟨g, o, none⟩ = some (.string a0) ∧ RJ w (.slice Aj js.length cj) (.slice Am ms.length cm) w' ⟨a0, 0, 0, 0, 0, 0, 0, 0, 0, 65536, 65536, 65536⟩)) (by kernel_rfl) ?_ (fun hHeld => ?_)
    focus (first | exact HD.out _ R.out.drew | exact hHeld | exact HD.out _ (hHeld.2.2.2.next hb5))
    refine wpAnyH_take (i := 0) (v := ?_) rfl (by kernel_rfl) (by kernel_rfl) (by kernel_rfl) (fun _ _ _ h => h) (Or.inl ⟨by rfl, ?_⟩) (by assumption) ?_; rotate_left; (focus (intro w hSw; (try dsimp only at hSw); go_simp; try with_reducible rfl)); (try simp only [Act.put, List.getElem_toArray, List.getElem_cons_succ, List.getElem_cons_zero, List.setIfInBounds_toArray, List.set_cons_zero, List.set_cons_succ])
    refine wpAnyH_take (i := 1) (v := ?_) rfl (by kernel_rfl) (by kernel_rfl) (by kernel_rfl) (fun _ _ _ h => h) (Or.inl ⟨by rfl, ?_⟩) (by assumption) ?_; rotate_left; (focus (intro w hSw; (try dsimp only at hSw); go_simp; try with_reducible rfl)); (try simp only [Act.put, List.getElem_toArray, List.getElem_cons_succ, List.getElem_cons_zero, List.setIfInBounds_toArray, List.set_cons_zero, List.set_cons_succ])
    refine wpAnyH_take (i := 2) (v := ?_) rfl (by kernel_rfl) (by kernel_rfl) (by kernel_rfl) (fun _ _ _ h => h) (Or.inl ⟨by rfl, ?_⟩) (by assumption) ?_; rotate_left; (focus (intro w hSw; (try dsimp only at hSw); go_simp; try with_reducible rfl)); (try simp only [Act.put, List.getElem_toArray, List.getElem_cons_succ, List.getElem_cons_zero, List.setIfInBounds_toArray, List.set_cons_zero, List.set_cons_succ])
    refine wpAnyH_ready (rs := [3]) (by kernel_rfl) (by simp) (AllReadyH.cons rfl (fun K hK => ?_) AllReadyH.nil); go_simp; (refine (rName_any a0 _).mono ?_; rintro e w4 ⟨rfl, rfl⟩; rw [hnm]); go_wp2_with fail; refine hK.out _ _ ?_ (fun hHeld => ?_); (focus (first | exact HD.out _ R.out.drew | exact hHeld | exact HD.out _ (hHeld.2.2.2.next hb5))); clear hK K; (try simp only [Act.put, List.getElem_toArray, List.getElem_cons_succ, List.getElem_cons_zero, List.setIfInBounds_toArray, List.set_cons_zero, List.set_cons_succ])
    refine wpAnyH_take (i := 4) (v := ?_) rfl (by kernel_rfl) (by kernel_rfl) (by kernel_rfl) (fun _ _ _ h => h) (Or.inl ⟨by rfl, ?_⟩) (by assumption) ?_; rotate_left; (focus (intro w hSw; (try dsimp only at hSw); go_simp; try with_reducible rfl)); (try simp only [Act.put, List.getElem_toArray, List.getElem_cons_succ, List.getElem_cons_zero, List.setIfInBounds_toArray, List.set_cons_zero, List.set_cons_succ])
    refine wpAnyH_take (i := 5) (v := ?_) rfl (by kernel_rfl) (by kernel_rfl) (by kernel_rfl) (fun _ _ _ h => h) (Or.inl ⟨by rfl, ?_⟩) (by assumption) ?_; rotate_left; (focus (intro w hSw; (try dsimp only at hSw); go_simp; try with_reducible rfl)); (try simp only [Act.put, List.getElem_toArray, List.getElem_cons_succ, List.getElem_cons_zero, List.setIfInBounds_toArray, List.set_cons_zero, List.set_cons_succ])
    refine wpAnyH_take (i := 6) (v := undef) rfl (by kernel_rfl) (by kernel_rfl) (by kernel_rfl) (fun _ _ _ h => h) (Or.inr ⟨by rfl, rfl⟩) (by assumption) ?_; (try simp only [Act.put, List.getElem_toArray, List.getElem_cons_succ, List.getElem_cons_zero, List.setIfInBounds_toArray, List.set_cons_zero, List.set_cons_succ])
    refine wpAnyH_take (i := 7) (v := undef) rfl (by kernel_rfl) (by kernel_rfl) (by kernel_rfl) (fun _ _ _ h => h) (Or.inr ⟨by rfl, rfl⟩) (by assumption) ?_; (try simp only [Act.put, List.getElem_toArray, List.getElem_cons_succ, List.getElem_cons_zero, List.setIfInBounds_toArray, List.set_cons_zero, List.set_cons_succ])
    refine wpAnyH_take (i := 8) (v := undef) rfl (by kernel_rfl) (by kernel_rfl) (by kernel_rfl) (fun _ _ _ h => h) (Or.inr ⟨by rfl, rfl⟩) (by assumption) ?_; (try simp only [Act.put, List.getElem_toArray, List.getElem_cons_succ, List.getElem_cons_zero, List.setIfInBounds_toArray, List.set_cons_zero, List.set_cons_succ])
    refine wpAnyH_take (i := 9) (v := undef) rfl (by kernel_rfl) (by kernel_rfl) (by kernel_rfl) (fun _ _ _ h => h) (Or.inr ⟨by rfl, rfl⟩) (by assumption) ?_; (try simp only [Act.put, List.getElem_toArray, List.getElem_cons_succ, List.getElem_cons_zero, List.setIfInBounds_toArray, List.set_cons_zero, List.set_cons_succ])
    refine wpAnyH_take (i := 10) (v := undef) rfl (by kernel_rfl) (by kernel_rfl) (by kernel_rfl) (fun _ _ _ h => h) (Or.inr ⟨by rfl, rfl⟩) (by assumption) ?_; (try simp only [Act.put, List.getElem_toArray, List.getElem_cons_succ, List.getElem_cons_zero, List.setIfInBounds_toArray, List.set_cons_zero, List.set_cons_succ])
    refine wpAnyH_take (i := 11) (v := undef) rfl (by kernel_rfl) (by kernel_rfl) (by kernel_rfl) (fun _ _ _ h => h) (Or.inr ⟨by rfl, rfl⟩) (by assumption) ?_; (try simp only [Act.put, List.getElem_toArray, List.getElem_cons_succ, List.getElem_cons_zero, List.setIfInBounds_toArray, List.set_cons_zero, List.set_cons_succ])
    refine wpAnyH_take (i := 12) (v := ?_) rfl (by kernel_rfl) (by kernel_rfl) (by kernel_rfl) (fun _ _ _ h => h) (Or.inl ⟨by rfl, ?_⟩) (by assumption) ?_; rotate_left; (focus (intro w hSw; (try dsimp only at hSw); go_simp; try with_reducible rfl)); (try simp only [Act.put, List.getElem_toArray, List.getElem_cons_succ, List.getElem_cons_zero, List.setIfInBounds_toArray, List.set_cons_zero, List.set_cons_succ])
    refine wpAnyH_done (by kernel_rfl) ?_ _
    refine NoPanic.normal ?_
    have RE := Lib.hid hHeld.2.2.2
    clear hHeld
    go_wp2_with (first | (refine wpList_load_row rfl 60 _ rfl (w.heap.size + 1 + 1) rfl 60 _ (0, 0) _ RE.out.jo under_joint rfl info_joint ?_) | (refine wpList_store_row rfl 60 _ _ rfl (w.heap.size + 1) (jointC ⟨a0, 0, 0, 0, 0, 0, 0, 0, 0, 65536, 65536, 65536⟩) rfl rfl 60 (jointC zeroJ) RE.out.res info_joint rfl (joint_one _) ?_))
    (try simp only [Exit.inBlock, Exit.then])
    refine bodyPost_ret (v := .tuple #[.agg (jointC ⟨a0, 0, 0, 0, 0, 0, 0, 0, 0, 65536, 65536, 65536⟩), .int .i64 802]) (joint_res rfl _ _ _ _ _ _ RE.out.res rfl rfl) rfl ⟨⟨a0, 0, 0, 0, 0, 0, 0, 0, 0, 65536, 65536, 65536⟩, ?_, ?_, RE.out.done _⟩
    · rw [← HX.out, if_pos (.inl hnm)]
    · rw [← HX.out, if_pos (.inl hnm)]; intro h; cases h
  | true =>
    by_cases hf0 : 0 ≤ fd
    · have hge : decide ((0 : Int) ≤ fd) = true := decide_eq_true hf0
      refine wp_region_noPanic ?_
      refine wp_region_held_drew (S := (fun w' => w'.cell? ⟨w.heap.size, 0, none⟩ = some (.slice Aj js.length cj) ∧ w'.cell? ⟨w.heap.size, 1, none⟩ = some (.slice Am ms.length cm) ∧ w'.cell? ⟨g, o, none⟩ = some (.string a0) ∧ RJ w (.slice Aj js.length cj) (.slice Am ms.length cm) w' ⟨a0, 0, 0, 0, 0, 0, 0, 0, 0, 65536, 65536, 65536⟩)) (by kernel_rfl) ?_ (fun hHeld => ?_)
      focus (first | exact HD.out _ R.out.drew | exact hHeld | exact HD.out _ (hHeld.2.2.2.next hb5))
      refine wpAnyH_take (i := 0) (v := ?_) rfl (by kernel_rfl) (by kernel_rfl) (by kernel_rfl) (fun _ _ _ h => h) (Or.inl ⟨by rfl, ?_⟩) (by assumption) ?_; rotate_left; (focus (intro w hSw; (try dsimp only at hSw); go_simp; try with_reducible rfl)); (try simp only [Act.put, List.getElem_toArray, List.getElem_cons_succ, List.getElem_cons_zero, List.setIfInBounds_toArray, List.set_cons_zero, List.set_cons_succ])
      refine wpAnyH_take (i := 1) (v := ?_) rfl (by kernel_rfl) (by kernel_rfl) (by kernel_rfl) (fun _ _ _ h => h) (Or.inl ⟨by rfl, ?_⟩) (by assumption) ?_; rotate_left; (focus (intro w hSw; (try dsimp only at hSw); go_simp; try with_reducible rfl)); (try simp only [Act.put, List.getElem_toArray, List.getElem_cons_succ, List.getElem_cons_zero, List.setIfInBounds_toArray, List.set_cons_zero, List.set_cons_succ])
      refine wpAnyH_take (i := 2) (v := ?_) rfl (by kernel_rfl) (by kernel_rfl) (by kernel_rfl) (fun _ _ _ h => h) (Or.inl ⟨by rfl, ?_⟩) (by assumption) ?_; rotate_left; (focus (intro w hSw; (try dsimp only at hSw); go_simp; try with_reducible rfl)); (try simp only [Act.put, List.getElem_toArray, List.getElem_cons_succ, List.getElem_cons_zero, List.setIfInBounds_toArray, List.set_cons_zero, List.set_cons_succ])
      refine wpAnyH_ready (rs := [3]) (by kernel_rfl) (by simp) (AllReadyH.cons rfl (fun K hK => ?_) AllReadyH.nil); go_simp; (refine (rName_any a0 _).mono ?_; rintro e w4 ⟨rfl, rfl⟩; rw [hnm]); go_wp2_with fail; refine hK.out _ _ ?_ (fun hHeld => ?_); (focus (first | exact HD.out _ R.out.drew | exact hHeld | exact HD.out _ (hHeld.2.2.2.next hb5))); clear hK K; (try simp only [Act.put, List.getElem_toArray, List.getElem_cons_succ, List.getElem_cons_zero, List.setIfInBounds_toArray, List.set_cons_zero, List.set_cons_succ])
      refine wpAnyH_take (i := 4) (v := ?_) rfl (by kernel_rfl) (by kernel_rfl) (by kernel_rfl) (fun _ _ _ h => h) (Or.inl ⟨by rfl, ?_⟩) (by assumption) ?_; rotate_left; (focus (intro w hSw; (try dsimp only at hSw); go_simp; try with_reducible rfl)); (try simp only [Act.put, List.getElem_toArray, List.getElem_cons_succ, List.getElem_cons_zero, List.setIfInBounds_toArray, List.set_cons_zero, List.set_cons_succ])
      refine wpAnyH_take (i := 5) (v := ?_) rfl (by kernel_rfl) (by kernel_rfl) (by kernel_rfl) (fun _ _ _ h => h) (Or.inl ⟨by rfl, ?_⟩) (by assumption) ?_; rotate_left; (focus (intro w hSw; (try dsimp only at hSw); go_simp; try with_reducible rfl)); (try simp only [Act.put, List.getElem_toArray, List.getElem_cons_succ, List.getElem_cons_zero, List.setIfInBounds_toArray, List.set_cons_zero, List.set_cons_succ])
      refine wpAnyH_take (i := 6) (v := ?_) rfl (by kernel_rfl) (by kernel_rfl) (by kernel_rfl) (fun _ _ _ h => h) (Or.inl ⟨by rfl, ?_⟩) (by assumption) ?_; rotate_left; (focus (intro w hSw; (try dsimp only at hSw); go_simp; try with_reducible rfl)); (try simp only [Act.put, List.getElem_toArray, List.getElem_cons_succ, List.getElem_cons_zero, List.setIfInBounds_toArray, List.set_cons_zero, List.set_cons_succ])
      refine wpAnyH_take (i := 7) (v := ?_) rfl (by kernel_rfl) (by kernel_rfl) (by kernel_rfl) (fun _ _ _ h => h) (Or.inl ⟨by rfl, ?_⟩) (by assumption) ?_; rotate_left; (focus (intro w hSw; (try dsimp only at hSw); go_simp; try with_reducible rfl)); (try simp only [Act.put, List.getElem_toArray, List.getElem_cons_succ, List.getElem_cons_zero, List.setIfInBounds_toArray, List.set_cons_zero, List.set_cons_succ])
      refine wpAnyH_take (i := 8) (v := ?_) rfl (by kernel_rfl) (by kernel_rfl) (by kernel_rfl) (fun _ _ _ h => h) (Or.inl ⟨by rfl, ?_⟩) (by assumption) ?_; rotate_left; (focus (intro w hSw; (try dsimp only at hSw); go_simp; try with_reducible rfl)); (try simp only [Act.put, List.getElem_toArray, List.getElem_cons_succ, List.getElem_cons_zero, List.setIfInBounds_toArray, List.set_cons_zero, List.set_cons_succ])
      refine wpAnyH_take (i := 9) (v := ?_) rfl (by kernel_rfl) (by kernel_rfl) (by kernel_rfl) (fun _ _ _ h => h) (Or.inl ⟨by rfl, ?_⟩) (by assumption) ?_; rotate_left; (focus (intro w hSw; (try dsimp only at hSw); go_simp; try with_reducible rfl)); (try simp only [Act.put, List.getElem_toArray, List.getElem_cons_succ, List.getElem_cons_zero, List.setIfInBounds_toArray, List.set_cons_zero, List.set_cons_succ])
      refine wpAnyH_ready (rs := [10]) (by kernel_rfl) (by simp) (AllReadyH.cons rfl (fun K hK => ?_) AllReadyH.nil); go_simp; (refine (rFind_all js ms _ _ a0 _ (HR.out.below (hHeld.2.2.2).bl (Nat.le_refl _))).mono ?_; rintro e w5 ⟨rfl, hb5⟩; rw [hfd]); go_wp2_with fail; refine hK.out _ _ ?_ (fun hHeld => ?_); (focus (first | exact HD.out _ R.out.drew | exact hHeld | exact HD.out _ (hHeld.2.2.2.next hb5))); clear hK K; (try simp only [Act.put, List.getElem_toArray, List.getElem_cons_succ, List.getElem_cons_zero, List.setIfInBounds_toArray, List.set_cons_zero, List.set_cons_succ])
      refine wpAnyH_take (i := 11) (v := ?_) rfl (by kernel_rfl) (by kernel_rfl) (by kernel_rfl) (fun _ _ _ h => h) (Or.inl ⟨by rfl, ?_⟩) (by assumption) ?_; rotate_left; (focus (intro w hSw; (try dsimp only at hSw); go_simp; try with_reducible rfl)); (try simp only [Act.put, List.getElem_toArray, List.getElem_cons_succ, List.getElem_cons_zero, List.setIfInBounds_toArray, List.set_cons_zero, List.set_cons_succ])
      refine wpAnyH_take (i := 12) (v := ?_) rfl (by kernel_rfl) (by kernel_rfl) (by kernel_rfl) (fun _ _ _ h => h) (Or.inl ⟨by rfl, ?_⟩) (by assumption) ?_; rotate_left; (focus (intro w hSw; (try dsimp only at hSw); go_simp; try with_reducible rfl)); (try simp only [Act.put, List.getElem_toArray, List.getElem_cons_succ, List.getElem_cons_zero, List.setIfInBounds_toArray, List.set_cons_zero, List.set_cons_succ])
      refine wpAnyH_done (by kernel_rfl) ?_ _
      refine NoPanic.normal ?_
      have RE := Lib.hid hHeld.2.2.2
      clear hHeld
      go_wp2_with (first | (refine wpList_load_row rfl 60 _ rfl (w.heap.size + 1 + 1) rfl 60 _ (0, 0) _ RE.out.jo under_joint rfl info_joint ?_) | (refine wpList_store_row rfl 60 _ _ rfl (w.heap.size + 1) (jointC ⟨a0, 0, 0, 0, 0, 0, 0, 0, 0, 65536, 65536, 65536⟩) rfl rfl 60 (jointC zeroJ) RE.out.res info_joint rfl (joint_one _) ?_))
      (try simp only [Exit.inBlock, Exit.then])
      refine bodyPost_ret (v := .tuple #[.agg (jointC ⟨a0, 0, 0, 0, 0, 0, 0, 0, 0, 65536, 65536, 65536⟩), .int .i64 802]) (joint_res rfl _ _ _ _ _ _ RE.out.res rfl rfl) rfl ⟨⟨a0, 0, 0, 0, 0, 0, 0, 0, 0, 65536, 65536, 65536⟩, ?_, ?_, RE.out.done _⟩
      · rw [← HX.out, if_pos (.inr (by rw [hfd]; exact hf0))]
      · rw [← HX.out, if_pos (.inr (by rw [hfd]; exact hf0))]; intro h; cases h
    · have hge : decide ((0 : Int) ≤ fd) = false := decide_eq_false hf0
      have HX2 := Lib.hid ((if_neg (fun h => h.elim (fun h => by rw [hnm] at h; cases h) (fun h => by omega))).symm.trans HX.out)
      clear HX
      refine wp_region_noPanic ?_
      refine wp_region_held_drew (S := (fun w' => w'.cell? ⟨w.heap.size, 0, none⟩ = some (.slice Aj js.length cj) ∧ w'.cell? ⟨w.heap.size, 1, none⟩ = some (.slice Am ms.length cm) ∧ w'.cell? ⟨g, o, none⟩ = some (.string a0) ∧ RJ w (.slice Aj js.length cj) (.slice Am ms.length cm) w' ⟨a0, 0, 0, 0, 0, 0, 0, 0, 0, 65536, 65536, 65536⟩)) (by kernel_rfl) ?_ (fun hHeld => ?_)
      focus (first | exact HD.out _ R.out.drew | exact hHeld | exact HD.out _ (hHeld.2.2.2.next hb5))
      refine wpAnyH_take (i := 0) (v := ?_) rfl (by kernel_rfl) (by kernel_rfl) (by kernel_rfl) (fun _ _ _ h => h) (Or.inl ⟨by rfl, ?_⟩) (by assumption) ?_; rotate_left; (focus (intro w hSw; (try dsimp only at hSw); go_simp; try with_reducible rfl)); (try simp only [Act.put, List.getElem_toArray, List.getElem_cons_succ, List.getElem_cons_zero, List.setIfInBounds_toArray, List.set_cons_zero, List.set_cons_succ])
      refine wpAnyH_take (i := 1) (v := ?_) rfl (by kernel_rfl) (by kernel_rfl) (by kernel_rfl) (fun _ _ _ h => h) (Or.inl ⟨by rfl, ?_⟩) (by assumption) ?_; rotate_left; (focus (intro w hSw; (try dsimp only at hSw); go_simp; try with_reducible rfl)); (try simp only [Act.put, List.getElem_toArray, List.getElem_cons_succ, List.getElem_cons_zero, List.setIfInBounds_toArray, List.set_cons_zero, List.set_cons_succ])
      refine wpAnyH_take (i := 2) (v := ?_) rfl (by kernel_rfl) (by kernel_rfl) (by kernel_rfl) (fun _ _ _ h => h) (Or.inl ⟨by rfl, ?_⟩) (by assumption) ?_; rotate_left; (focus (intro w hSw; (try dsimp only at hSw); go_simp; try with_reducible rfl)); (try simp only [Act.put, List.getElem_toArray, List.getElem_cons_succ, List.getElem_cons_zero, List.setIfInBounds_toArray, List.set_cons_zero, List.set_cons_succ])
      refine wpAnyH_ready (rs := [3]) (by kernel_rfl) (by simp) (AllReadyH.cons rfl (fun K hK => ?_) AllReadyH.nil); go_simp; (refine (rName_any a0 _).mono ?_; rintro e w4 ⟨rfl, rfl⟩; rw [hnm]); go_wp2_with fail; refine hK.out _ _ ?_ (fun hHeld => ?_); (focus (first | exact HD.out _ R.out.drew | exact hHeld | exact HD.out _ (hHeld.2.2.2.next hb5))); clear hK K; (try simp only [Act.put, List.getElem_toArray, List.getElem_cons_succ, List.getElem_cons_zero, List.setIfInBounds_toArray, List.set_cons_zero, List.set_cons_succ])
      refine wpAnyH_take (i := 4) (v := ?_) rfl (by kernel_rfl) (by kernel_rfl) (by kernel_rfl) (fun _ _ _ h => h) (Or.inl ⟨by rfl, ?_⟩) (by assumption) ?_; rotate_left; (focus (intro w hSw; (try dsimp only at hSw); go_simp; try with_reducible rfl)); (try simp only [Act.put, List.getElem_toArray, List.getElem_cons_succ, List.getElem_cons_zero, List.setIfInBounds_toArray, List.set_cons_zero, List.set_cons_succ])
      refine wpAnyH_take (i := 5) (v := ?_) rfl (by kernel_rfl) (by kernel_rfl) (by kernel_rfl) (fun _ _ _ h => h) (Or.inl ⟨by rfl, ?_⟩) (by assumption) ?_; rotate_left; (focus (intro w hSw; (try dsimp only at hSw); go_simp; try with_reducible rfl)); (try simp only [Act.put, List.getElem_toArray, List.getElem_cons_succ, List.getElem_cons_zero, List.setIfInBounds_toArray, List.set_cons_zero, List.set_cons_succ])
      refine wpAnyH_take (i := 6) (v := ?_) rfl (by kernel_rfl) (by kernel_rfl) (by kernel_rfl) (fun _ _ _ h => h) (Or.inl ⟨by rfl, ?_⟩) (by assumption) ?_; rotate_left; (focus (intro w hSw; (try dsimp only at hSw); go_simp; try with_reducible rfl)); (try simp only [Act.put, List.getElem_toArray, List.getElem_cons_succ, List.getElem_cons_zero, List.setIfInBounds_toArray, List.set_cons_zero, List.set_cons_succ])
      refine wpAnyH_take (i := 7) (v := ?_) rfl (by kernel_rfl) (by kernel_rfl) (by kernel_rfl) (fun _ _ _ h => h) (Or.inl ⟨by rfl, ?_⟩) (by assumption) ?_; rotate_left; (focus (intro w hSw; (try dsimp only at hSw); go_simp; try with_reducible rfl)); (try simp only [Act.put, List.getElem_toArray, List.getElem_cons_succ, List.getElem_cons_zero, List.setIfInBounds_toArray, List.set_cons_zero, List.set_cons_succ])
      refine wpAnyH_take (i := 8) (v := ?_) rfl (by kernel_rfl) (by kernel_rfl) (by kernel_rfl) (fun _ _ _ h => h) (Or.inl ⟨by rfl, ?_⟩) (by assumption) ?_; rotate_left; (focus (intro w hSw; (try dsimp only at hSw); go_simp; try with_reducible rfl)); (try simp only [Act.put, List.getElem_toArray, List.getElem_cons_succ, List.getElem_cons_zero, List.setIfInBounds_toArray, List.set_cons_zero, List.set_cons_succ])
      refine wpAnyH_take (i := 9) (v := ?_) rfl (by kernel_rfl) (by kernel_rfl) (by kernel_rfl) (fun _ _ _ h => h) (Or.inl ⟨by rfl, ?_⟩) (by assumption) ?_; rotate_left; (focus (intro w hSw; (try dsimp only at hSw); go_simp; try with_reducible rfl)); (try simp only [Act.put, List.getElem_toArray, List.getElem_cons_succ, List.getElem_cons_zero, List.setIfInBounds_toArray, List.set_cons_zero, List.set_cons_succ])
      refine wpAnyH_ready (rs := [10]) (by kernel_rfl) (by simp) (AllReadyH.cons rfl (fun K hK => ?_) AllReadyH.nil); go_simp; (refine (rFind_all js ms _ _ a0 _ (HR.out.below (hHeld.2.2.2).bl (Nat.le_refl _))).mono ?_; rintro e w5 ⟨rfl, hb5⟩; rw [hfd]); go_wp2_with fail; refine hK.out _ _ ?_ (fun hHeld => ?_); (focus (first | exact HD.out _ R.out.drew | exact hHeld | exact HD.out _ (hHeld.2.2.2.next hb5))); clear hK K; (try simp only [Act.put, List.getElem_toArray, List.getElem_cons_succ, List.getElem_cons_zero, List.setIfInBounds_toArray, List.set_cons_zero, List.set_cons_succ])
      refine wpAnyH_take (i := 11) (v := ?_) rfl (by kernel_rfl) (by kernel_rfl) (by kernel_rfl) (fun _ _ _ h => h) (Or.inl ⟨by rfl, ?_⟩) (by assumption) ?_; rotate_left; (focus (intro w hSw; (try dsimp only at hSw); go_simp; try with_reducible rfl)); (try simp only [Act.put, List.getElem_toArray, List.getElem_cons_succ, List.getElem_cons_zero, List.setIfInBounds_toArray, List.set_cons_zero, List.set_cons_succ])
      refine wpAnyH_take (i := 12) (v := ?_) rfl (by kernel_rfl) (by kernel_rfl) (by kernel_rfl) (fun _ _ _ h => h) (Or.inl ⟨by rfl, ?_⟩) (by assumption) ?_; rotate_left; (focus (intro w hSw; (try dsimp only at hSw); go_simp; try with_reducible rfl)); (try simp only [Act.put, List.getElem_toArray, List.getElem_cons_succ, List.getElem_cons_zero, List.setIfInBounds_toArray, List.set_cons_zero, List.set_cons_succ])
      refine wpAnyH_done (by kernel_rfl) ?_ _
      refine NoPanic.normal ?_
      have R1 := Lib.hid hHeld.2.2.2
      clear hHeld hnm hfd hge hf0 HF R HD
      obtain ⟨kd, hkd⟩ : ∃ kd, kindK a1 = kd := ⟨_, rfl⟩
      have HK := kind_range a1
      rw [hkd] at HK
      have HKD := Lib.hid hkd
      have c1 := (R1.out.bl.cell (p := ⟨g, o + 1, none⟩) hg).trans (HU.out.word_at 1 (by simp)).2
      have d1 : _ = some (.int .i64 0 : Value) := R1.out.jo.cell 1
      have f1 := R1.out.jo.free 1
      go_wp2_with fail
      refine (rKindOf_any a1 _).mono ?_
      rintro e w6 ⟨rfl, rfl⟩
      rw [hkd]
      have R2 := Lib.hid (R1.out.set 1 (.int .i64 kd) (j' := ⟨a0, kd, 0, 0, 0, 0, 0, 0, 0, 65536, 65536, 65536⟩) rfl)
      clear hkd c1 R1
      have n1 : _ = some (.int .i64 kd : Value) := R2.out.jo.cell 1
      by_cases hk0 : kd < 0
      · have RE := R2
        have dk : decide (kd < 0) = true := decide_eq_true hk0
        go_wp2_with (first | (refine wpList_load_row rfl 60 _ rfl (w.heap.size + 1 + 1) rfl 60 _ (0, 0) _ RE.out.jo under_joint rfl info_joint ?_) | (refine wpList_store_row rfl 60 _ _ rfl (w.heap.size + 1) (jointC ⟨a0, kd, 0, 0, 0, 0, 0, 0, 0, 65536, 65536, 65536⟩) rfl rfl 60 (jointC zeroJ) RE.out.res info_joint rfl (joint_one _) ?_))
        (try simp only [Exit.inBlock, Exit.then])
        refine bodyPost_ret (v := .tuple #[.agg (jointC ⟨a0, kd, 0, 0, 0, 0, 0, 0, 0, 65536, 65536, 65536⟩), .int .i64 803]) (joint_res rfl _ _ _ _ _ _ RE.out.res rfl rfl) rfl ⟨⟨a0, kd, 0, 0, 0, 0, 0, 0, 0, 65536, 65536, 65536⟩, ?_, ?_, RE.out.done _⟩
        · rw [← HX2.out, if_pos (by rw [HKD.out]; exact hk0)]
        · rw [← HX2.out, if_pos (by rw [HKD.out]; exact hk0)]; intro h; cases h
      · have dk : decide (kd < 0) = false := decide_eq_false hk0
        have HX3 := Lib.hid ((if_neg (by rw [HKD.out]; exact hk0)).symm.trans HX2.out)
        clear HX2
        have d2 : _ = some (.int .i64 0 : Value) := R2.out.jo.cell 2
        have f2 := R2.out.jo.free 2
        have R3 := Lib.hid (R2.out.set 2 (.int .i64 (-1)) (j' := ⟨a0, kd, (-1), 0, 0, 0, 0, 0, 0, 65536, 65536, 65536⟩) rfl)
        have c2 := (R3.out.bl.cell (p := ⟨g, o + 2, none⟩) hg).trans (HU.out.word_at 2 (by simp)).2
        go_upto_if 42 with fail
        go_cut [] (fun wx => ∃ par : Int, RJ w (.slice Aj js.length cj) (.slice Am ms.length cm) wx ⟨a0, kd, par, 0, 0, 0, 0, 0, 0, 65536, 65536, 65536⟩ ∧ ((if numOk [a3, a4, a5, a6, a7] = false ∨ outB (intS (bts a8)) = false then 809 else 0 : Int) = E) ∧ JJ = ⟨a0, kd, par, outI (numS (bts a3)), outI (numS (bts a4)), outI (numS (bts a5)), outI (numS (bts a6)), outI (numS (bts a7)), outI (intS (bts a8)), 65536, 65536, 65536⟩)
        case first =>
          by_cases hw : a2 = worldB
          · have hs : (!a2.toList == ([119, 111, 114, 108, 100] : List UInt8)) = false := by rw [hw, ByteArray.toList_eq]; rfl
            have HW := Lib.hid hw
            clear hw d2 f2 c2
            go_wp2_with fail
            all_goals try (exact absurd (hs.symm.trans (by assumption : (!a2.toList == ([119, 111, 114, 108, 100] : List UInt8)) = true)) (by decide))
            go_meet
            exact ⟨-1, R3.out, (if_neg (fun h => h.1 HW.out)).symm.trans HX3.out, by rw [HJ.out, HKD.out, if_pos HW.out]⟩
          · have hs : (!a2.toList == ([119, 111, 114, 108, 100] : List UInt8)) = true := by have h := other_word hw; rw [show worldB.toList = ([119, 111, 114, 108, 100] : List UInt8) by rw [ByteArray.toList_eq]; rfl] at h; rw [h]; rfl
            have HW := Lib.hid hw
            clear hw d2 f2 c2
            obtain ⟨fd2, hfd⟩ : ∃ fd, findK js a2 = fd := ⟨_, rfl⟩
            have HF := find_range js a2
            rw [hfd] at HF
            have HFD := Lib.hid hfd
            have HD := Lib.hid (show ∀ W' p, RJ w (.slice Aj js.length cj) (.slice Am ms.length cm) W' ⟨a0, kd, p, 0, 0, 0, 0, 0, 0, 65536, 65536, 65536⟩ → (fun w' => w'.cell? ⟨w.heap.size, 0, none⟩ = some (.slice Aj js.length cj) ∧ w'.cell? ⟨w.heap.size, 1, none⟩ = some (.slice Am ms.length cm) ∧ w'.cell? ⟨g, o + 2, none⟩ = some (.string a2) ∧ ∃ p, RJ w (.slice Aj js.length cj) (.slice Am ms.length cm) w' ⟨a0, kd, p, 0, 0, 0, 0, 0, 0, 65536, 65536, 65536⟩) W' from fun W' p h => ⟨h.rob.c0, h.rob.c1, (h.bl.cell (p := ⟨g, o + 2, none⟩) hg).trans (HU.out.word_at 2 (by simp)).2, p, h⟩)
            go_wp2_with fail
            all_goals try (exact absurd (hs.symm.trans (by assumption : (!a2.toList == ([119, 111, 114, 108, 100] : List UInt8)) = false)) (by decide))
            refine wp_region_noPanic ?_
            refine wp_region_held_drew (S := (fun w' => w'.cell? ⟨w.heap.size, 0, none⟩ = some (.slice Aj js.length cj) ∧ w'.cell? ⟨w.heap.size, 1, none⟩ = some (.slice Am ms.length cm) ∧ w'.cell? ⟨g, o + 2, none⟩ = some (.string a2) ∧ ∃ p, RJ w (.slice Aj js.length cj) (.slice Am ms.length cm) w' ⟨a0, kd, p, 0, 0, 0, 0, 0, 0, 65536, 65536, 65536⟩)) (by kernel_rfl) ?_ (fun hHeld => ?_)
            focus (first | exact HD.out _ _ R3.out.drew | exact hHeld | exact HD.out _ _ RF.out | exact HD.out _ _ (RF.out.set 2 (.int .i64 fd2) (j' := ⟨a0, kd, fd2, 0, 0, 0, 0, 0, 0, 65536, 65536, 65536⟩) rfl))
            refine wpAnyH_take (i := 0) (v := ?_) rfl (by kernel_rfl) (by kernel_rfl) (by kernel_rfl) (fun _ _ _ h => h) (Or.inl ⟨by rfl, ?_⟩) (by assumption) ?_; rotate_left; (focus (intro w hSw; (try dsimp only at hSw); go_simp; try with_reducible rfl)); (try simp only [Act.put, List.getElem_toArray, List.getElem_cons_succ, List.getElem_cons_zero, List.setIfInBounds_toArray, List.set_cons_zero, List.set_cons_succ])
            refine wpAnyH_take (i := 1) (v := ?_) rfl (by kernel_rfl) (by kernel_rfl) (by kernel_rfl) (fun _ _ _ h => h) (Or.inl ⟨by rfl, ?_⟩) (by assumption) ?_; rotate_left; (focus (intro w hSw; (try dsimp only at hSw); go_simp; try with_reducible rfl)); (try simp only [Act.put, List.getElem_toArray, List.getElem_cons_succ, List.getElem_cons_zero, List.setIfInBounds_toArray, List.set_cons_zero, List.set_cons_succ])
            refine wpAnyH_take (i := 2) (v := ?_) rfl (by kernel_rfl) (by kernel_rfl) (by kernel_rfl) (fun _ _ _ h => h) (Or.inl ⟨by rfl, ?_⟩) (by assumption) ?_; rotate_left; (focus (intro w hSw; (try dsimp only at hSw); go_simp; try with_reducible rfl)); (try simp only [Act.put, List.getElem_toArray, List.getElem_cons_succ, List.getElem_cons_zero, List.setIfInBounds_toArray, List.set_cons_zero, List.set_cons_succ])
            refine wpAnyH_take (i := 3) (v := ?_) rfl (by kernel_rfl) (by kernel_rfl) (by kernel_rfl) (fun _ _ _ h => h) (Or.inl ⟨by rfl, ?_⟩) (by assumption) ?_; rotate_left; (focus (intro w hSw; (try dsimp only at hSw); go_simp; try with_reducible rfl)); (try simp only [Act.put, List.getElem_toArray, List.getElem_cons_succ, List.getElem_cons_zero, List.setIfInBounds_toArray, List.set_cons_zero, List.set_cons_succ])
            refine wpAnyH_ready (rs := [4]) (by kernel_rfl) (by simp) (AllReadyH.cons rfl (fun K hK => ?_) AllReadyH.nil); go_simp; (refine (rFind_all js ms _ _ a2 _ (HR.out.below (R3.out.drew).bl (Nat.le_refl _))).mono ?_; rintro e w7 ⟨rfl, hb7⟩; rw [hfd]; have RF := Lib.hid ((R3.out.drew).next hb7); clear hb7; have e2 : _ = some (.int .i64 (-1) : Value) := RF.out.jo.cell 2; have f2 := RF.out.jo.free 2); go_wp2_with fail; refine hK.out _ _ ?_ (fun hHeld => ?_); (focus (first | exact HD.out _ _ R3.out.drew | exact hHeld | exact HD.out _ _ RF.out | exact HD.out _ _ (RF.out.set 2 (.int .i64 fd2) (j' := ⟨a0, kd, fd2, 0, 0, 0, 0, 0, 0, 65536, 65536, 65536⟩) rfl))); clear hK K; (try simp only [Act.put, List.getElem_toArray, List.getElem_cons_succ, List.getElem_cons_zero, List.setIfInBounds_toArray, List.set_cons_zero, List.set_cons_succ])
            refine wpAnyH_take (i := 5) (v := ?_) rfl (by kernel_rfl) (by kernel_rfl) (by kernel_rfl) (fun _ _ _ h => h) (Or.inl ⟨by rfl, ?_⟩) (by assumption) ?_; rotate_left; (focus (intro w hSw; (try dsimp only at hSw); go_simp; try with_reducible rfl)); (try simp only [Act.put, List.getElem_toArray, List.getElem_cons_succ, List.getElem_cons_zero, List.setIfInBounds_toArray, List.set_cons_zero, List.set_cons_succ])
            refine wpAnyH_ready (rs := [6]) (by kernel_rfl) (by simp) (AllReadyH.cons rfl (fun K hK => ?_) AllReadyH.nil); go_simp; refine hK.out _ _ ?_ (fun hHeld => ?_); (focus (first | exact HD.out _ _ R3.out.drew | exact hHeld | exact HD.out _ _ RF.out | exact HD.out _ _ (RF.out.set 2 (.int .i64 fd2) (j' := ⟨a0, kd, fd2, 0, 0, 0, 0, 0, 0, 65536, 65536, 65536⟩) rfl))); clear hK K; (try simp only [Act.put, List.getElem_toArray, List.getElem_cons_succ, List.getElem_cons_zero, List.setIfInBounds_toArray, List.set_cons_zero, List.set_cons_succ])
            refine wpAnyH_done (by kernel_rfl) ?_ _
            refine NoPanic.normal ?_
            have R4 := Lib.hid (RF.out.set 2 (.int .i64 fd2) (j' := ⟨a0, kd, fd2, 0, 0, 0, 0, 0, 0, 65536, 65536, 65536⟩) rfl)
            clear hHeld e2 f2 HD hfd
            have n2 : _ = some (.int .i64 fd2 : Value) := R4.out.jo.cell 2
            by_cases hf0 : fd2 < 0
            · have hge : decide (fd2 < 0) = true := decide_eq_true hf0
              have RE := R4
              go_wp2_with (first | (refine wpList_load_row rfl 60 _ rfl (w.heap.size + 1 + 1) rfl 60 _ (0, 0) _ RE.out.jo under_joint rfl info_joint ?_) | (refine wpList_store_row rfl 60 _ _ rfl (w.heap.size + 1) (jointC ⟨a0, kd, fd2, 0, 0, 0, 0, 0, 0, 65536, 65536, 65536⟩) rfl rfl 60 (jointC zeroJ) RE.out.res info_joint rfl (joint_one _) ?_))
              (try simp only [Exit.inBlock, Exit.then])
              refine bodyPost_ret (v := .tuple #[.agg (jointC ⟨a0, kd, fd2, 0, 0, 0, 0, 0, 0, 65536, 65536, 65536⟩), .int .i64 810]) (joint_res rfl _ _ _ _ _ _ RE.out.res rfl rfl) rfl ⟨⟨a0, kd, fd2, 0, 0, 0, 0, 0, 0, 65536, 65536, 65536⟩, ?_, ?_, RE.out.done _⟩
              · rw [← HX3.out, if_pos ⟨HW.out, by rw [HFD.out]; exact hf0⟩]
              · rw [← HX3.out, if_pos ⟨HW.out, by rw [HFD.out]; exact hf0⟩]; intro h; cases h
            · have hge : decide (fd2 < 0) = false := decide_eq_false hf0
              go_wp2_with fail
              go_meet
              exact ⟨fd2, R4.out, (if_neg (fun h => by have h2 := h.2; rw [HFD.out] at h2; omega)).symm.trans HX3.out, by rw [HJ.out, HKD.out, if_neg HW.out, HFD.out]⟩
        case rest =>
          obtain ⟨par, hR, hx, hj⟩ := hcut
          clear n1 d2 f2 c2 dk R2 R3 HX3
          have R := Lib.hid hR
          have HX4 := Lib.hid hx
          have HJ4 := Lib.hid hj
          clear hR hx hj
          obtain ⟨nok, hnok⟩ : ∃ b, numOk [a3, a4, a5, a6, a7] = b := ⟨_, rfl⟩
          obtain ⟨wt, hwt⟩ : ∃ x, outI (intS (bts a8)) = x := ⟨_, rfl⟩
          obtain ⟨isn, his⟩ : ∃ x, outB (intS (bts a8)) = x := ⟨_, rfl⟩
          obtain ⟨n0, hn0⟩ : ∃ x, outI (numS (bts a3)) = x := ⟨_, rfl⟩
          obtain ⟨n1, hn1⟩ : ∃ x, outI (numS (bts a4)) = x := ⟨_, rfl⟩
          obtain ⟨n2, hn2⟩ : ∃ x, outI (numS (bts a5)) = x := ⟨_, rfl⟩
          obtain ⟨n3, hn3⟩ : ∃ x, outI (numS (bts a6)) = x := ⟨_, rfl⟩
          obtain ⟨n4, hn4⟩ : ∃ x, outI (numS (bts a7)) = x := ⟨_, rfl⟩
          rw [hnok, his] at HX4
          rw [hwt, hn0, hn1, hn2, hn3, hn4] at HJ4
          go_wp2_with fail
          refine (rNumbers_any _ [a3, a4, a5, a6, a7] _ ((HU.out.rest 3 5 _ (by simp) (by omega)).below R.out.bl (Nat.le_refl _)) (fun s hs => HS.out s (by simp at hs ⊢; rcases hs with h | h | h | h | h <;> simp [h]))).mono ?_
          rintro e V ⟨v, rfl, hok1, hok0, hb⟩
          rw [hnok] at hok1 hok0 ⊢
          have RV := Lib.hid (R.out.next hb)
          have hq0 := R.out.jo.lt
          have c8 := (RV.out.bl.cell (p := ⟨g, o + 8, none⟩) hg).trans (HU.out.word_at 8 (by simp)).2
          clear hb hnok
          cases nok with
          | false =>
            have hv := hok0 rfl
            subst hv
            clear hok0 hok1
            go_wp2_with fail
            refine (rInteger_any a8 _ (HS.out a8 (by simp))).mono ?_
            rintro e w8 ⟨rfl, rfl⟩
            rw [hwt, his]
            have RE := RV
            go_wp2_with (first | (refine wpList_load_row rfl 60 _ rfl (w.heap.size + 1 + 1) rfl 60 _ (0, 0) _ RE.out.jo under_joint rfl info_joint ?_) | (refine wpList_store_row rfl 60 _ _ rfl (w.heap.size + 1) (jointC ⟨a0, kd, par, 0, 0, 0, 0, 0, 0, 65536, 65536, 65536⟩) rfl rfl 60 (jointC zeroJ) RE.out.res info_joint rfl (joint_one _) ?_))
            (try simp only [Exit.inBlock, Exit.then])
            refine bodyPost_ret (v := .tuple #[.agg (jointC ⟨a0, kd, par, 0, 0, 0, 0, 0, 0, 65536, 65536, 65536⟩), .int .i64 809]) (joint_res rfl _ _ _ _ _ _ RE.out.res rfl rfl) rfl ⟨⟨a0, kd, par, 0, 0, 0, 0, 0, 0, 65536, 65536, 65536⟩, ?_, ?_, RE.out.done _⟩
            · rw [← HX4.out, if_pos (by simp)]
            · rw [← HX4.out, if_pos (by simp)]; intro h; cases h
          | true =>
            have own := hok1 rfl
            clear hok0 hok1
            rcases own.2 with ⟨_, h0⟩ | ⟨q, cap, cur, hv, hbq, hcur, hcap, hcm, _, _⟩
            · cases h0
            subst hv
            have G0 : ∀ w' : World, w'.heap[q]? = V.heap[q]? → w'.cell? ⟨q, 0, none⟩ = some (.int .i64 n0) := fun w' h => by rw [World.cell?_of_block (w := V) h, own.cellAt 0 (by simp), ← hn0]; rfl
            have G1 : ∀ w' : World, w'.heap[q]? = V.heap[q]? → w'.cell? ⟨q, 1, none⟩ = some (.int .i64 n1) := fun w' h => by rw [World.cell?_of_block (w := V) h, own.cellAt 1 (by simp), ← hn1]; rfl
            have G2 : ∀ w' : World, w'.heap[q]? = V.heap[q]? → w'.cell? ⟨q, 2, none⟩ = some (.int .i64 n2) := fun w' h => by rw [World.cell?_of_block (w := V) h, own.cellAt 2 (by simp), ← hn2]; rfl
            have G3 : ∀ w' : World, w'.heap[q]? = V.heap[q]? → w'.cell? ⟨q, 3, none⟩ = some (.int .i64 n3) := fun w' h => by rw [World.cell?_of_block (w := V) h, own.cellAt 3 (by simp), ← hn3]; rfl
            have G4 : ∀ w' : World, w'.heap[q]? = V.heap[q]? → w'.cell? ⟨q, 4, none⟩ = some (.int .i64 n4) := fun w' h => by rw [World.cell?_of_block (w := V) h, own.cellAt 4 (by simp), ← hn4]; rfl
            have HD := Lib.hid (show ∀ W' : World, W'.heap[q]? = V.heap[q]? → (fun w' => w'.cell? ⟨q, 0, none⟩ = some (.int .i64 n0) ∧ w'.cell? ⟨q, 1, none⟩ = some (.int .i64 n1) ∧ w'.cell? ⟨q, 2, none⟩ = some (.int .i64 n2) ∧ w'.cell? ⟨q, 3, none⟩ = some (.int .i64 n3) ∧ w'.cell? ⟨q, 4, none⟩ = some (.int .i64 n4) ∧ w'.heap[q]? = V.heap[q]?) W' from fun W' h => ⟨G0 W' h, G1 W' h, G2 W' h, G3 W' h, G4 W' h, h⟩)
            clear own hcur hn0 hn1 hn2 hn3 hn4 G0 G1 G2 G3 G4
            go_wp2_with fail
            refine (rInteger_any a8 _ (HS.out a8 (by simp))).mono ?_
            rintro e w8 ⟨rfl, rfl⟩
            rw [hwt, his]
            clear hwt his
            cases isn with
            | false =>
              have RE := RV
              go_wp2_with (first | (refine wpList_load_row rfl 60 _ rfl (w.heap.size + 1 + 1) rfl 60 _ (0, 0) _ RE.out.jo under_joint rfl info_joint ?_) | (refine wpList_store_row rfl 60 _ _ rfl (w.heap.size + 1) (jointC ⟨a0, kd, par, 0, 0, 0, 0, 0, 0, 65536, 65536, 65536⟩) rfl rfl 60 (jointC zeroJ) RE.out.res info_joint rfl (joint_one _) ?_))
              (try simp only [Exit.inBlock, Exit.then])
              refine bodyPost_ret (v := .tuple #[.agg (jointC ⟨a0, kd, par, 0, 0, 0, 0, 0, 0, 65536, 65536, 65536⟩), .int .i64 809]) (joint_res rfl _ _ _ _ _ _ RE.out.res rfl rfl) rfl ⟨⟨a0, kd, par, 0, 0, 0, 0, 0, 0, 65536, 65536, 65536⟩, ?_, ?_, RE.out.done _⟩
              · rw [← HX4.out, if_pos (by simp)]
              · rw [← HX4.out, if_pos (by simp)]; intro h; cases h
            | true =>
              have d3 : _ = some (.int .i64 0 : Value) := RV.out.jo.cell 3
              have f3 := RV.out.jo.free 3
              have d4 : _ = some (.int .i64 0 : Value) := RV.out.jo.cell 4
              have f4 := RV.out.jo.free 4
              have d5 : _ = some (.int .i64 0 : Value) := RV.out.jo.cell 5
              have f5 := RV.out.jo.free 5
              have d6 : _ = some (.int .i64 0 : Value) := RV.out.jo.cell 6
              have f6 := RV.out.jo.free 6
              have d7 : _ = some (.int .i64 0 : Value) := RV.out.jo.cell 7
              have f7 := RV.out.jo.free 7
              have d8 : _ = some (.int .i64 0 : Value) := RV.out.jo.cell 8
              have f8 := RV.out.jo.free 8
              go_wp2_with fail
              refine wp_region_noPanic ?_
              refine wp_region_held_drew (S := (fun w' => w'.cell? ⟨q, 0, none⟩ = some (.int .i64 n0) ∧ w'.cell? ⟨q, 1, none⟩ = some (.int .i64 n1) ∧ w'.cell? ⟨q, 2, none⟩ = some (.int .i64 n2) ∧ w'.cell? ⟨q, 3, none⟩ = some (.int .i64 n3) ∧ w'.cell? ⟨q, 4, none⟩ = some (.int .i64 n4) ∧ w'.heap[q]? = V.heap[q]?)) (by kernel_rfl) ?_ (fun hHeld => ?_)
              focus (refine HD.out _ ?_; (try rw [show ∀ W : World, W.drew.heap = W.heap from fun _ => rfl]); (repeat (with_reducible refine (heap_setCell_other _ _ _ _ (by dsimp only; omega)).trans ?_)); (try exact rfl))
              refine wpAnyH_take (i := 0) (v := ?_) rfl (by kernel_rfl) (by kernel_rfl) (by kernel_rfl) (fun _ _ _ h => h) (Or.inl ⟨by rfl, ?_⟩) (by assumption) ?_; rotate_left; (focus (intro w hSw; (try dsimp only at hSw); go_simp; try with_reducible rfl)); (try simp only [Act.put, List.getElem_toArray, List.getElem_cons_succ, List.getElem_cons_zero, List.setIfInBounds_toArray, List.set_cons_zero, List.set_cons_succ])
              refine wpAnyH_take (i := 1) (v := ?_) rfl (by kernel_rfl) (by kernel_rfl) (by kernel_rfl) (fun _ _ _ h => h) (Or.inl ⟨by rfl, ?_⟩) (by assumption) ?_; rotate_left; (focus (intro w hSw; (try dsimp only at hSw); go_simp; try with_reducible rfl)); (try simp only [Act.put, List.getElem_toArray, List.getElem_cons_succ, List.getElem_cons_zero, List.setIfInBounds_toArray, List.set_cons_zero, List.set_cons_succ])
              refine wpAnyH_take (i := 2) (v := ?_) rfl (by kernel_rfl) (by kernel_rfl) (by kernel_rfl) (fun _ _ _ h => h) (Or.inl ⟨by rfl, ?_⟩) (by assumption) ?_; rotate_left; (focus (intro w hSw; (try dsimp only at hSw); go_simp; try with_reducible rfl)); (try simp only [Act.put, List.getElem_toArray, List.getElem_cons_succ, List.getElem_cons_zero, List.setIfInBounds_toArray, List.set_cons_zero, List.set_cons_succ])
              refine wpAnyH_take (i := 3) (v := ?_) rfl (by kernel_rfl) (by kernel_rfl) (by kernel_rfl) (fun _ _ _ h => h) (Or.inl ⟨by rfl, ?_⟩) (by assumption) ?_; rotate_left; (focus (intro w hSw; (try dsimp only at hSw); go_simp; try with_reducible rfl)); (try simp only [Act.put, List.getElem_toArray, List.getElem_cons_succ, List.getElem_cons_zero, List.setIfInBounds_toArray, List.set_cons_zero, List.set_cons_succ])
              refine wpAnyH_take (i := 4) (v := ?_) rfl (by kernel_rfl) (by kernel_rfl) (by kernel_rfl) (fun _ _ _ h => h) (Or.inl ⟨by rfl, ?_⟩) (by assumption) ?_; rotate_left; (focus (intro w hSw; (try dsimp only at hSw); go_simp; try with_reducible rfl)); (try simp only [Act.put, List.getElem_toArray, List.getElem_cons_succ, List.getElem_cons_zero, List.setIfInBounds_toArray, List.set_cons_zero, List.set_cons_succ])
              refine wpAnyH_take (i := 5) (v := ?_) rfl (by kernel_rfl) (by kernel_rfl) (by kernel_rfl) (fun _ _ _ h => h) (Or.inl ⟨by rfl, ?_⟩) (by assumption) ?_; rotate_left; (focus (intro w hSw; (try dsimp only at hSw); go_simp; try with_reducible rfl)); (try simp only [Act.put, List.getElem_toArray, List.getElem_cons_succ, List.getElem_cons_zero, List.setIfInBounds_toArray, List.set_cons_zero, List.set_cons_succ])
              refine wpAnyH_take (i := 6) (v := ?_) rfl (by kernel_rfl) (by kernel_rfl) (by kernel_rfl) (fun _ _ _ h => h) (Or.inl ⟨by rfl, ?_⟩) (by assumption) ?_; rotate_left; (focus (intro w hSw; (try dsimp only at hSw); go_simp; try with_reducible rfl)); (try simp only [Act.put, List.getElem_toArray, List.getElem_cons_succ, List.getElem_cons_zero, List.setIfInBounds_toArray, List.set_cons_zero, List.set_cons_succ])
              refine wpAnyH_take (i := 7) (v := ?_) rfl (by kernel_rfl) (by kernel_rfl) (by kernel_rfl) (fun _ _ _ h => h) (Or.inl ⟨by rfl, ?_⟩) (by assumption) ?_; rotate_left; (focus (intro w hSw; (try dsimp only at hSw); go_simp; try with_reducible rfl)); (try simp only [Act.put, List.getElem_toArray, List.getElem_cons_succ, List.getElem_cons_zero, List.setIfInBounds_toArray, List.set_cons_zero, List.set_cons_succ])
              refine wpAnyH_take (i := 8) (v := ?_) rfl (by kernel_rfl) (by kernel_rfl) (by kernel_rfl) (fun _ _ _ h => h) (Or.inl ⟨by rfl, ?_⟩) (by assumption) ?_; rotate_left; (focus (intro w hSw; (try dsimp only at hSw); go_simp; try with_reducible rfl)); (try simp only [Act.put, List.getElem_toArray, List.getElem_cons_succ, List.getElem_cons_zero, List.setIfInBounds_toArray, List.set_cons_zero, List.set_cons_succ])
              refine wpAnyH_take (i := 9) (v := ?_) rfl (by kernel_rfl) (by kernel_rfl) (by kernel_rfl) (fun _ _ _ h => h) (Or.inl ⟨by rfl, ?_⟩) (by assumption) ?_; rotate_left; (focus (intro w hSw; (try dsimp only at hSw); go_simp; try with_reducible rfl)); (try simp only [Act.put, List.getElem_toArray, List.getElem_cons_succ, List.getElem_cons_zero, List.setIfInBounds_toArray, List.set_cons_zero, List.set_cons_succ])
              refine wpAnyH_take (i := 10) (v := ?_) rfl (by kernel_rfl) (by kernel_rfl) (by kernel_rfl) (fun _ _ _ h => h) (Or.inl ⟨by rfl, ?_⟩) (by assumption) ?_; rotate_left; (focus (intro w hSw; (try dsimp only at hSw); go_simp; try with_reducible rfl)); (try simp only [Act.put, List.getElem_toArray, List.getElem_cons_succ, List.getElem_cons_zero, List.setIfInBounds_toArray, List.set_cons_zero, List.set_cons_succ])
              refine wpAnyH_take (i := 11) (v := ?_) rfl (by kernel_rfl) (by kernel_rfl) (by kernel_rfl) (fun _ _ _ h => h) (Or.inl ⟨by rfl, ?_⟩) (by assumption) ?_; rotate_left; (focus (intro w hSw; (try dsimp only at hSw); go_simp; try with_reducible rfl)); (try simp only [Act.put, List.getElem_toArray, List.getElem_cons_succ, List.getElem_cons_zero, List.setIfInBounds_toArray, List.set_cons_zero, List.set_cons_succ])
              refine wpAnyH_take (i := 12) (v := ?_) rfl (by kernel_rfl) (by kernel_rfl) (by kernel_rfl) (fun _ _ _ h => h) (Or.inl ⟨by rfl, ?_⟩) (by assumption) ?_; rotate_left; (focus (intro w hSw; (try dsimp only at hSw); go_simp; try with_reducible rfl)); (try simp only [Act.put, List.getElem_toArray, List.getElem_cons_succ, List.getElem_cons_zero, List.setIfInBounds_toArray, List.set_cons_zero, List.set_cons_succ])
              refine wpAnyH_take (i := 13) (v := ?_) rfl (by kernel_rfl) (by kernel_rfl) (by kernel_rfl) (fun _ _ _ h => h) (Or.inl ⟨by rfl, ?_⟩) (by assumption) ?_; rotate_left; (focus (intro w hSw; (try dsimp only at hSw); go_simp; try with_reducible rfl)); (try simp only [Act.put, List.getElem_toArray, List.getElem_cons_succ, List.getElem_cons_zero, List.setIfInBounds_toArray, List.set_cons_zero, List.set_cons_succ])
              refine wpAnyH_take (i := 14) (v := ?_) rfl (by kernel_rfl) (by kernel_rfl) (by kernel_rfl) (fun _ _ _ h => h) (Or.inl ⟨by rfl, ?_⟩) (by assumption) ?_; rotate_left; (focus (intro w hSw; (try dsimp only at hSw); go_simp; try with_reducible rfl)); (try simp only [Act.put, List.getElem_toArray, List.getElem_cons_succ, List.getElem_cons_zero, List.setIfInBounds_toArray, List.set_cons_zero, List.set_cons_succ])
              refine wpAnyH_take (i := 15) (v := ?_) rfl (by kernel_rfl) (by kernel_rfl) (by kernel_rfl) (fun _ _ _ h => h) (Or.inl ⟨by rfl, ?_⟩) (by assumption) ?_; rotate_left; (focus (intro w hSw; (try dsimp only at hSw); go_simp; try with_reducible rfl)); (try simp only [Act.put, List.getElem_toArray, List.getElem_cons_succ, List.getElem_cons_zero, List.setIfInBounds_toArray, List.set_cons_zero, List.set_cons_succ])
              refine wpAnyH_take (i := 16) (v := ?_) rfl (by kernel_rfl) (by kernel_rfl) (by kernel_rfl) (fun _ _ _ h => h) (Or.inl ⟨by rfl, ?_⟩) (by assumption) ?_; rotate_left; (focus (intro w hSw; (try dsimp only at hSw); go_simp; try with_reducible rfl)); (try simp only [Act.put, List.getElem_toArray, List.getElem_cons_succ, List.getElem_cons_zero, List.setIfInBounds_toArray, List.set_cons_zero, List.set_cons_succ])
              refine wpAnyH_take (i := 17) (v := ?_) rfl (by kernel_rfl) (by kernel_rfl) (by kernel_rfl) (fun _ _ _ h => h) (Or.inl ⟨by rfl, ?_⟩) (by assumption) ?_; rotate_left; (focus (intro w hSw; (try dsimp only at hSw); go_simp; try with_reducible rfl)); (try simp only [Act.put, List.getElem_toArray, List.getElem_cons_succ, List.getElem_cons_zero, List.setIfInBounds_toArray, List.set_cons_zero, List.set_cons_succ])
              refine wpAnyH_ready (rs := [18]) (by kernel_rfl) (by simp) (AllReadyH.cons rfl (fun K hK => ?_) AllReadyH.nil); go_simp; refine hK.out _ _ ?_ (fun hHeld => ?_); (focus (refine HD.out _ ?_; (try rw [show ∀ W : World, W.drew.heap = W.heap from fun _ => rfl]); (repeat (with_reducible refine (heap_setCell_other _ _ _ _ (by dsimp only; omega)).trans ?_)); (try exact rfl))); clear hK K; (try simp only [Act.put, List.getElem_toArray, List.getElem_cons_succ, List.getElem_cons_zero, List.setIfInBounds_toArray, List.set_cons_zero, List.set_cons_succ])
              refine wpAnyH_take (i := 19) (v := ?_) rfl (by kernel_rfl) (by kernel_rfl) (by kernel_rfl) (fun _ _ _ h => h) (Or.inl ⟨by rfl, ?_⟩) (by assumption) ?_; rotate_left; (focus (intro w hSw; (try dsimp only at hSw); go_simp; try with_reducible rfl)); (try simp only [Act.put, List.getElem_toArray, List.getElem_cons_succ, List.getElem_cons_zero, List.setIfInBounds_toArray, List.set_cons_zero, List.set_cons_succ])
              refine wpAnyH_ready (rs := [20]) (by kernel_rfl) (by simp) (AllReadyH.cons rfl (fun K hK => ?_) AllReadyH.nil); go_simp; refine hK.out _ _ ?_ (fun hHeld => ?_); (focus (refine HD.out _ ?_; (try rw [show ∀ W : World, W.drew.heap = W.heap from fun _ => rfl]); (repeat (with_reducible refine (heap_setCell_other _ _ _ _ (by dsimp only; omega)).trans ?_)); (try exact rfl))); clear hK K; (try simp only [Act.put, List.getElem_toArray, List.getElem_cons_succ, List.getElem_cons_zero, List.setIfInBounds_toArray, List.set_cons_zero, List.set_cons_succ])
              refine wpAnyH_take (i := 21) (v := ?_) rfl (by kernel_rfl) (by kernel_rfl) (by kernel_rfl) (fun _ _ _ h => h) (Or.inl ⟨by rfl, ?_⟩) (by assumption) ?_; rotate_left; (focus (intro w hSw; (try dsimp only at hSw); go_simp; try with_reducible rfl)); (try simp only [Act.put, List.getElem_toArray, List.getElem_cons_succ, List.getElem_cons_zero, List.setIfInBounds_toArray, List.set_cons_zero, List.set_cons_succ])
              refine wpAnyH_ready (rs := [22]) (by kernel_rfl) (by simp) (AllReadyH.cons rfl (fun K hK => ?_) AllReadyH.nil); go_simp; refine hK.out _ _ ?_ (fun hHeld => ?_); (focus (refine HD.out _ ?_; (try rw [show ∀ W : World, W.drew.heap = W.heap from fun _ => rfl]); (repeat (with_reducible refine (heap_setCell_other _ _ _ _ (by dsimp only; omega)).trans ?_)); (try exact rfl))); clear hK K; (try simp only [Act.put, List.getElem_toArray, List.getElem_cons_succ, List.getElem_cons_zero, List.setIfInBounds_toArray, List.set_cons_zero, List.set_cons_succ])
              refine wpAnyH_take (i := 23) (v := ?_) rfl (by kernel_rfl) (by kernel_rfl) (by kernel_rfl) (fun _ _ _ h => h) (Or.inl ⟨by rfl, ?_⟩) (by assumption) ?_; rotate_left; (focus (intro w hSw; (try dsimp only at hSw); go_simp; try with_reducible rfl)); (try simp only [Act.put, List.getElem_toArray, List.getElem_cons_succ, List.getElem_cons_zero, List.setIfInBounds_toArray, List.set_cons_zero, List.set_cons_succ])
              refine wpAnyH_ready (rs := [24]) (by kernel_rfl) (by simp) (AllReadyH.cons rfl (fun K hK => ?_) AllReadyH.nil); go_simp; refine hK.out _ _ ?_ (fun hHeld => ?_); (focus (refine HD.out _ ?_; (try rw [show ∀ W : World, W.drew.heap = W.heap from fun _ => rfl]); (repeat (with_reducible refine (heap_setCell_other _ _ _ _ (by dsimp only; omega)).trans ?_)); (try exact rfl))); clear hK K; (try simp only [Act.put, List.getElem_toArray, List.getElem_cons_succ, List.getElem_cons_zero, List.setIfInBounds_toArray, List.set_cons_zero, List.set_cons_succ])
              refine wpAnyH_done (by kernel_rfl) ?_ _
              refine NoPanic.normal ?_
              have RE := Lib.hid ((((((RV.out.set 3 (.int .i64 n0) (j' := ⟨a0, kd, par, n0, 0, 0, 0, 0, 0, 65536, 65536, 65536⟩) rfl).set 4 (.int .i64 n1) (j' := ⟨a0, kd, par, n0, n1, 0, 0, 0, 0, 65536, 65536, 65536⟩) rfl).set 5 (.int .i64 n2) (j' := ⟨a0, kd, par, n0, n1, n2, 0, 0, 0, 65536, 65536, 65536⟩) rfl).set 6 (.int .i64 n3) (j' := ⟨a0, kd, par, n0, n1, n2, n3, 0, 0, 65536, 65536, 65536⟩) rfl).set 7 (.int .i64 n4) (j' := ⟨a0, kd, par, n0, n1, n2, n3, n4, 0, 65536, 65536, 65536⟩) rfl).set 8 (.int .i64 wt) (j' := ⟨a0, kd, par, n0, n1, n2, n3, n4, wt, 65536, 65536, 65536⟩) rfl).drew
              clear hHeld d3 f3 d4 f4 d5 f5 d6 f6 d7 f7 d8 f8
              go_wp2_with (first | (refine wpList_load_row rfl 60 _ rfl (w.heap.size + 1 + 1) rfl 60 _ (0, 0) _ RE.out.jo under_joint rfl info_joint ?_) | (refine wpList_store_row rfl 60 _ _ rfl (w.heap.size + 1) (jointC ⟨a0, kd, par, n0, n1, n2, n3, n4, wt, 65536, 65536, 65536⟩) rfl rfl 60 (jointC zeroJ) RE.out.res info_joint rfl (joint_one _) ?_))
              (try simp only [Exit.inBlock, Exit.then])
              refine bodyPost_ret (v := .tuple #[.agg (jointC ⟨a0, kd, par, n0, n1, n2, n3, n4, wt, 65536, 65536, 65536⟩), .int .i64 0]) (joint_res rfl _ _ _ _ _ _ RE.out.res rfl rfl) rfl ⟨⟨a0, kd, par, n0, n1, n2, n3, n4, wt, 65536, 65536, 65536⟩, ?_, ?_, RE.out.done _⟩
              · rw [← HX4.out, if_neg (by simp)]
              · exact fun _ => HJ4.out.symm
end Go.Proofs.YtpaiapcnoifpmaaDoor
