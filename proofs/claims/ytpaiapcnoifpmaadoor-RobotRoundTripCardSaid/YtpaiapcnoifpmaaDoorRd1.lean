/- Proved: the statements' own change of a made robot gives some robot of at most eleven joints and 33 masses, in memory of its own. Conditions: as the theorem states. -/
import Derived.Test.YtpaiapcnoifpmaaDoorApp
import Derived.Deep.CutRange
import Derived.Deep.DeepCutAuto
namespace Go.Proofs.YtpaiapcnoifpmaaDoor
open Go.RowKit

theorem round_as (n k r : Int) (w : World) (hk : 0 < k) (hk2 : k ≤ 9223372036854775807) (hn : I64 n) (hr : n % k = r) :
    Calls Tryd.prog 16 #[ .int .i64 n, .int .i64 k ] w fun e w' => e = .returned (.int .i64 r) ∧ w' = w := by
  subst hr
  exact (Round_any n k w hk hk2 hn.1 hn.2).mono fun e w' h => ⟨h.1, h.2.symm⟩
theorem mod_nat {n : Int} {k : Nat} (hk : 0 < k) : ∃ m : Nat, n % (k : Int) = (m : Int) ∧ m < k := by
  have h1 := Int.emod_nonneg n (show (k : Int) ≠ 0 by omega)
  have h2 := Int.emod_lt_of_pos n (show (0 : Int) < k by omega)
  exact ⟨(n % (k : Int)).toNat, by omega, by omega⟩
def nearC : Array Value := #[.int .i64 (-1), .int .i64 0, .int .i64 1, .int .i64 4194304, .int .i64 4194305, .int .i64 (-4194305), .int .i64 524288, .int .i64 524289, .int .i64 1099511627776]
theorem near_cell (m : Nat) (h : m < 9) : ∃ x : Int, nearC[m]? = some (.int .i64 x) ∧ -1099511627776 ≤ x ∧ x ≤ 1099511627776 := by
  rcases (show m = 0 ∨ m = 1 ∨ m = 2 ∨ m = 3 ∨ m = 4 ∨ m = 5 ∨ m = 6 ∨ m = 7 ∨ m = 8 by omega) with rfl | rfl | rfl | rfl | rfl | rfl | rfl | rfl | rfl
  all_goals exact ⟨_, rfl, by decide, by decide⟩
theorem dec_two {n j : Nat} (h : DecLen n 1 j) (hn : n < 100) : j ≤ 2 := by
  rcases h.2.2 with h1 | ⟨h1, h2⟩
  · omega
  · rcases Nat.lt_or_ge j 3 with h3 | h3
    · omega
    · have := Nat.pow_le_pow_right (n := 10) (by decide) (show 2 ≤ j - 1 by omega)
      omega
theorem in_q (b : ByteArray) : InJ ⟨b, 0, -1, 0, 0, 0, 0, 0, 1, 1, 1, 1⟩ := by
  refine ⟨?_, ?_, ?_, ?_, ?_, ?_, ?_, ?_, ?_, ?_, ?_⟩ <;> (unfold I64; dsimp only; omega)
def lenM (O : Nat) (W : World) : Nat := match W.cell? ⟨O, 1, none⟩ with
  | some (.slice _ n _) => n
  | _ => 0
theorem lenM_of {O n c : Nat} {W : World} {q : Option Addr} (h : W.cell? ⟨O, 1, none⟩ = some (.slice q n c)) : lenM O W = n := by unfold lenM; rw [h]
def lenJ (O : Nat) (W : World) : Nat := match W.cell? ⟨O, 0, none⟩ with
  | some (.slice _ n _) => n
  | _ => 0
theorem lenJ_of {O n c : Nat} {W : World} {q : Option Addr} (h : W.cell? ⟨O, 0, none⟩ = some (.slice q n c)) : lenJ O W = n := by unfold lenJ; rw [h]
def Rob8 (w : World) : Ending → World → Prop := fun e w' => ∃ vj vm js ms, e = .returned (.agg #[vj, vm]) ∧ RobD w' vj vm js ms ∧ 1 ≤ js.length ∧ js.length ≤ 11 ∧ ms.length ≤ 33 ∧ Below w.heap.size w w'
theorem news_rdO {W : World} {v : Value} {n size : Nat} {xs : List Value} (h : RdO W v n size xs) (hl : xs.length = n * size) (hs : 0 < size) : ∃ A c, v = .slice A n c ∧ ∀ V, Below W.heap.size W V → (0 < n → ∃ ad, A = some ad ∧ ∀ j u, xs[j]? = some u → V.cell? (ad.add j) = some u) := by
  obtain ⟨A, c, hv, hc0, hk0⟩ := id h
  refine ⟨A, c, hv, fun V hb hn => ?_⟩
  obtain ⟨A', c', hv', _, hk⟩ := h.below hb (Nat.le_refl _)
  rw [hv] at hv'
  injection hv' with hv1 _ _
  subst hv1
  obtain ⟨g, o, rfl, _, _⟩ := hk 0 (Nat.mul_pos hn hs)
  refine ⟨⟨g, o, none⟩, rfl, fun j u hu => ?_⟩
  have hj : j < n * size := by rw [← hl]; exact (List.getElem?_eq_some_iff.1 hu).1
  obtain ⟨g', o', hA, _, hc⟩ := hk j hj
  injection hA with hA
  injection hA with e1 e2 _
  subst e1 e2
  have e : (⟨g, o, none⟩ : Addr).add j = ⟨g, o + j, none⟩ := by unfold Addr.add; split <;> simp_all
  rw [e, hc, hu]
/-- What a change begins with: the robot's box, the result's block. -/
structure XB (w : World) (vj vm : Value) (W : World) : Prop where
  ro : RobAt W w.heap.size vj vm
  re : RobAt W (w.heap.size + 1) (.slice none 0 0) (.slice none 0 0)
  bl : Below w.heap.size w W
theorem XB.next {w W V : World} {vj vm : Value} (h : XB w vj vm W) (hb : Below W.heap.size W V) : XB w vj vm V := ⟨h.ro.below hb h.ro.lt', h.re.below hb h.re.lt', bl_next hb h.bl⟩
theorem XB.held {w W : World} {vj vm : Value} (h : XB w vj vm W) : W.cell? ⟨w.heap.size, 0, none⟩ = some vj ∧ W.cell? ⟨w.heap.size, 1, none⟩ = some vm ∧ XB w vj vm W := ⟨h.ro.c0, h.ro.c1, h⟩
theorem grown_below {W V : World} (h : W.grownBy V none) : Below W.heap.size W V := ⟨h.os, h.tape, h.output, h.size, fun k hk => h.block k hk (by simp)⟩
theorem XS.made {w W : World} {O : Nat} {js : List JointD} {ms : List MassD} {vj vm vj0 vm0 : Value} (hb : XB w vj0 vm0 W) (ho : RobAt W O (.slice none 0 0) (.slice none 0 0)) (hO : w.heap.size + 1 < O)
    (oj : W.ownsRow w.heap.size 60 12 vj js.length (jcells js)) (om : W.ownsRow w.heap.size 74 5 vm ms.length (mcells ms)) (l1 : 1 ≤ js.length) (lj : js.length ≤ 11) (lm : ms.length ≤ 33) (ij : ∀ k (h : k < js.length), InJ js[k]) (im : ∀ k (h : k < ms.length), InM ms[k]) :
    XS w O ((W.setCell ⟨O, 0, none⟩ vj).setCell ⟨O, 1, none⟩ vm) js ms vj vm := by
  have h1 := heap_setCell_same W O 0 _ _ vj ho
  have h2 := heap_setCell_same _ O 1 _ _ vm h1
  have n1 : vj.ownBlock ≠ some O := own_ne oj ho (by decide)
  have n2 : vm.ownBlock ≠ some O := own_ne om ho (by decide)
  exact ⟨h2, (heap_setCell_other _ _ _ _ (by dsimp only; omega)).trans ((heap_setCell_other _ _ _ _ (by dsimp only; omega)).trans hb.re), ownsRow_setCell_other (ownsRow_setCell_other oj (a := ⟨O, 0, none⟩) n1 _) (a := ⟨O, 1, none⟩) n1 _, ownsRow_setCell_other (ownsRow_setCell_other om (a := ⟨O, 0, none⟩) n2 _) (a := ⟨O, 1, none⟩) n2 _,
    (hb.bl.setCell (by dsimp only; omega) _).setCell (by dsimp only; omega) _, hO, l1, lj, lm, ij, im⟩
theorem XS.new {w W : World} {js : List JointD} {ms : List MassD} {vj vm vj0 vm0 : Value} (hb : XB w vj0 vm0 W) (hO : w.heap.size + 1 < W.heap.size)
    (oj : W.ownsRow w.heap.size 60 12 vj js.length (jcells js)) (om : W.ownsRow w.heap.size 74 5 vm ms.length (mcells ms)) (l1 : 1 ≤ js.length) (lj : js.length ≤ 11) (lm : ms.length ≤ 33) (ij : ∀ k (h : k < js.length), InJ js[k]) (im : ∀ k (h : k < ms.length), InM ms[k]) :
    XS w W.heap.size (W.alloc (.cells #[vj, vm] 25)) js ms vj vm :=
  ⟨heap_alloc_new _ _, (Below.heap_alloc _ _ _ hb.re.lt').trans hb.re, oj.alloc _, om.alloc _, bl_alloc hb.bl _, hO, l1, lj, lm, ij, im⟩
theorem jc_len (js : List JointD) : (jcells js).length = js.length * 12 := by
  induction js with
  | nil => rfl
  | cons j js ih => rw [show jcells (j :: js) = (jointC j).toList ++ jcells js from rfl, List.length_append, ih, List.length_cons]; simp [jointC]; omega
theorem mc_len (ms : List MassD) : (mcells ms).length = ms.length * 5 := by
  induction ms with
  | nil => rfl
  | cons j js ih => rw [show mcells (j :: js) = (massC j).toList ++ mcells js from rfl, List.length_append, ih, List.length_cons]; simp [massC]; omega
theorem jc_ones (js : List JointD) : ∀ u ∈ jcells js, u.oneCell' = true := by
  induction js with
  | nil => intro u hu; cases hu
  | cons j js ih => intro u hu; rcases List.mem_append.1 (show u ∈ (jointC j).toList ++ jcells js from hu) with h | h; exact joint_ones j u h; exact ih u h
theorem mc_ones (ms : List MassD) : ∀ u ∈ mcells ms, u.oneCell' = true := by
  induction ms with
  | nil => intro u hu; cases hu
  | cons j js ih => intro u hu; rcases List.mem_append.1 (show u ∈ (massC j).toList ++ mcells js from hu) with h | h; exact mass_ones j u h; exact ih u h
set_option linter.unusedSimpArgs false in
set_option linter.unusedVariables false in
set_option maxRecDepth 100000 in
set_option maxHeartbeats 12800000 in
theorem changed8_any (js : List JointD) (ms : List MassD) (vj vm : Value) (how at' v : Int) (w : World) (hm : RobM w vj vm js ms) (h1 : I64 how) (h2 : I64 at') (h3 : I64 v) :
    Calls Tryd.prog 10 #[ .agg #[vj, vm], .int .i64 how, .int .i64 at', .int .i64 v ] w (Rob8 w) := by
  have HM := Lib.hid hm
  obtain ⟨Aj, cj, rfl, hjn⟩ := news_rdO hm.rj.rdO (jc_len js) (by decide)
  obtain ⟨Am, cm, rfl, hmn⟩ := news_rdO hm.rm.rdO (mc_len ms) (by decide)
  have HJN := Lib.hid hjn
  have HMN := Lib.hid hmn
  have l1 := hm.l1
  have l3 := hm.l3
  have m2 := hm.m2
  have H1 := Lib.hid h1
  have H2 := Lib.hid h2
  have H3 := Lib.hid h3
  obtain ⟨i0, hi, hz0, hz1, hz2⟩ := info_parts info_jointA
  have HI := Lib.hid hi
  have HZ0 := Lib.hid hz0
  have HZ1 := Lib.hid hz1
  have HZ2 := Lib.hid hz2
  clear hi hz0 hz1 hz2
  obtain ⟨i1, hi, hz0, hz1, hz2⟩ := info_parts info_mass
  have MI := Lib.hid hi
  have MZ0 := Lib.hid hz0
  have MZ1 := Lib.hid hz1
  have MZ2 := Lib.hid hz2
  have hdr := hm.robD
  have HIJ := Lib.hid hdr.ij
  have HIM := Lib.hid hdr.im
  clear hi hz0 hz1 hz2 hm hjn hmn h1 h2 h3 hdr
  unfold Rob8
  have hXB : XB w (.slice Aj js.length cj) (.slice Am ms.length cm) ((w.alloc (.cells #[.slice Aj js.length cj, .slice Am ms.length cm] 25)).alloc (.cells #[.slice none 0 0, .slice none 0 0] 25)) :=
    ⟨(Below.heap_alloc _ _ _ (by simp)).trans (heap_alloc_new _ _), by have h := heap_alloc_new (w.alloc (.cells #[.slice Aj js.length cj, .slice Am ms.length cm] 25)) (.cells #[.slice none 0 0, .slice none 0 0] 25); simpa [RobAt] using h, bl_alloc (bl_alloc (Below.refl _ _) _) _⟩
  have HXB := Lib.hid hXB
  clear hXB
  go_enter Tryd.func10, Tryd.ntmps10
  go_wp2_with fail
  obtain ⟨U, hU⟩ : ∃ U, (w.alloc (.cells #[.slice Aj js.length cj, .slice Am ms.length cm] 25)).alloc (.cells #[.slice none 0 0, .slice none 0 0] 25) = U := ⟨_, rfl⟩
  rw [hU] at HXB ⊢
  have hUs : w.heap.size + 2 ≤ U.heap.size := by rw [← hU]; simp
  clear hU
  go_cut [9] from 13 to 19 (fun v9 wx => ∃ O vj vm, v9 = .pointer (some ⟨O, 0, none⟩) ∧ XS w O wx js ms vj vm)
  case first =>
    refine wp_region_held_drew (S := (fun w1 => w1.cell? ⟨w.heap.size, 0, none⟩ = some (.slice Aj js.length cj) ∧ w1.cell? ⟨w.heap.size, 1, none⟩ = some (.slice Am ms.length cm) ∧ XB w (.slice Aj js.length cj) (.slice Am ms.length cm) w1)) (by kernel_rfl) ?_ (fun hHeld => ?_)
    focus (first | exact HX0.out.held | exact HX1.out.held | exact HX2.out.held | exact HX3.out.held | exact (HXB.out.next ((Below.refl _ _).drew)).held)
    refine wpAnyH_take (i := 0) (v := ?_) rfl (by kernel_rfl) (by kernel_rfl) (by kernel_rfl) (fun _ _ _ h => h) (Or.inl ⟨by rfl, ?_⟩) (by assumption) ?_; rotate_left; (focus (intro w hSw; (try dsimp only at hSw); go_simp; try with_reducible rfl)); (try simp only [Act.put, List.getElem_toArray, List.getElem_cons_succ, List.getElem_cons_zero, List.setIfInBounds_toArray, List.set_cons_zero, List.set_cons_succ])
    refine wpAnyH_take (i := 1) (v := ?_) rfl (by kernel_rfl) (by kernel_rfl) (by kernel_rfl) (fun _ _ _ h => h) (Or.inl ⟨by rfl, ?_⟩) (by assumption) ?_; rotate_left; (focus (intro w hSw; (try dsimp only at hSw); go_simp; try with_reducible rfl)); (try simp only [Act.put, List.getElem_toArray, List.getElem_cons_succ, List.getElem_cons_zero, List.setIfInBounds_toArray, List.set_cons_zero, List.set_cons_succ])
    refine wpAnyH_take (i := 3) (v := ?_) rfl (by kernel_rfl) (by kernel_rfl) (by kernel_rfl) (fun _ _ _ h => h) (Or.inl ⟨by rfl, ?_⟩) (by assumption) ?_; rotate_left; (focus (intro w hSw; (try dsimp only at hSw); go_simp; try with_reducible rfl)); (try simp only [Act.put, List.getElem_toArray, List.getElem_cons_succ, List.getElem_cons_zero, List.setIfInBounds_toArray, List.set_cons_zero, List.set_cons_succ])
    refine wpAnyH_take (i := 4) (v := ?_) rfl (by kernel_rfl) (by kernel_rfl) (by kernel_rfl) (fun _ _ _ h => h) (Or.inl ⟨by rfl, ?_⟩) (by assumption) ?_; rotate_left; (focus (intro w hSw; (try dsimp only at hSw); go_simp; try with_reducible rfl)); (try simp only [Act.put, List.getElem_toArray, List.getElem_cons_succ, List.getElem_cons_zero, List.setIfInBounds_toArray, List.set_cons_zero, List.set_cons_succ])
    refine wpAnyH_ready (rs := [2, 7]) (by kernel_rfl) (by simp) (AllReadyH.cons rfl (fun K hK => ?_) (AllReadyH.cons rfl (fun K hK => ?_) (AllReadyH.nil)))
    · rw [if_pos (by rfl)]; refine wp_append_any (.const (.slice none 0 0)) (.tmp 14) 22 rfl w.heap.size 60 i0 (.agg (jointC zeroJ)) 12 104 under_joints HI.out HZ0.out HZ1.out HZ2.out rfl (by decide) (.slice none 0 0) 0 [] rfl (World.ownsRow_nil _ _ _ _) Aj js.length cj (jcells js) rfl (jc_len js) (HJN.out _ (Lib.hid (HXB.out.next ((Below.refl _ _).drew))).out.bl) (jc_ones js) (by unfold maxLen; omega) (by omega) (Lib.hid (HXB.out.next ((Below.refl _ _).drew))).out.bl.size ?_; intro v2 w7 hown2 hgrow; have HX1 := Lib.hid ((Lib.hid (HXB.out.next ((Below.refl _ _).drew))).out.next (grown_below hgrow)); have hs7 := hgrow.size; have hs70 : U.heap.size ≤ w7.heap.size := (by have h := hgrow.size; simp at h; omega); have HJ := Lib.hid (show w7.ownsRow w.heap.size 60 12 v2 js.length (jcells js) from by simpa using hown2); obtain ⟨q2, k2, c2, rfl⟩ := own_slc HJ.out; clear hown2 hgrow; refine hK.out _ _ ?_ (fun hHeld => ?_); (focus (exact HX1.out.held)); clear hK K; (try simp only [Act.put, List.getElem_toArray, List.getElem_cons_succ, List.getElem_cons_zero, List.setIfInBounds_toArray, List.set_cons_zero, List.set_cons_succ])
      refine wpAnyH_ready (rs := [5, 7]) (by kernel_rfl) (by simp) (AllReadyH.cons rfl (fun K hK => ?_) (AllReadyH.cons rfl (fun K hK => ?_) (AllReadyH.nil)))
      · rw [if_pos (by rfl)]; refine wp_append_any (.const (.slice none 0 0)) (.tmp 17) 23 rfl w.heap.size 74 i1 (.agg (massC ⟨0, 0, 0, 0, 0⟩)) 5 40 under_masses MI.out MZ0.out MZ1.out MZ2.out rfl (by decide) (.slice none 0 0) 0 [] rfl (World.ownsRow_nil _ _ _ _) Am ms.length cm (mcells ms) rfl (mc_len ms) (HMN.out _ HX1.out.bl) (mc_ones ms) (by unfold maxLen; omega) (by omega) HX1.out.bl.size ?_; intro v5 w8 hown2 hgrow; have HX2 := Lib.hid (HX1.out.next (grown_below hgrow)); have hs8 := hgrow.size; have hs80 : w7.heap.size ≤ w8.heap.size := (by have h := hgrow.size; first | (simp at h; omega) | omega); have HMO := Lib.hid (show w8.ownsRow w.heap.size 74 5 v5 ms.length (mcells ms) from by simpa using hown2); obtain ⟨q5, k5, c5, rfl⟩ := own_slc HMO.out; have HJ8 := Lib.hid (own_below HJ.out (grown_below hgrow)); replace HJ := HJ8; clear hown2 hgrow; refine hK.out _ _ ?_ (fun hHeld => ?_); (focus (exact HX2.out.held)); clear hK K; (try simp only [Act.put, List.getElem_toArray, List.getElem_cons_succ, List.getElem_cons_zero, List.setIfInBounds_toArray, List.set_cons_zero, List.set_cons_succ])
        refine wpAnyH_take (i := 6) (v := ?_) rfl (by kernel_rfl) (by kernel_rfl) (by kernel_rfl) (fun _ _ _ h => h) (Or.inl ⟨by rfl, ?_⟩) (by assumption) ?_; rotate_left; (focus (intro w hSw; (try dsimp only at hSw); go_simp; try with_reducible rfl)); (try simp only [Act.put, List.getElem_toArray, List.getElem_cons_succ, List.getElem_cons_zero, List.setIfInBounds_toArray, List.set_cons_zero, List.set_cons_succ])
        refine wpAnyH_ready (rs := [7]) (by kernel_rfl) (by simp) (AllReadyH.cons rfl (fun K hK => ?_) (AllReadyH.nil))
        go_simp; have HX0 := Lib.hid (show XB w (.slice Aj js.length cj) (.slice Am ms.length cm) (w8.alloc (.cells #[.slice none 0 0, .slice none 0 0] 25)) from HX2.out.next ((Below.refl _ _).alloc (Nat.le_refl _) _)); have HO := Lib.hid (show RobAt (w8.alloc (.cells #[.slice none 0 0, .slice none 0 0] 25)) w8.heap.size (.slice none 0 0) (.slice none 0 0) from heap_alloc_new _ _); have HJ0 := Lib.hid (HJ.out.alloc (.cells #[.slice none 0 0, .slice none 0 0] 25)); have HM0 := Lib.hid (HMO.out.alloc (.cells #[.slice none 0 0, .slice none 0 0] 25)); have hOO : w.heap.size + 1 < w8.heap.size := (by omega); refine hK.out _ _ ?_ (fun hHeld => ?_); (focus (exact HX0.out.held)); clear hK K; (try simp only [Act.put, List.getElem_toArray, List.getElem_cons_succ, List.getElem_cons_zero, List.setIfInBounds_toArray, List.set_cons_zero, List.set_cons_succ])
        refine wpAnyH_ready (rs := [8]) (by kernel_rfl) (by simp) (AllReadyH.cons rfl (fun K hK => ?_) (AllReadyH.nil))
        have c0 := HO.out.c0; have c1 := HO.out.c1; have f0 := HO.out.free 0; have f1 := HO.out.free 1; have HFIN := Lib.hid (XS.new HX2.out hOO HJ.out HMO.out l1 (by omega) (by omega) HIJ.out HIM.out); have HX3 := Lib.hid (show XB w (.slice Aj js.length cj) (.slice Am ms.length cm) (w8.alloc (.cells #[.slice q2 k2 c2, .slice q5 k5 c5] 25)) from HX2.out.next ((Below.refl _ _).alloc (Nat.le_refl _) _)); go_simp; refine hK.out _ _ ?_ (fun hHeld => ?_); (focus (exact HX3.out.held)); clear hK K; (try simp only [Act.put, List.getElem_toArray, List.getElem_cons_succ, List.getElem_cons_zero, List.setIfInBounds_toArray, List.set_cons_zero, List.set_cons_succ])
        refine wpAnyH_done (by kernel_rfl) ?_ _
        go_wp2_with fail
        go_meet
        exact ⟨w8.heap.size, _, _, rfl, HFIN.out⟩
      · go_simp; have HX0 := Lib.hid (show XB w (.slice Aj js.length cj) (.slice Am ms.length cm) (w7.alloc (.cells #[.slice none 0 0, .slice none 0 0] 25)) from HX1.out.next ((Below.refl _ _).alloc (Nat.le_refl _) _)); have HO := Lib.hid (show RobAt (w7.alloc (.cells #[.slice none 0 0, .slice none 0 0] 25)) w7.heap.size (.slice none 0 0) (.slice none 0 0) from heap_alloc_new _ _); have HJ0 := Lib.hid (HJ.out.alloc (.cells #[.slice none 0 0, .slice none 0 0] 25)); have hOO : w.heap.size + 1 < w7.heap.size := (by omega); refine hK.out _ _ ?_ (fun hHeld => ?_); (focus (exact HX0.out.held)); clear hK K; (try simp only [Act.put, List.getElem_toArray, List.getElem_cons_succ, List.getElem_cons_zero, List.setIfInBounds_toArray, List.set_cons_zero, List.set_cons_succ])
        refine wpAnyH_ready (rs := [5]) (by kernel_rfl) (by simp) (AllReadyH.cons rfl (fun K hK => ?_) (AllReadyH.nil))
        rw [if_pos (by rfl)]; refine wp_append_any (.const (.slice none 0 0)) (.tmp 17) 23 rfl w.heap.size 74 i1 (.agg (massC ⟨0, 0, 0, 0, 0⟩)) 5 40 under_masses MI.out MZ0.out MZ1.out MZ2.out rfl (by decide) (.slice none 0 0) 0 [] rfl (World.ownsRow_nil _ _ _ _) Am ms.length cm (mcells ms) rfl (mc_len ms) (HMN.out _ HX0.out.bl) (mc_ones ms) (by unfold maxLen; omega) (by omega) HX0.out.bl.size ?_; intro v5 w8 hown2 hgrow; have HX2 := Lib.hid (HX0.out.next (grown_below hgrow)); have hs8 := hgrow.size; have hs80 : w7.heap.size ≤ w8.heap.size := (by have h := hgrow.size; first | (simp at h; omega) | omega); have HMO := Lib.hid (show w8.ownsRow w.heap.size 74 5 v5 ms.length (mcells ms) from by simpa using hown2); obtain ⟨q5, k5, c5, rfl⟩ := own_slc HMO.out; have HO8 := Lib.hid (HO.out.below (grown_below hgrow) HO.out.lt'); have HJ8 := Lib.hid (own_below HJ0.out (grown_below hgrow)); clear hown2 hgrow; refine hK.out _ _ ?_ (fun hHeld => ?_); (focus (exact HX2.out.held)); clear hK K; (try simp only [Act.put, List.getElem_toArray, List.getElem_cons_succ, List.getElem_cons_zero, List.setIfInBounds_toArray, List.set_cons_zero, List.set_cons_succ])
        refine wpAnyH_take (i := 6) (v := ?_) rfl (by kernel_rfl) (by kernel_rfl) (by kernel_rfl) (fun _ _ _ h => h) (Or.inl ⟨by rfl, ?_⟩) (by assumption) ?_; rotate_left; (focus (intro w hSw; (try dsimp only at hSw); go_simp; try with_reducible rfl)); (try simp only [Act.put, List.getElem_toArray, List.getElem_cons_succ, List.getElem_cons_zero, List.setIfInBounds_toArray, List.set_cons_zero, List.set_cons_succ])
        refine wpAnyH_ready (rs := [8]) (by kernel_rfl) (by simp) (AllReadyH.cons rfl (fun K hK => ?_) (AllReadyH.nil))
        have c0 := HO8.out.c0; have c1 := HO8.out.c1; have f0 := HO8.out.free 0; have f1 := HO8.out.free 1; have HFIN := Lib.hid (XS.made HX2.out HO8.out hOO HJ8.out HMO.out l1 (by omega) (by omega) HIJ.out HIM.out); have HX3 := Lib.hid (show XB w (.slice Aj js.length cj) (.slice Am ms.length cm) ((w8.setCell ⟨w7.heap.size, 0, none⟩ (.slice q2 k2 c2)).setCell ⟨w7.heap.size, 1, none⟩ (.slice q5 k5 c5)) from ⟨(heap_setCell_other _ _ _ _ (by dsimp only; omega)).trans ((heap_setCell_other _ _ _ _ (by dsimp only; omega)).trans HX2.out.ro), HFIN.out.re, HFIN.out.bl⟩); go_simp; refine hK.out _ _ ?_ (fun hHeld => ?_); (focus (exact HX3.out.held)); clear hK K; (try simp only [Act.put, List.getElem_toArray, List.getElem_cons_succ, List.getElem_cons_zero, List.setIfInBounds_toArray, List.set_cons_zero, List.set_cons_succ])
        refine wpAnyH_done (by kernel_rfl) ?_ _
        go_wp2_with fail
        go_meet
        exact ⟨w7.heap.size, _, _, rfl, HFIN.out⟩
    · go_simp; have HX0 := Lib.hid (show XB w (.slice Aj js.length cj) (.slice Am ms.length cm) (U.alloc (.cells #[.slice none 0 0, .slice none 0 0] 25)).drew from (HXB.out.next ((Below.refl _ _).alloc (Nat.le_refl _) _)).next ((Below.refl _ _).drew)); have HO := Lib.hid (show RobAt (U.alloc (.cells #[.slice none 0 0, .slice none 0 0] 25)).drew U.heap.size (.slice none 0 0) (.slice none 0 0) from heap_alloc_new _ _); have hOO : w.heap.size + 1 < U.heap.size := (by omega); refine hK.out _ _ ?_ (fun hHeld => ?_); (focus (exact HX0.out.held)); clear hK K; (try simp only [Act.put, List.getElem_toArray, List.getElem_cons_succ, List.getElem_cons_zero, List.setIfInBounds_toArray, List.set_cons_zero, List.set_cons_succ])
      refine wpAnyH_ready (rs := [2]) (by kernel_rfl) (by simp) (AllReadyH.cons rfl (fun K hK => ?_) (AllReadyH.nil))
      rw [if_pos (by rfl)]; refine wp_append_any (.const (.slice none 0 0)) (.tmp 14) 22 rfl w.heap.size 60 i0 (.agg (jointC zeroJ)) 12 104 under_joints HI.out HZ0.out HZ1.out HZ2.out rfl (by decide) (.slice none 0 0) 0 [] rfl (World.ownsRow_nil _ _ _ _) Aj js.length cj (jcells js) rfl (jc_len js) (HJN.out _ HX0.out.bl) (jc_ones js) (by unfold maxLen; omega) (by omega) HX0.out.bl.size ?_; intro v2 w7 hown2 hgrow; have HX1 := Lib.hid (HX0.out.next (grown_below hgrow)); have hs7 := hgrow.size; have hs70 : U.heap.size ≤ w7.heap.size := (by have h := hgrow.size; simp at h; omega); have HJ := Lib.hid (show w7.ownsRow w.heap.size 60 12 v2 js.length (jcells js) from by simpa using hown2); obtain ⟨q2, k2, c2, rfl⟩ := own_slc HJ.out; have HO7 := Lib.hid (HO.out.below (grown_below hgrow) HO.out.lt'); clear hown2 hgrow; refine hK.out _ _ ?_ (fun hHeld => ?_); (focus (exact HX1.out.held)); clear hK K; (try simp only [Act.put, List.getElem_toArray, List.getElem_cons_succ, List.getElem_cons_zero, List.setIfInBounds_toArray, List.set_cons_zero, List.set_cons_succ])
      refine wpAnyH_ready (rs := [5]) (by kernel_rfl) (by simp) (AllReadyH.cons rfl (fun K hK => ?_) (AllReadyH.nil))
      rw [if_pos (by rfl)]; refine wp_append_any (.const (.slice none 0 0)) (.tmp 17) 23 rfl w.heap.size 74 i1 (.agg (massC ⟨0, 0, 0, 0, 0⟩)) 5 40 under_masses MI.out MZ0.out MZ1.out MZ2.out rfl (by decide) (.slice none 0 0) 0 [] rfl (World.ownsRow_nil _ _ _ _) Am ms.length cm (mcells ms) rfl (mc_len ms) (HMN.out _ HX1.out.bl) (mc_ones ms) (by unfold maxLen; omega) (by omega) HX1.out.bl.size ?_; intro v5 w8 hown2 hgrow; have HX2 := Lib.hid (HX1.out.next (grown_below hgrow)); have hs8 := hgrow.size; have hs80 : w7.heap.size ≤ w8.heap.size := (by have h := hgrow.size; first | (simp at h; omega) | omega); have HMO := Lib.hid (show w8.ownsRow w.heap.size 74 5 v5 ms.length (mcells ms) from by simpa using hown2); obtain ⟨q5, k5, c5, rfl⟩ := own_slc HMO.out; have HO8 := Lib.hid (HO7.out.below (grown_below hgrow) HO7.out.lt'); have HJ8 := Lib.hid (own_below HJ.out (grown_below hgrow)); clear hown2 hgrow; refine hK.out _ _ ?_ (fun hHeld => ?_); (focus (exact HX2.out.held)); clear hK K; (try simp only [Act.put, List.getElem_toArray, List.getElem_cons_succ, List.getElem_cons_zero, List.setIfInBounds_toArray, List.set_cons_zero, List.set_cons_succ])
      refine wpAnyH_take (i := 6) (v := ?_) rfl (by kernel_rfl) (by kernel_rfl) (by kernel_rfl) (fun _ _ _ h => h) (Or.inl ⟨by rfl, ?_⟩) (by assumption) ?_; rotate_left; (focus (intro w hSw; (try dsimp only at hSw); go_simp; try with_reducible rfl)); (try simp only [Act.put, List.getElem_toArray, List.getElem_cons_succ, List.getElem_cons_zero, List.setIfInBounds_toArray, List.set_cons_zero, List.set_cons_succ])
      refine wpAnyH_ready (rs := [8]) (by kernel_rfl) (by simp) (AllReadyH.cons rfl (fun K hK => ?_) (AllReadyH.nil))
      have c0 := HO8.out.c0; have c1 := HO8.out.c1; have f0 := HO8.out.free 0; have f1 := HO8.out.free 1; have HFIN := Lib.hid (XS.made HX2.out HO8.out hOO HJ8.out HMO.out l1 (by omega) (by omega) HIJ.out HIM.out); have HX3 := Lib.hid (show XB w (.slice Aj js.length cj) (.slice Am ms.length cm) ((w8.setCell ⟨U.heap.size, 0, none⟩ (.slice q2 k2 c2)).setCell ⟨U.heap.size, 1, none⟩ (.slice q5 k5 c5)) from ⟨(heap_setCell_other _ _ _ _ (by dsimp only; omega)).trans ((heap_setCell_other _ _ _ _ (by dsimp only; omega)).trans HX2.out.ro), HFIN.out.re, HFIN.out.bl⟩); go_simp; refine hK.out _ _ ?_ (fun hHeld => ?_); (focus (exact HX3.out.held)); clear hK K; (try simp only [Act.put, List.getElem_toArray, List.getElem_cons_succ, List.getElem_cons_zero, List.setIfInBounds_toArray, List.set_cons_zero, List.set_cons_succ])
      refine wpAnyH_done (by kernel_rfl) ?_ _
      go_wp2_with fail
      go_meet
      exact ⟨U.heap.size, _, _, rfl, HFIN.out⟩
  case rest =>
    obtain ⟨O, vj, vm, rfl, hxs⟩ := hcut
    obtain ⟨gj, capj, rfl⟩ := own_form hxs.oj (by have := hxs.l1; omega)
    obtain ⟨qm, cm2, rfl⟩ := own_cap hxs.om
    have c0 := hxs.ro.c0
    have c1 := hxs.ro.c1
    have XSA := Lib.hid hxs
    obtain ⟨k, hk, hkl⟩ := mod_nat (n := at') (k := js.length) l1
    clear hxs HJN HMN HXB hUs HM
    go_wp2_with fail
    go_quiet (first | (go_at_call 16; refine Calls.quiet_of_same (round_as at' js.length k _ (by omega) (by omega) H2.out hk)))
    have XSB := Lib.hid (show XS w O (wc.drewN nq) js ms (.slice (some ⟨gj, 0, none⟩) js.length capj) (.slice qm ms.length cm2) from XSA.out.next (bl_drewN (Below.refl _ _)))
    obtain ⟨Y, hY⟩ : ∃ Y, wc.drewN nq = Y := ⟨_, rfl⟩
    rw [hY] at XSB ⊢
    have XSC := Lib.hid (XSB.out.next ((Below.refl _ _).alloc (Nat.le_refl _) (.cells nearC 69)))
    obtain ⟨m, hm, hml⟩ := mod_nat (n := v) (k := 9) (by decide)
    obtain ⟨x, hx, hx1, hx2⟩ := near_cell m hml
    have hcx : (Y.alloc (.cells nearC 69)).cell? ⟨Y.heap.size, m, none⟩ = some (.int .i64 x) := by rw [cell_of_row _ _ m _ _ _ (heap_alloc_new Y _)]; exact hx
    simp only [nearC] at XSC hcx
    have HK := Lib.hid hk
    clear c0 c1 XSA XSB hY hx hk
    go_wp2_with fail
    refine (round_as v 9 m _ (by decide) (by decide) H3.out hm).mono ?_
    rintro e w2 ⟨rfl, rfl⟩
    clear hm
    go_wp2_with fail
    obtain ⟨h, hh, hhl⟩ := mod_nat (n := how) (k := 12) (by decide)
    refine (round_as how 12 h _ (by decide) (by decide) H1.out hh).mono ?_
    rintro e w2 ⟨rfl, rfl⟩
    clear hh
    go_upto_block 0 with fail
    obtain ⟨Z, hZ⟩ : ∃ Z, (Y.alloc (.cells #[.int .i64 (-1), .int .i64 0, .int .i64 1, .int .i64 4194304, .int .i64 4194305, .int .i64 (-4194305), .int .i64 524288, .int .i64 524289, .int .i64 1099511627776] 69)) = Z := ⟨_, rfl⟩
    rw [hZ] at XSC hcx ⊢
    clear hZ hcx
    go_cut [] from 35 to 164 (fun wx => ∃ js ms vj vm, XS w O wx js ms vj vm)
    case first =>
      have hcell : ∀ f, f < 12 → ∃ u, Z.cell? ⟨gj, k * 12 + f, none⟩ = some u := fun f hf => by
        have hl := jc_len js
        have hlt : k * 12 + f < js.length * 12 := by omega
        exact ⟨_, (XSC.out.oj.cellAt (k * 12 + f) hlt).trans (List.getElem?_eq_getElem (by rw [hl]; exact hlt))⟩
      have HC := Lib.hid hcell
      have hfro := fun f => XSC.out.oj.frozenAt (k * 12 + f)
      have HF := Lib.hid hfro
      have hij := HIJ.out k hkl
      have IJ := Lib.hid hij
      clear hcell hfro hij
      rcases (show h = 0 ∨ h = 1 ∨ h = 2 ∨ h = 3 ∨ h = 4 ∨ h = 5 ∨ h = 6 ∨ h = 7 ∨ h = 8 ∨ h = 9 ∨ h = 10 ∨ h = 11 by omega) with rfl | rfl | rfl | rfl | rfl | rfl | rfl | rfl | rfl | rfl | rfl | rfl
      · obtain ⟨r, hr, rl⟩ := mod_nat (n := v) (k := 6) (by decide)
        obtain ⟨y, hix⟩ : ∃ y : ByteArray, (∀ w, (Instr.index 70 (.agg #[.string ⟨#[]⟩, .string ⟨#[97]⟩, .string ⟨#[119, 111, 114, 108, 100]⟩, .string ⟨#[65]⟩, .string ⟨#[97, 98, 99, 100, 101, 102, 103, 104, 105, 106, 97, 98, 99, 100, 101, 102, 103]⟩, .string ⟨#[122, 95, 57]⟩]) (.int .i64 (r : Int))).run Tryd.prog w = .ok (.string y) w) := by
          rcases (show r = 0 ∨ r = 1 ∨ r = 2 ∨ r = 3 ∨ r = 4 ∨ r = 5 by omega) with rfl | rfl | rfl | rfl | rfl | rfl
          · exact ⟨⟨#[]⟩, fun w => by kernel_rfl⟩
          · exact ⟨⟨#[97]⟩, fun w => by kernel_rfl⟩
          · exact ⟨⟨#[119, 111, 114, 108, 100]⟩, fun w => by kernel_rfl⟩
          · exact ⟨⟨#[65]⟩, fun w => by kernel_rfl⟩
          · exact ⟨⟨#[97, 98, 99, 100, 101, 102, 103, 104, 105, 106, 97, 98, 99, 100, 101, 102, 103]⟩, fun w => by kernel_rfl⟩
          · exact ⟨⟨#[122, 95, 57]⟩, fun w => by kernel_rfl⟩
        have XD := Lib.hid (XSC.out.put rfl k hkl 0 (by decide) (.string y) { js[k] with name := y } rfl ⟨IJ.out.kind, IJ.out.parent, IJ.out.x, IJ.out.y, IJ.out.z, IJ.out.lo, IJ.out.hi, IJ.out.weight, IJ.out.speed, IJ.out.accel, IJ.out.torque⟩)
        obtain ⟨u0, hu0⟩ := HC.out 0 (by decide)
        have hf0 := HF.out 0
        simp only [Nat.add_zero] at XD hu0 hf0
        go_wp2_with fail
        refine (round_as v 6 r _ (by decide) (by decide) H3.out hr).mono ?_
        rintro e w2 ⟨rfl, rfl⟩
        go_wp2_with fail
        go_meet
        exact ⟨_, _, _, _, XD.out⟩
      · obtain ⟨r, hr, rl⟩ := mod_nat (n := v) (k := 9) (by decide)
        have XD := Lib.hid (XSC.out.put rfl k hkl 1 (by decide) (.int .i64 ((r : Int) - 1)) { js[k] with kind := (r : Int) - 1 } rfl ⟨(by unfold I64; dsimp only; omega), IJ.out.parent, IJ.out.x, IJ.out.y, IJ.out.z, IJ.out.lo, IJ.out.hi, IJ.out.weight, IJ.out.speed, IJ.out.accel, IJ.out.torque⟩)
        obtain ⟨u0, hu0⟩ := HC.out 1 (by decide)
        have hf0 := HF.out 1
        go_wp2_with fail
        refine (round_as v 9 r _ (by decide) (by decide) H3.out hr).mono ?_
        rintro e w2 ⟨rfl, rfl⟩
        go_wp2_with fail
        go_meet
        exact ⟨_, _, _, _, XD.out⟩
      · obtain ⟨r, hr, rl⟩ := mod_nat (n := v) (k := 6) (by decide)
        have XD := Lib.hid (XSC.out.put rfl k hkl 2 (by decide) (.int .i64 ((r : Int) - 2)) { js[k] with parent := (r : Int) - 2 } rfl ⟨IJ.out.kind, (by unfold I64; dsimp only; omega), IJ.out.x, IJ.out.y, IJ.out.z, IJ.out.lo, IJ.out.hi, IJ.out.weight, IJ.out.speed, IJ.out.accel, IJ.out.torque⟩)
        obtain ⟨u0, hu0⟩ := HC.out 2 (by decide)
        have hf0 := HF.out 2
        go_wp2_with fail
        refine (round_as v 6 r _ (by decide) (by decide) H3.out hr).mono ?_
        rintro e w2 ⟨rfl, rfl⟩
        go_wp2_with fail
        go_meet
        exact ⟨_, _, _, _, XD.out⟩
      · obtain ⟨r, hr, rl⟩ := mod_nat (n := at') (k := 3) (by decide)
        rcases (show r = 0 ∨ r = 1 ∨ r = 2 by omega) with rfl | rfl | rfl
        · have XD := Lib.hid (XSC.out.put rfl k hkl 3 (by decide) (.int .i64 x) { js[k] with x := x } rfl ⟨IJ.out.kind, IJ.out.parent, (by unfold I64; dsimp only; omega), IJ.out.y, IJ.out.z, IJ.out.lo, IJ.out.hi, IJ.out.weight, IJ.out.speed, IJ.out.accel, IJ.out.torque⟩)
          obtain ⟨u0, hu0⟩ := HC.out 3 (by decide)
          have hf0 := HF.out 3
          have XDD := Lib.hid (show XS w O (Z.setCell ⟨gj, k * 12 + 3, none⟩ (.int .i64 x)).drew _ _ _ _ from XD.out.next ((Below.refl _ _).drew))
          go_wp2_with fail
          refine wp_region_noPanic ?_
          refine wp_region_held_drew (S := (fun _ => True)) (by kernel_rfl) ?_ (fun hHeld => ?_)
          focus (exact True.intro)
          refine wpAnyH_take (i := 0) (v := ?_) rfl (by kernel_rfl) (by kernel_rfl) (by kernel_rfl) (fun _ _ _ h => h) (Or.inl ⟨by rfl, ?_⟩) (by assumption) ?_; rotate_left; (focus (intro w hSw; (try dsimp only at hSw); go_simp; try with_reducible rfl)); (try simp only [Act.put, List.getElem_toArray, List.getElem_cons_succ, List.getElem_cons_zero, List.setIfInBounds_toArray, List.set_cons_zero, List.set_cons_succ])
          refine wpAnyH_take (i := 1) (v := ?_) rfl (by kernel_rfl) (by kernel_rfl) (by kernel_rfl) (fun _ _ _ h => h) (Or.inl ⟨by rfl, ?_⟩) (by assumption) ?_; rotate_left; (focus (intro w hSw; (try dsimp only at hSw); go_simp; try with_reducible rfl)); (try simp only [Act.put, List.getElem_toArray, List.getElem_cons_succ, List.getElem_cons_zero, List.setIfInBounds_toArray, List.set_cons_zero, List.set_cons_succ])
          refine wpAnyH_take (i := 3) (v := ?_) rfl (by kernel_rfl) (by kernel_rfl) (by kernel_rfl) (fun _ _ _ h => h) (Or.inl ⟨by rfl, ?_⟩) (by assumption) ?_; rotate_left; (focus (intro w hSw; (try dsimp only at hSw); go_simp; try with_reducible rfl)); (try simp only [Act.put, List.getElem_toArray, List.getElem_cons_succ, List.getElem_cons_zero, List.setIfInBounds_toArray, List.set_cons_zero, List.set_cons_succ])
          refine wpAnyH_take (i := 4) (v := ?_) rfl (by kernel_rfl) (by kernel_rfl) (by kernel_rfl) (fun _ _ _ h => h) (Or.inl ⟨by rfl, ?_⟩) (by assumption) ?_; rotate_left; (focus (intro w hSw; (try dsimp only at hSw); go_simp; try with_reducible rfl)); (try simp only [Act.put, List.getElem_toArray, List.getElem_cons_succ, List.getElem_cons_zero, List.setIfInBounds_toArray, List.set_cons_zero, List.set_cons_succ])
          refine wpAnyH_take (i := 5) (v := ?_) rfl (by kernel_rfl) (by kernel_rfl) (by kernel_rfl) (fun _ _ _ h => h) (Or.inl ⟨by rfl, ?_⟩) (by assumption) ?_; rotate_left; (focus (intro w hSw; (try dsimp only at hSw); go_simp; try with_reducible rfl)); (try simp only [Act.put, List.getElem_toArray, List.getElem_cons_succ, List.getElem_cons_zero, List.setIfInBounds_toArray, List.set_cons_zero, List.set_cons_succ])
          refine wpAnyH_ready (rs := [2]) (by kernel_rfl) (by simp) (AllReadyH.cons rfl (fun K hK => ?_) AllReadyH.nil); go_simp; (refine (round_as at' 3 0 _ (by decide) (by decide) H2.out hr).mono ?_; rintro e w2 ⟨rfl, rfl⟩); go_wp2_with fail; refine hK.out _ _ ?_ (fun hHeld => ?_); (focus (exact True.intro)); clear hK K; (try simp only [Act.put, List.getElem_toArray, List.getElem_cons_succ, List.getElem_cons_zero, List.setIfInBounds_toArray, List.set_cons_zero, List.set_cons_succ])
          refine wpAnyH_take (i := 6) (v := ?_) rfl (by kernel_rfl) (by kernel_rfl) (by kernel_rfl) (fun _ _ _ h => h) (Or.inl ⟨by rfl, ?_⟩) (by assumption) ?_; rotate_left; (focus (intro w hSw; (try dsimp only at hSw); go_simp; try with_reducible rfl)); (try simp only [Act.put, List.getElem_toArray, List.getElem_cons_succ, List.getElem_cons_zero, List.setIfInBounds_toArray, List.set_cons_zero, List.set_cons_succ])
          refine wpAnyH_ready (rs := [7]) (by kernel_rfl) (by simp) (AllReadyH.cons rfl (fun K hK => ?_) AllReadyH.nil); go_simp; refine hK.out _ _ ?_ (fun hHeld => ?_); (focus (exact True.intro)); clear hK K; (try simp only [Act.put, List.getElem_toArray, List.getElem_cons_succ, List.getElem_cons_zero, List.setIfInBounds_toArray, List.set_cons_zero, List.set_cons_succ])
          refine wpAnyH_done (by kernel_rfl) ?_ _
          refine NoPanic.normal ?_
          go_wp2_with fail
          go_meet
          exact ⟨_, _, _, _, XDD.out⟩
        · have XD := Lib.hid (XSC.out.put rfl k hkl 4 (by decide) (.int .i64 x) { js[k] with y := x } rfl ⟨IJ.out.kind, IJ.out.parent, IJ.out.x, (by unfold I64; dsimp only; omega), IJ.out.z, IJ.out.lo, IJ.out.hi, IJ.out.weight, IJ.out.speed, IJ.out.accel, IJ.out.torque⟩)
          obtain ⟨u0, hu0⟩ := HC.out 4 (by decide)
          have hf0 := HF.out 4
          have XDD := Lib.hid (show XS w O (Z.setCell ⟨gj, k * 12 + 4, none⟩ (.int .i64 x)).drew _ _ _ _ from XD.out.next ((Below.refl _ _).drew))
          go_wp2_with fail
          refine wp_region_noPanic ?_
          refine wp_region_held_drew (S := (fun _ => True)) (by kernel_rfl) ?_ (fun hHeld => ?_)
          focus (exact True.intro)
          refine wpAnyH_take (i := 0) (v := ?_) rfl (by kernel_rfl) (by kernel_rfl) (by kernel_rfl) (fun _ _ _ h => h) (Or.inl ⟨by rfl, ?_⟩) (by assumption) ?_; rotate_left; (focus (intro w hSw; (try dsimp only at hSw); go_simp; try with_reducible rfl)); (try simp only [Act.put, List.getElem_toArray, List.getElem_cons_succ, List.getElem_cons_zero, List.setIfInBounds_toArray, List.set_cons_zero, List.set_cons_succ])
          refine wpAnyH_take (i := 1) (v := ?_) rfl (by kernel_rfl) (by kernel_rfl) (by kernel_rfl) (fun _ _ _ h => h) (Or.inl ⟨by rfl, ?_⟩) (by assumption) ?_; rotate_left; (focus (intro w hSw; (try dsimp only at hSw); go_simp; try with_reducible rfl)); (try simp only [Act.put, List.getElem_toArray, List.getElem_cons_succ, List.getElem_cons_zero, List.setIfInBounds_toArray, List.set_cons_zero, List.set_cons_succ])
          refine wpAnyH_take (i := 3) (v := ?_) rfl (by kernel_rfl) (by kernel_rfl) (by kernel_rfl) (fun _ _ _ h => h) (Or.inl ⟨by rfl, ?_⟩) (by assumption) ?_; rotate_left; (focus (intro w hSw; (try dsimp only at hSw); go_simp; try with_reducible rfl)); (try simp only [Act.put, List.getElem_toArray, List.getElem_cons_succ, List.getElem_cons_zero, List.setIfInBounds_toArray, List.set_cons_zero, List.set_cons_succ])
          refine wpAnyH_take (i := 4) (v := ?_) rfl (by kernel_rfl) (by kernel_rfl) (by kernel_rfl) (fun _ _ _ h => h) (Or.inl ⟨by rfl, ?_⟩) (by assumption) ?_; rotate_left; (focus (intro w hSw; (try dsimp only at hSw); go_simp; try with_reducible rfl)); (try simp only [Act.put, List.getElem_toArray, List.getElem_cons_succ, List.getElem_cons_zero, List.setIfInBounds_toArray, List.set_cons_zero, List.set_cons_succ])
          refine wpAnyH_take (i := 5) (v := ?_) rfl (by kernel_rfl) (by kernel_rfl) (by kernel_rfl) (fun _ _ _ h => h) (Or.inl ⟨by rfl, ?_⟩) (by assumption) ?_; rotate_left; (focus (intro w hSw; (try dsimp only at hSw); go_simp; try with_reducible rfl)); (try simp only [Act.put, List.getElem_toArray, List.getElem_cons_succ, List.getElem_cons_zero, List.setIfInBounds_toArray, List.set_cons_zero, List.set_cons_succ])
          refine wpAnyH_ready (rs := [2]) (by kernel_rfl) (by simp) (AllReadyH.cons rfl (fun K hK => ?_) AllReadyH.nil); go_simp; (refine (round_as at' 3 1 _ (by decide) (by decide) H2.out hr).mono ?_; rintro e w2 ⟨rfl, rfl⟩); go_wp2_with fail; refine hK.out _ _ ?_ (fun hHeld => ?_); (focus (exact True.intro)); clear hK K; (try simp only [Act.put, List.getElem_toArray, List.getElem_cons_succ, List.getElem_cons_zero, List.setIfInBounds_toArray, List.set_cons_zero, List.set_cons_succ])
          refine wpAnyH_take (i := 6) (v := ?_) rfl (by kernel_rfl) (by kernel_rfl) (by kernel_rfl) (fun _ _ _ h => h) (Or.inl ⟨by rfl, ?_⟩) (by assumption) ?_; rotate_left; (focus (intro w hSw; (try dsimp only at hSw); go_simp; try with_reducible rfl)); (try simp only [Act.put, List.getElem_toArray, List.getElem_cons_succ, List.getElem_cons_zero, List.setIfInBounds_toArray, List.set_cons_zero, List.set_cons_succ])
          refine wpAnyH_ready (rs := [7]) (by kernel_rfl) (by simp) (AllReadyH.cons rfl (fun K hK => ?_) AllReadyH.nil); go_simp; refine hK.out _ _ ?_ (fun hHeld => ?_); (focus (exact True.intro)); clear hK K; (try simp only [Act.put, List.getElem_toArray, List.getElem_cons_succ, List.getElem_cons_zero, List.setIfInBounds_toArray, List.set_cons_zero, List.set_cons_succ])
          refine wpAnyH_done (by kernel_rfl) ?_ _
          refine NoPanic.normal ?_
          go_wp2_with fail
          go_meet
          exact ⟨_, _, _, _, XDD.out⟩
        · have XD := Lib.hid (XSC.out.put rfl k hkl 5 (by decide) (.int .i64 x) { js[k] with z := x } rfl ⟨IJ.out.kind, IJ.out.parent, IJ.out.x, IJ.out.y, (by unfold I64; dsimp only; omega), IJ.out.lo, IJ.out.hi, IJ.out.weight, IJ.out.speed, IJ.out.accel, IJ.out.torque⟩)
          obtain ⟨u0, hu0⟩ := HC.out 5 (by decide)
          have hf0 := HF.out 5
          have XDD := Lib.hid (show XS w O (Z.setCell ⟨gj, k * 12 + 5, none⟩ (.int .i64 x)).drew _ _ _ _ from XD.out.next ((Below.refl _ _).drew))
          go_wp2_with fail
          refine wp_region_noPanic ?_
          refine wp_region_held_drew (S := (fun _ => True)) (by kernel_rfl) ?_ (fun hHeld => ?_)
          focus (exact True.intro)
          refine wpAnyH_take (i := 0) (v := ?_) rfl (by kernel_rfl) (by kernel_rfl) (by kernel_rfl) (fun _ _ _ h => h) (Or.inl ⟨by rfl, ?_⟩) (by assumption) ?_; rotate_left; (focus (intro w hSw; (try dsimp only at hSw); go_simp; try with_reducible rfl)); (try simp only [Act.put, List.getElem_toArray, List.getElem_cons_succ, List.getElem_cons_zero, List.setIfInBounds_toArray, List.set_cons_zero, List.set_cons_succ])
          refine wpAnyH_take (i := 1) (v := ?_) rfl (by kernel_rfl) (by kernel_rfl) (by kernel_rfl) (fun _ _ _ h => h) (Or.inl ⟨by rfl, ?_⟩) (by assumption) ?_; rotate_left; (focus (intro w hSw; (try dsimp only at hSw); go_simp; try with_reducible rfl)); (try simp only [Act.put, List.getElem_toArray, List.getElem_cons_succ, List.getElem_cons_zero, List.setIfInBounds_toArray, List.set_cons_zero, List.set_cons_succ])
          refine wpAnyH_take (i := 3) (v := ?_) rfl (by kernel_rfl) (by kernel_rfl) (by kernel_rfl) (fun _ _ _ h => h) (Or.inl ⟨by rfl, ?_⟩) (by assumption) ?_; rotate_left; (focus (intro w hSw; (try dsimp only at hSw); go_simp; try with_reducible rfl)); (try simp only [Act.put, List.getElem_toArray, List.getElem_cons_succ, List.getElem_cons_zero, List.setIfInBounds_toArray, List.set_cons_zero, List.set_cons_succ])
          refine wpAnyH_take (i := 4) (v := ?_) rfl (by kernel_rfl) (by kernel_rfl) (by kernel_rfl) (fun _ _ _ h => h) (Or.inl ⟨by rfl, ?_⟩) (by assumption) ?_; rotate_left; (focus (intro w hSw; (try dsimp only at hSw); go_simp; try with_reducible rfl)); (try simp only [Act.put, List.getElem_toArray, List.getElem_cons_succ, List.getElem_cons_zero, List.setIfInBounds_toArray, List.set_cons_zero, List.set_cons_succ])
          refine wpAnyH_take (i := 5) (v := ?_) rfl (by kernel_rfl) (by kernel_rfl) (by kernel_rfl) (fun _ _ _ h => h) (Or.inl ⟨by rfl, ?_⟩) (by assumption) ?_; rotate_left; (focus (intro w hSw; (try dsimp only at hSw); go_simp; try with_reducible rfl)); (try simp only [Act.put, List.getElem_toArray, List.getElem_cons_succ, List.getElem_cons_zero, List.setIfInBounds_toArray, List.set_cons_zero, List.set_cons_succ])
          refine wpAnyH_ready (rs := [2]) (by kernel_rfl) (by simp) (AllReadyH.cons rfl (fun K hK => ?_) AllReadyH.nil); go_simp; (refine (round_as at' 3 2 _ (by decide) (by decide) H2.out hr).mono ?_; rintro e w2 ⟨rfl, rfl⟩); go_wp2_with fail; refine hK.out _ _ ?_ (fun hHeld => ?_); (focus (exact True.intro)); clear hK K; (try simp only [Act.put, List.getElem_toArray, List.getElem_cons_succ, List.getElem_cons_zero, List.setIfInBounds_toArray, List.set_cons_zero, List.set_cons_succ])
          refine wpAnyH_take (i := 6) (v := ?_) rfl (by kernel_rfl) (by kernel_rfl) (by kernel_rfl) (fun _ _ _ h => h) (Or.inl ⟨by rfl, ?_⟩) (by assumption) ?_; rotate_left; (focus (intro w hSw; (try dsimp only at hSw); go_simp; try with_reducible rfl)); (try simp only [Act.put, List.getElem_toArray, List.getElem_cons_succ, List.getElem_cons_zero, List.setIfInBounds_toArray, List.set_cons_zero, List.set_cons_succ])
          refine wpAnyH_ready (rs := [7]) (by kernel_rfl) (by simp) (AllReadyH.cons rfl (fun K hK => ?_) AllReadyH.nil); go_simp; refine hK.out _ _ ?_ (fun hHeld => ?_); (focus (exact True.intro)); clear hK K; (try simp only [Act.put, List.getElem_toArray, List.getElem_cons_succ, List.getElem_cons_zero, List.setIfInBounds_toArray, List.set_cons_zero, List.set_cons_succ])
          refine wpAnyH_done (by kernel_rfl) ?_ _
          refine NoPanic.normal ?_
          go_wp2_with fail
          go_meet
          exact ⟨_, _, _, _, XDD.out⟩
      · have XD := Lib.hid (XSC.out.put rfl k hkl 6 (by decide) (.int .i64 x) { js[k] with lo := x } rfl ⟨IJ.out.kind, IJ.out.parent, IJ.out.x, IJ.out.y, IJ.out.z, (by unfold I64; dsimp only; omega), IJ.out.hi, IJ.out.weight, IJ.out.speed, IJ.out.accel, IJ.out.torque⟩)
        obtain ⟨u0, hu0⟩ := HC.out 6 (by decide)
        have hf0 := HF.out 6
        go_wp2_with fail
        go_meet
        exact ⟨_, _, _, _, XD.out⟩
      · have XD := Lib.hid (XSC.out.put rfl k hkl 7 (by decide) (.int .i64 x) { js[k] with hi := x } rfl ⟨IJ.out.kind, IJ.out.parent, IJ.out.x, IJ.out.y, IJ.out.z, IJ.out.lo, (by unfold I64; dsimp only; omega), IJ.out.weight, IJ.out.speed, IJ.out.accel, IJ.out.torque⟩)
        obtain ⟨u0, hu0⟩ := HC.out 7 (by decide)
        have hf0 := HF.out 7
        go_wp2_with fail
        go_meet
        exact ⟨_, _, _, _, XD.out⟩
      · obtain ⟨r, hr, rl⟩ := mod_nat (n := v) (k := 5) (by decide)
        obtain ⟨y, hix, hy1, hy2⟩ : ∃ y : Int, (∀ w, (Instr.index 71 (.agg #[.int .i64 0, .int .i64 1, .int .i64 1024, .int .i64 1025, .int .i64 (-1)]) (.int .i64 (r : Int))).run Tryd.prog w = .ok (.int .i64 y) w) ∧ -1099511627777 ≤ y ∧ y ≤ 1099511627777 := by
          rcases (show r = 0 ∨ r = 1 ∨ r = 2 ∨ r = 3 ∨ r = 4 by omega) with rfl | rfl | rfl | rfl | rfl
          · exact ⟨(0 : Int), fun w => by kernel_rfl, by decide, by decide⟩
          · exact ⟨(1 : Int), fun w => by kernel_rfl, by decide, by decide⟩
          · exact ⟨(1024 : Int), fun w => by kernel_rfl, by decide, by decide⟩
          · exact ⟨(1025 : Int), fun w => by kernel_rfl, by decide, by decide⟩
          · exact ⟨((-1) : Int), fun w => by kernel_rfl, by decide, by decide⟩
        have XD := Lib.hid (XSC.out.put rfl k hkl 8 (by decide) (.int .i64 y) { js[k] with weight := y } rfl ⟨IJ.out.kind, IJ.out.parent, IJ.out.x, IJ.out.y, IJ.out.z, IJ.out.lo, IJ.out.hi, (by unfold I64; dsimp only; omega), IJ.out.speed, IJ.out.accel, IJ.out.torque⟩)
        obtain ⟨u0, hu0⟩ := HC.out 8 (by decide)
        have hf0 := HF.out 8
        go_wp2_with fail
        refine (round_as v 5 r _ (by decide) (by decide) H3.out hr).mono ?_
        rintro e w2 ⟨rfl, rfl⟩
        go_wp2_with fail
        go_meet
        exact ⟨_, _, _, _, XD.out⟩
      · obtain ⟨r, hr, rl⟩ := mod_nat (n := v) (k := 4) (by decide)
        obtain ⟨y, hix, hy1, hy2⟩ : ∃ y : Int, (∀ w, (Instr.index 72 (.agg #[.int .i64 0, .int .i64 1, .int .i64 1048576, .int .i64 1048577]) (.int .i64 (r : Int))).run Tryd.prog w = .ok (.int .i64 y) w) ∧ -1099511627777 ≤ y ∧ y ≤ 1099511627777 := by
          rcases (show r = 0 ∨ r = 1 ∨ r = 2 ∨ r = 3 by omega) with rfl | rfl | rfl | rfl
          · exact ⟨(0 : Int), fun w => by kernel_rfl, by decide, by decide⟩
          · exact ⟨(1 : Int), fun w => by kernel_rfl, by decide, by decide⟩
          · exact ⟨(1048576 : Int), fun w => by kernel_rfl, by decide, by decide⟩
          · exact ⟨(1048577 : Int), fun w => by kernel_rfl, by decide, by decide⟩
        obtain ⟨s, hs, sl⟩ := mod_nat (n := at') (k := 4) (by decide)
        obtain ⟨z, hiz, hz1, hz2⟩ : ∃ y : Int, (∀ w, (Instr.index 72 (.agg #[.int .i64 0, .int .i64 1, .int .i64 1048576, .int .i64 1048577]) (.int .i64 (s : Int))).run Tryd.prog w = .ok (.int .i64 y) w) ∧ -1099511627777 ≤ y ∧ y ≤ 1099511627777 := by
          rcases (show s = 0 ∨ s = 1 ∨ s = 2 ∨ s = 3 by omega) with rfl | rfl | rfl | rfl
          · exact ⟨(0 : Int), fun w => by kernel_rfl, by decide, by decide⟩
          · exact ⟨(1 : Int), fun w => by kernel_rfl, by decide, by decide⟩
          · exact ⟨(1048576 : Int), fun w => by kernel_rfl, by decide, by decide⟩
          · exact ⟨(1048577 : Int), fun w => by kernel_rfl, by decide, by decide⟩
        have hiy := hix
        clear hix
        have XD := Lib.hid (XSC.out.put rfl k hkl 9 (by decide) (.int .i64 y) { js[k] with speed := y } rfl ⟨IJ.out.kind, IJ.out.parent, IJ.out.x, IJ.out.y, IJ.out.z, IJ.out.lo, IJ.out.hi, IJ.out.weight, (by unfold I64; dsimp only; omega), IJ.out.accel, IJ.out.torque⟩)
        have hk2 : (js.set k { js[k] with speed := y })[k]'(by rw [List.length_set]; exact hkl) = { js[k] with speed := y } := List.getElem_set_self _
        have XE := Lib.hid (XD.out.put (List.length_set ..).symm k (by rw [List.length_set]; exact hkl) 10 (by decide) (.int .i64 z) { js[k] with speed := y, accel := z } (by rw [hk2]; rfl) ⟨IJ.out.kind, IJ.out.parent, IJ.out.x, IJ.out.y, IJ.out.z, IJ.out.lo, IJ.out.hi, IJ.out.weight, (by unfold I64; dsimp only; omega), (by unfold I64; dsimp only; omega), IJ.out.torque⟩)
        have XF := Lib.hid (show XS w O ((Z.setCell ⟨gj, k * 12 + 9, none⟩ (.int .i64 y)).setCell ⟨gj, k * 12 + 10, none⟩ (.int .i64 z)).drew _ _ _ _ from XE.out.next ((Below.refl _ _).drew))
        obtain ⟨u0, hu0⟩ := HC.out 9 (by decide)
        have hf0 := HF.out 9
        obtain ⟨u1, hu1⟩ := HC.out 10 (by decide)
        have hf1 := HF.out 10
        clear hk2
        go_wp2_with fail
        refine wp_region_noPanic ?_
        refine wp_region_held_drew (S := (fun _ => True)) (by kernel_rfl) ?_ (fun hHeld => ?_)
        focus (exact True.intro)
        refine wpAnyH_take (i := 0) (v := ?_) rfl (by kernel_rfl) (by kernel_rfl) (by kernel_rfl) (fun _ _ _ h => h) (Or.inl ⟨by rfl, ?_⟩) (by assumption) ?_; rotate_left; (focus (intro w hSw; (try dsimp only at hSw); go_simp; try with_reducible rfl)); (try simp only [Act.put, List.getElem_toArray, List.getElem_cons_succ, List.getElem_cons_zero, List.setIfInBounds_toArray, List.set_cons_zero, List.set_cons_succ])
        refine wpAnyH_take (i := 1) (v := ?_) rfl (by kernel_rfl) (by kernel_rfl) (by kernel_rfl) (fun _ _ _ h => h) (Or.inl ⟨by rfl, ?_⟩) (by assumption) ?_; rotate_left; (focus (intro w hSw; (try dsimp only at hSw); go_simp; try with_reducible rfl)); (try simp only [Act.put, List.getElem_toArray, List.getElem_cons_succ, List.getElem_cons_zero, List.setIfInBounds_toArray, List.set_cons_zero, List.set_cons_succ])
        refine wpAnyH_take (i := 2) (v := ?_) rfl (by kernel_rfl) (by kernel_rfl) (by kernel_rfl) (fun _ _ _ h => h) (Or.inl ⟨by rfl, ?_⟩) (by assumption) ?_; rotate_left; (focus (intro w hSw; (try dsimp only at hSw); go_simp; try with_reducible rfl)); (try simp only [Act.put, List.getElem_toArray, List.getElem_cons_succ, List.getElem_cons_zero, List.setIfInBounds_toArray, List.set_cons_zero, List.set_cons_succ])
        refine wpAnyH_take (i := 3) (v := ?_) rfl (by kernel_rfl) (by kernel_rfl) (by kernel_rfl) (fun _ _ _ h => h) (Or.inl ⟨by rfl, ?_⟩) (by assumption) ?_; rotate_left; (focus (intro w hSw; (try dsimp only at hSw); go_simp; try with_reducible rfl)); (try simp only [Act.put, List.getElem_toArray, List.getElem_cons_succ, List.getElem_cons_zero, List.setIfInBounds_toArray, List.set_cons_zero, List.set_cons_succ])
        refine wpAnyH_take (i := 6) (v := ?_) rfl (by kernel_rfl) (by kernel_rfl) (by kernel_rfl) (fun _ _ _ h => h) (Or.inl ⟨by rfl, ?_⟩) (by assumption) ?_; rotate_left; (focus (intro w hSw; (try dsimp only at hSw); go_simp; try with_reducible rfl)); (try simp only [Act.put, List.getElem_toArray, List.getElem_cons_succ, List.getElem_cons_zero, List.setIfInBounds_toArray, List.set_cons_zero, List.set_cons_succ])
        refine wpAnyH_take (i := 7) (v := ?_) rfl (by kernel_rfl) (by kernel_rfl) (by kernel_rfl) (fun _ _ _ h => h) (Or.inl ⟨by rfl, ?_⟩) (by assumption) ?_; rotate_left; (focus (intro w hSw; (try dsimp only at hSw); go_simp; try with_reducible rfl)); (try simp only [Act.put, List.getElem_toArray, List.getElem_cons_succ, List.getElem_cons_zero, List.setIfInBounds_toArray, List.set_cons_zero, List.set_cons_succ])
        refine wpAnyH_ready (rs := [4]) (by kernel_rfl) (by simp) (AllReadyH.cons rfl (fun K hK => ?_) AllReadyH.nil); go_simp; (refine (round_as v 4 r _ (by decide) (by decide) H3.out hr).mono ?_; rintro e w2 ⟨rfl, rfl⟩); go_wp2_with fail; refine hK.out _ _ ?_ (fun hHeld => ?_); (focus (exact True.intro)); clear hK K; (try simp only [Act.put, List.getElem_toArray, List.getElem_cons_succ, List.getElem_cons_zero, List.setIfInBounds_toArray, List.set_cons_zero, List.set_cons_succ])
        refine wpAnyH_take (i := 5) (v := ?_) rfl (by kernel_rfl) (by kernel_rfl) (by kernel_rfl) (fun _ _ _ h => h) (Or.inl ⟨by rfl, ?_⟩) (by assumption) ?_; rotate_left; (focus (intro w hSw; (try dsimp only at hSw); go_simp; try with_reducible rfl)); (try simp only [Act.put, List.getElem_toArray, List.getElem_cons_succ, List.getElem_cons_zero, List.setIfInBounds_toArray, List.set_cons_zero, List.set_cons_succ])
        refine wpAnyH_ready (rs := [8]) (by kernel_rfl) (by simp) (AllReadyH.cons rfl (fun K hK => ?_) AllReadyH.nil); go_simp; (refine (round_as at' 4 s _ (by decide) (by decide) H2.out hs).mono ?_; rintro e w2 ⟨rfl, rfl⟩); go_wp2_with fail; refine hK.out _ _ ?_ (fun hHeld => ?_); (focus (exact True.intro)); clear hK K; (try simp only [Act.put, List.getElem_toArray, List.getElem_cons_succ, List.getElem_cons_zero, List.setIfInBounds_toArray, List.set_cons_zero, List.set_cons_succ])
        refine wpAnyH_take (i := 9) (v := ?_) rfl (by kernel_rfl) (by kernel_rfl) (by kernel_rfl) (fun _ _ _ h => h) (Or.inl ⟨by rfl, ?_⟩) (by assumption) ?_; rotate_left; (focus (intro w hSw; (try dsimp only at hSw); go_simp; try with_reducible rfl)); (try simp only [Act.put, List.getElem_toArray, List.getElem_cons_succ, List.getElem_cons_zero, List.setIfInBounds_toArray, List.set_cons_zero, List.set_cons_succ])
        refine wpAnyH_take (i := 10) (v := ?_) rfl (by kernel_rfl) (by kernel_rfl) (by kernel_rfl) (fun _ _ _ h => h) (Or.inl ⟨by rfl, ?_⟩) (by assumption) ?_; rotate_left; (focus (intro w hSw; (try dsimp only at hSw); go_simp; try with_reducible rfl)); (try simp only [Act.put, List.getElem_toArray, List.getElem_cons_succ, List.getElem_cons_zero, List.setIfInBounds_toArray, List.set_cons_zero, List.set_cons_succ])
        refine wpAnyH_take (i := 11) (v := ?_) rfl (by kernel_rfl) (by kernel_rfl) (by kernel_rfl) (fun _ _ _ h => h) (Or.inl ⟨by rfl, ?_⟩) (by assumption) ?_; rotate_left; (focus (intro w hSw; (try dsimp only at hSw); go_simp; try with_reducible rfl)); (try simp only [Act.put, List.getElem_toArray, List.getElem_cons_succ, List.getElem_cons_zero, List.setIfInBounds_toArray, List.set_cons_zero, List.set_cons_succ])
        refine wpAnyH_ready (rs := [12]) (by kernel_rfl) (by simp) (AllReadyH.cons rfl (fun K hK => ?_) AllReadyH.nil); go_simp; refine hK.out _ _ ?_ (fun hHeld => ?_); (focus (exact True.intro)); clear hK K; (try simp only [Act.put, List.getElem_toArray, List.getElem_cons_succ, List.getElem_cons_zero, List.setIfInBounds_toArray, List.set_cons_zero, List.set_cons_succ])
        refine wpAnyH_take (i := 13) (v := ?_) rfl (by kernel_rfl) (by kernel_rfl) (by kernel_rfl) (fun _ _ _ h => h) (Or.inl ⟨by rfl, ?_⟩) (by assumption) ?_; rotate_left; (focus (intro w hSw; (try dsimp only at hSw); go_simp; try with_reducible rfl)); (try simp only [Act.put, List.getElem_toArray, List.getElem_cons_succ, List.getElem_cons_zero, List.setIfInBounds_toArray, List.set_cons_zero, List.set_cons_succ])
        refine wpAnyH_take (i := 14) (v := ?_) rfl (by kernel_rfl) (by kernel_rfl) (by kernel_rfl) (fun _ _ _ h => h) (Or.inl ⟨by rfl, ?_⟩) (by assumption) ?_; rotate_left; (focus (intro w hSw; (try dsimp only at hSw); go_simp; try with_reducible rfl)); (try simp only [Act.put, List.getElem_toArray, List.getElem_cons_succ, List.getElem_cons_zero, List.setIfInBounds_toArray, List.set_cons_zero, List.set_cons_succ])
        refine wpAnyH_ready (rs := [15]) (by kernel_rfl) (by simp) (AllReadyH.cons rfl (fun K hK => ?_) AllReadyH.nil); go_simp; refine hK.out _ _ ?_ (fun hHeld => ?_); (focus (exact True.intro)); clear hK K; (try simp only [Act.put, List.getElem_toArray, List.getElem_cons_succ, List.getElem_cons_zero, List.setIfInBounds_toArray, List.set_cons_zero, List.set_cons_succ])
        refine wpAnyH_done (by kernel_rfl) ?_ _
        refine NoPanic.normal ?_
        go_wp2_with fail
        go_meet
        exact ⟨_, _, _, _, XF.out⟩
      · obtain ⟨r, hr, rl⟩ := mod_nat (n := v) (k := 4) (by decide)
        obtain ⟨y, hix, hy1, hy2⟩ : ∃ y : Int, (∀ w, (Instr.index 72 (.agg #[.int .i64 0, .int .i64 1, .int .i64 1099511627776, .int .i64 1099511627777]) (.int .i64 (r : Int))).run Tryd.prog w = .ok (.int .i64 y) w) ∧ -1099511627777 ≤ y ∧ y ≤ 1099511627777 := by
          rcases (show r = 0 ∨ r = 1 ∨ r = 2 ∨ r = 3 by omega) with rfl | rfl | rfl | rfl
          · exact ⟨(0 : Int), fun w => by kernel_rfl, by decide, by decide⟩
          · exact ⟨(1 : Int), fun w => by kernel_rfl, by decide, by decide⟩
          · exact ⟨(1099511627776 : Int), fun w => by kernel_rfl, by decide, by decide⟩
          · exact ⟨(1099511627777 : Int), fun w => by kernel_rfl, by decide, by decide⟩
        have XD := Lib.hid (XSC.out.put rfl k hkl 11 (by decide) (.int .i64 y) { js[k] with torque := y } rfl ⟨IJ.out.kind, IJ.out.parent, IJ.out.x, IJ.out.y, IJ.out.z, IJ.out.lo, IJ.out.hi, IJ.out.weight, IJ.out.speed, IJ.out.accel, (by unfold I64; dsimp only; omega)⟩)
        obtain ⟨u0, hu0⟩ := HC.out 11 (by decide)
        have hf0 := HF.out 11
        go_wp2_with fail
        refine (round_as v 4 r _ (by decide) (by decide) H3.out hr).mono ?_
        rintro e w2 ⟨rfl, rfl⟩
        go_wp2_with fail
        go_meet
        exact ⟨_, _, _, _, XD.out⟩
      · obtain ⟨r, hr, rl⟩ := mod_nat (n := v) (k := 6) (by decide)
        obtain ⟨s, hs, sl⟩ := mod_nat (n := at') (k := 4) (by decide)
        obtain ⟨z, hiz, hz1, hz2⟩ : ∃ y : Int, (∀ w, (Instr.index 72 (.agg #[.int .i64 0, .int .i64 1, .int .i64 65536, .int .i64 65537]) (.int .i64 (s : Int))).run Tryd.prog w = .ok (.int .i64 y) w) ∧ -1099511627777 ≤ y ∧ y ≤ 1099511627777 := by
          rcases (show s = 0 ∨ s = 1 ∨ s = 2 ∨ s = 3 by omega) with rfl | rfl | rfl | rfl
          · exact ⟨(0 : Int), fun w => by kernel_rfl, by decide, by decide⟩
          · exact ⟨(1 : Int), fun w => by kernel_rfl, by decide, by decide⟩
          · exact ⟨(65536 : Int), fun w => by kernel_rfl, by decide, by decide⟩
          · exact ⟨(65537 : Int), fun w => by kernel_rfl, by decide, by decide⟩
        have HIM1 := Lib.hid (show InM (⟨(r : Int) - 1, z, x, 0, 0⟩ : MassD) from ⟨by unfold I64; dsimp only; omega, by unfold I64; dsimp only; omega, by unfold I64; dsimp only; omega, by unfold I64; dsimp only; omega, by unfold I64; dsimp only; omega⟩)
        have hwr := IntWalk.i64_in ((r : Int) - 1) (by omega)
        have c1 := XSC.out.ro.c1
        have hOl := XSC.out.ro.lt'
        have hZs := XSC.out.bl.size
        go_wp2_with fail
        refine wp_region_noPanic ?_
        refine wp_region_held_drew (S := (fun _ => True)) (by kernel_rfl) ?_ (fun hHeld => ?_)
        focus (exact True.intro)
        refine wpAnyH_take (i := 0) (v := ?_) rfl (by kernel_rfl) (by kernel_rfl) (by kernel_rfl) (fun _ _ _ h => h) (Or.inl ⟨by rfl, ?_⟩) (by assumption) ?_; rotate_left; (focus (intro w hSw; (try dsimp only at hSw); go_simp; try with_reducible rfl)); (try simp only [Act.put, List.getElem_toArray, List.getElem_cons_succ, List.getElem_cons_zero, List.setIfInBounds_toArray, List.set_cons_zero, List.set_cons_succ])
        refine wpAnyH_take (i := 2) (v := ?_) rfl (by kernel_rfl) (by kernel_rfl) (by kernel_rfl) (fun _ _ _ h => h) (Or.inl ⟨by rfl, ?_⟩) (by assumption) ?_; rotate_left; (focus (intro w hSw; (try dsimp only at hSw); go_simp; try with_reducible rfl)); (try simp only [Act.put, List.getElem_toArray, List.getElem_cons_succ, List.getElem_cons_zero, List.setIfInBounds_toArray, List.set_cons_zero, List.set_cons_succ])
        refine wpAnyH_take (i := 5) (v := ?_) rfl (by kernel_rfl) (by kernel_rfl) (by kernel_rfl) (fun _ _ _ h => h) (Or.inl ⟨by rfl, ?_⟩) (by assumption) ?_; rotate_left; (focus (intro w hSw; (try dsimp only at hSw); go_simp; try with_reducible rfl)); (try simp only [Act.put, List.getElem_toArray, List.getElem_cons_succ, List.getElem_cons_zero, List.setIfInBounds_toArray, List.set_cons_zero, List.set_cons_succ])
        refine wpAnyH_take (i := 6) (v := ?_) rfl (by kernel_rfl) (by kernel_rfl) (by kernel_rfl) (fun _ _ _ h => h) (Or.inl ⟨by rfl, ?_⟩) (by assumption) ?_; rotate_left; (focus (intro w hSw; (try dsimp only at hSw); go_simp; try with_reducible rfl)); (try simp only [Act.put, List.getElem_toArray, List.getElem_cons_succ, List.getElem_cons_zero, List.setIfInBounds_toArray, List.set_cons_zero, List.set_cons_succ])
        refine wpAnyH_take (i := 9) (v := ?_) rfl (by kernel_rfl) (by kernel_rfl) (by kernel_rfl) (fun _ _ _ h => h) (Or.inl ⟨by rfl, ?_⟩) (by assumption) ?_; rotate_left; (focus (intro w hSw; (try dsimp only at hSw); go_simp; try with_reducible rfl)); (try simp only [Act.put, List.getElem_toArray, List.getElem_cons_succ, List.getElem_cons_zero, List.setIfInBounds_toArray, List.set_cons_zero, List.set_cons_succ])
        refine wpAnyH_take (i := 10) (v := ?_) rfl (by kernel_rfl) (by kernel_rfl) (by kernel_rfl) (fun _ _ _ h => h) (Or.inl ⟨by rfl, ?_⟩) (by assumption) ?_; rotate_left; (focus (intro w hSw; (try dsimp only at hSw); go_simp; try with_reducible rfl)); (try simp only [Act.put, List.getElem_toArray, List.getElem_cons_succ, List.getElem_cons_zero, List.setIfInBounds_toArray, List.set_cons_zero, List.set_cons_succ])
        refine wpAnyH_ready (rs := [1, 3]) (by kernel_rfl) (by simp) (AllReadyH.cons rfl (fun K hK => ?_) (AllReadyH.cons rfl (fun K hK => ?_) (AllReadyH.nil)))
        · go_simp; refine hK.out _ _ ?_ (fun hHeld => ?_); (focus (exact True.intro)); clear hK K; (try simp only [Act.put, List.getElem_toArray, List.getElem_cons_succ, List.getElem_cons_zero, List.setIfInBounds_toArray, List.set_cons_zero, List.set_cons_succ])
          refine wpAnyH_ready (rs := [3]) (by kernel_rfl) (by simp) (AllReadyH.cons rfl (fun K hK => ?_) (AllReadyH.nil))
          go_simp; (refine (round_as v 6 r _ (by decide) (by decide) H3.out hr).mono ?_; rintro e w2 ⟨rfl, rfl⟩); go_wp2_with fail; refine hK.out _ _ ?_ (fun hHeld => ?_); (focus (exact True.intro)); clear hK K; (try simp only [Act.put, List.getElem_toArray, List.getElem_cons_succ, List.getElem_cons_zero, List.setIfInBounds_toArray, List.set_cons_zero, List.set_cons_succ])
          refine wpAnyH_take (i := 4) (v := ?_) rfl (by kernel_rfl) (by kernel_rfl) (by kernel_rfl) (fun _ _ _ h => h) (Or.inl ⟨by rfl, ?_⟩) (by assumption) ?_; rotate_left; (focus (intro w hSw; (try dsimp only at hSw); go_simp; try with_reducible rfl)); (try simp only [Act.put, List.getElem_toArray, List.getElem_cons_succ, List.getElem_cons_zero, List.setIfInBounds_toArray, List.set_cons_zero, List.set_cons_succ])
          refine wpAnyH_ready (rs := [7]) (by kernel_rfl) (by simp) (AllReadyH.cons rfl (fun K hK => ?_) (AllReadyH.nil))
          go_simp; (refine (round_as at' 4 s _ (by decide) (by decide) H2.out hs).mono ?_; rintro e w2 ⟨rfl, rfl⟩); go_wp2_with fail; refine hK.out _ _ ?_ (fun hHeld => ?_); (focus (exact True.intro)); clear hK K; (try simp only [Act.put, List.getElem_toArray, List.getElem_cons_succ, List.getElem_cons_zero, List.setIfInBounds_toArray, List.set_cons_zero, List.set_cons_succ])
          refine wpAnyH_take (i := 8) (v := ?_) rfl (by kernel_rfl) (by kernel_rfl) (by kernel_rfl) (fun _ _ _ h => h) (Or.inl ⟨by rfl, ?_⟩) (by assumption) ?_; rotate_left; (focus (intro w hSw; (try dsimp only at hSw); go_simp; try with_reducible rfl)); (try simp only [Act.put, List.getElem_toArray, List.getElem_cons_succ, List.getElem_cons_zero, List.setIfInBounds_toArray, List.set_cons_zero, List.set_cons_succ])
          refine wpAnyH_take (i := 11) (v := ?_) rfl (by kernel_rfl) (by kernel_rfl) (by kernel_rfl) (fun _ _ _ h => h) (Or.inl ⟨by rfl, ?_⟩) (by assumption) ?_; rotate_left; (focus (intro w hSw; (try dsimp only at hSw); go_simp; try with_reducible rfl)); (try simp only [Act.put, List.getElem_toArray, List.getElem_cons_succ, List.getElem_cons_zero, List.setIfInBounds_toArray, List.set_cons_zero, List.set_cons_succ])
          refine wpAnyH_ready (rs := [12]) (by kernel_rfl) (by simp) (AllReadyH.cons rfl (fun K hK => ?_) (AllReadyH.nil))
          go_simp; refine hK.out _ _ ?_ (fun hHeld => ?_); (focus (exact True.intro)); clear hK K; (try simp only [Act.put, List.getElem_toArray, List.getElem_cons_succ, List.getElem_cons_zero, List.setIfInBounds_toArray, List.set_cons_zero, List.set_cons_succ])
          refine wpAnyH_ready (rs := [13]) (by kernel_rfl) (by simp) (AllReadyH.cons rfl (fun K hK => ?_) (AllReadyH.nil))
          rw [if_pos (by rfl)]; have XG := Lib.hid (show XS w O (Z.alloc (.cells #[.int .i64 ((r : Int) - 1), .int .i64 z, .int .i64 x, .int .i64 0, .int .i64 0] 74)).drew js ms (.slice (some ⟨gj, 0, none⟩) js.length capj) (.slice qm ms.length cm2) from (XSC.out.next ((Below.refl _ _).alloc (Nat.le_refl _) _)).next ((Below.refl _ _).drew)); refine wp_append_own _ (.tmp 131) (.tmp 142) 23 rfl w.heap.size 74 i1 (.agg (massC ⟨0, 0, 0, 0, 0⟩)) 5 40 under_masses MI.out MZ0.out MZ1.out MZ2.out rfl (by decide) _ ms.length (mcells ms) rfl XG.out.om ⟨Z.heap.size, 0, none⟩ 1 1 (massC (⟨(r : Int) - 1, z, x, 0, 0⟩ : MassD)).toList rfl (by rfl) (show ∀ k u, (massC (⟨(r : Int) - 1, z, x, 0, 0⟩ : MassD)).toList[k]? = some u → ((Z.alloc (.cells #[.int .i64 ((r : Int) - 1), .int .i64 z, .int .i64 x, .int .i64 0, .int .i64 0] 74)).drew).cell? ((⟨Z.heap.size, 0, none⟩ : Addr).add k) = some u from mass_news _ (⟨(r : Int) - 1, z, x, 0, 0⟩ : MassD)) (mass_ones (⟨(r : Int) - 1, z, x, 0, 0⟩ : MassD)) (by unfold maxLen; omega) (by omega) XG.out.bl.size ?_; intro v2 w7 hown2 hgrow _; obtain ⟨g4, cap4, rfl⟩ := own_form hown2 (by omega); obtain ⟨hrob, hpush⟩ := XG.out.pushM hown2 hgrow (by omega) HIM1.out; have XP := Lib.hid hpush; have c1 := hrob.c1; have f1 := hrob.free 1; clear hown2 hgrow hpush hrob; refine hK.out _ _ ?_ (fun hHeld => ?_); (focus (exact True.intro)); clear hK K; (try simp only [Act.put, List.getElem_toArray, List.getElem_cons_succ, List.getElem_cons_zero, List.setIfInBounds_toArray, List.set_cons_zero, List.set_cons_succ])
          refine wpAnyH_take (i := 14) (v := ?_) rfl (by kernel_rfl) (by kernel_rfl) (by kernel_rfl) (fun _ _ _ h => h) (Or.inl ⟨by rfl, ?_⟩) (by assumption) ?_; rotate_left; (focus (intro w hSw; (try dsimp only at hSw); go_simp; try with_reducible rfl)); (try simp only [Act.put, List.getElem_toArray, List.getElem_cons_succ, List.getElem_cons_zero, List.setIfInBounds_toArray, List.set_cons_zero, List.set_cons_succ])
          refine wpAnyH_ready (rs := [15]) (by kernel_rfl) (by simp) (AllReadyH.cons rfl (fun K hK => ?_) (AllReadyH.nil))
          go_simp; refine hK.out _ _ ?_ (fun hHeld => ?_); (focus (exact True.intro)); clear hK K; (try simp only [Act.put, List.getElem_toArray, List.getElem_cons_succ, List.getElem_cons_zero, List.setIfInBounds_toArray, List.set_cons_zero, List.set_cons_succ])
          refine wpAnyH_done (by kernel_rfl) ?_ _
          refine NoPanic.normal ?_
          go_wp2_with fail
          go_meet
          exact ⟨_, _, _, _, XP.out⟩
        · go_simp; (refine (round_as v 6 r _ (by decide) (by decide) H3.out hr).mono ?_; rintro e w2 ⟨rfl, rfl⟩); go_wp2_with fail; refine hK.out _ _ ?_ (fun hHeld => ?_); (focus (exact True.intro)); clear hK K; (try simp only [Act.put, List.getElem_toArray, List.getElem_cons_succ, List.getElem_cons_zero, List.setIfInBounds_toArray, List.set_cons_zero, List.set_cons_succ])
          refine wpAnyH_take (i := 4) (v := ?_) rfl (by kernel_rfl) (by kernel_rfl) (by kernel_rfl) (fun _ _ _ h => h) (Or.inl ⟨by rfl, ?_⟩) (by assumption) ?_; rotate_left; (focus (intro w hSw; (try dsimp only at hSw); go_simp; try with_reducible rfl)); (try simp only [Act.put, List.getElem_toArray, List.getElem_cons_succ, List.getElem_cons_zero, List.setIfInBounds_toArray, List.set_cons_zero, List.set_cons_succ])
          refine wpAnyH_ready (rs := [1, 7]) (by kernel_rfl) (by simp) (AllReadyH.cons rfl (fun K hK => ?_) (AllReadyH.cons rfl (fun K hK => ?_) (AllReadyH.nil)))
          · go_simp; refine hK.out _ _ ?_ (fun hHeld => ?_); (focus (exact True.intro)); clear hK K; (try simp only [Act.put, List.getElem_toArray, List.getElem_cons_succ, List.getElem_cons_zero, List.setIfInBounds_toArray, List.set_cons_zero, List.set_cons_succ])
            refine wpAnyH_ready (rs := [7]) (by kernel_rfl) (by simp) (AllReadyH.cons rfl (fun K hK => ?_) (AllReadyH.nil))
            go_simp; (refine (round_as at' 4 s _ (by decide) (by decide) H2.out hs).mono ?_; rintro e w2 ⟨rfl, rfl⟩); go_wp2_with fail; refine hK.out _ _ ?_ (fun hHeld => ?_); (focus (exact True.intro)); clear hK K; (try simp only [Act.put, List.getElem_toArray, List.getElem_cons_succ, List.getElem_cons_zero, List.setIfInBounds_toArray, List.set_cons_zero, List.set_cons_succ])
            refine wpAnyH_take (i := 8) (v := ?_) rfl (by kernel_rfl) (by kernel_rfl) (by kernel_rfl) (fun _ _ _ h => h) (Or.inl ⟨by rfl, ?_⟩) (by assumption) ?_; rotate_left; (focus (intro w hSw; (try dsimp only at hSw); go_simp; try with_reducible rfl)); (try simp only [Act.put, List.getElem_toArray, List.getElem_cons_succ, List.getElem_cons_zero, List.setIfInBounds_toArray, List.set_cons_zero, List.set_cons_succ])
            refine wpAnyH_take (i := 11) (v := ?_) rfl (by kernel_rfl) (by kernel_rfl) (by kernel_rfl) (fun _ _ _ h => h) (Or.inl ⟨by rfl, ?_⟩) (by assumption) ?_; rotate_left; (focus (intro w hSw; (try dsimp only at hSw); go_simp; try with_reducible rfl)); (try simp only [Act.put, List.getElem_toArray, List.getElem_cons_succ, List.getElem_cons_zero, List.setIfInBounds_toArray, List.set_cons_zero, List.set_cons_succ])
            refine wpAnyH_ready (rs := [12]) (by kernel_rfl) (by simp) (AllReadyH.cons rfl (fun K hK => ?_) (AllReadyH.nil))
            go_simp; refine hK.out _ _ ?_ (fun hHeld => ?_); (focus (exact True.intro)); clear hK K; (try simp only [Act.put, List.getElem_toArray, List.getElem_cons_succ, List.getElem_cons_zero, List.setIfInBounds_toArray, List.set_cons_zero, List.set_cons_succ])
            refine wpAnyH_ready (rs := [13]) (by kernel_rfl) (by simp) (AllReadyH.cons rfl (fun K hK => ?_) (AllReadyH.nil))
            rw [if_pos (by rfl)]; have XG := Lib.hid (show XS w O (Z.alloc (.cells #[.int .i64 ((r : Int) - 1), .int .i64 z, .int .i64 x, .int .i64 0, .int .i64 0] 74)).drew js ms (.slice (some ⟨gj, 0, none⟩) js.length capj) (.slice qm ms.length cm2) from (XSC.out.next ((Below.refl _ _).alloc (Nat.le_refl _) _)).next ((Below.refl _ _).drew)); refine wp_append_own _ (.tmp 131) (.tmp 142) 23 rfl w.heap.size 74 i1 (.agg (massC ⟨0, 0, 0, 0, 0⟩)) 5 40 under_masses MI.out MZ0.out MZ1.out MZ2.out rfl (by decide) _ ms.length (mcells ms) rfl XG.out.om ⟨Z.heap.size, 0, none⟩ 1 1 (massC (⟨(r : Int) - 1, z, x, 0, 0⟩ : MassD)).toList rfl (by rfl) (show ∀ k u, (massC (⟨(r : Int) - 1, z, x, 0, 0⟩ : MassD)).toList[k]? = some u → ((Z.alloc (.cells #[.int .i64 ((r : Int) - 1), .int .i64 z, .int .i64 x, .int .i64 0, .int .i64 0] 74)).drew).cell? ((⟨Z.heap.size, 0, none⟩ : Addr).add k) = some u from mass_news _ (⟨(r : Int) - 1, z, x, 0, 0⟩ : MassD)) (mass_ones (⟨(r : Int) - 1, z, x, 0, 0⟩ : MassD)) (by unfold maxLen; omega) (by omega) XG.out.bl.size ?_; intro v2 w7 hown2 hgrow _; obtain ⟨g4, cap4, rfl⟩ := own_form hown2 (by omega); obtain ⟨hrob, hpush⟩ := XG.out.pushM hown2 hgrow (by omega) HIM1.out; have XP := Lib.hid hpush; have c1 := hrob.c1; have f1 := hrob.free 1; clear hown2 hgrow hpush hrob; refine hK.out _ _ ?_ (fun hHeld => ?_); (focus (exact True.intro)); clear hK K; (try simp only [Act.put, List.getElem_toArray, List.getElem_cons_succ, List.getElem_cons_zero, List.setIfInBounds_toArray, List.set_cons_zero, List.set_cons_succ])
            refine wpAnyH_take (i := 14) (v := ?_) rfl (by kernel_rfl) (by kernel_rfl) (by kernel_rfl) (fun _ _ _ h => h) (Or.inl ⟨by rfl, ?_⟩) (by assumption) ?_; rotate_left; (focus (intro w hSw; (try dsimp only at hSw); go_simp; try with_reducible rfl)); (try simp only [Act.put, List.getElem_toArray, List.getElem_cons_succ, List.getElem_cons_zero, List.setIfInBounds_toArray, List.set_cons_zero, List.set_cons_succ])
            refine wpAnyH_ready (rs := [15]) (by kernel_rfl) (by simp) (AllReadyH.cons rfl (fun K hK => ?_) (AllReadyH.nil))
            go_simp; refine hK.out _ _ ?_ (fun hHeld => ?_); (focus (exact True.intro)); clear hK K; (try simp only [Act.put, List.getElem_toArray, List.getElem_cons_succ, List.getElem_cons_zero, List.setIfInBounds_toArray, List.set_cons_zero, List.set_cons_succ])
            refine wpAnyH_done (by kernel_rfl) ?_ _
            refine NoPanic.normal ?_
            go_wp2_with fail
            go_meet
            exact ⟨_, _, _, _, XP.out⟩
          · go_simp; (refine (round_as at' 4 s _ (by decide) (by decide) H2.out hs).mono ?_; rintro e w2 ⟨rfl, rfl⟩); go_wp2_with fail; refine hK.out _ _ ?_ (fun hHeld => ?_); (focus (exact True.intro)); clear hK K; (try simp only [Act.put, List.getElem_toArray, List.getElem_cons_succ, List.getElem_cons_zero, List.setIfInBounds_toArray, List.set_cons_zero, List.set_cons_succ])
            refine wpAnyH_take (i := 8) (v := ?_) rfl (by kernel_rfl) (by kernel_rfl) (by kernel_rfl) (fun _ _ _ h => h) (Or.inl ⟨by rfl, ?_⟩) (by assumption) ?_; rotate_left; (focus (intro w hSw; (try dsimp only at hSw); go_simp; try with_reducible rfl)); (try simp only [Act.put, List.getElem_toArray, List.getElem_cons_succ, List.getElem_cons_zero, List.setIfInBounds_toArray, List.set_cons_zero, List.set_cons_succ])
            refine wpAnyH_take (i := 11) (v := ?_) rfl (by kernel_rfl) (by kernel_rfl) (by kernel_rfl) (fun _ _ _ h => h) (Or.inl ⟨by rfl, ?_⟩) (by assumption) ?_; rotate_left; (focus (intro w hSw; (try dsimp only at hSw); go_simp; try with_reducible rfl)); (try simp only [Act.put, List.getElem_toArray, List.getElem_cons_succ, List.getElem_cons_zero, List.setIfInBounds_toArray, List.set_cons_zero, List.set_cons_succ])
            refine wpAnyH_ready (rs := [1, 12]) (by kernel_rfl) (by simp) (AllReadyH.cons rfl (fun K hK => ?_) (AllReadyH.cons rfl (fun K hK => ?_) (AllReadyH.nil)))
            · go_simp; refine hK.out _ _ ?_ (fun hHeld => ?_); (focus (exact True.intro)); clear hK K; (try simp only [Act.put, List.getElem_toArray, List.getElem_cons_succ, List.getElem_cons_zero, List.setIfInBounds_toArray, List.set_cons_zero, List.set_cons_succ])
              refine wpAnyH_ready (rs := [12]) (by kernel_rfl) (by simp) (AllReadyH.cons rfl (fun K hK => ?_) (AllReadyH.nil))
              go_simp; refine hK.out _ _ ?_ (fun hHeld => ?_); (focus (exact True.intro)); clear hK K; (try simp only [Act.put, List.getElem_toArray, List.getElem_cons_succ, List.getElem_cons_zero, List.setIfInBounds_toArray, List.set_cons_zero, List.set_cons_succ])
              refine wpAnyH_ready (rs := [13]) (by kernel_rfl) (by simp) (AllReadyH.cons rfl (fun K hK => ?_) (AllReadyH.nil))
              rw [if_pos (by rfl)]; have XG := Lib.hid (show XS w O (Z.alloc (.cells #[.int .i64 ((r : Int) - 1), .int .i64 z, .int .i64 x, .int .i64 0, .int .i64 0] 74)).drew js ms (.slice (some ⟨gj, 0, none⟩) js.length capj) (.slice qm ms.length cm2) from (XSC.out.next ((Below.refl _ _).alloc (Nat.le_refl _) _)).next ((Below.refl _ _).drew)); refine wp_append_own _ (.tmp 131) (.tmp 142) 23 rfl w.heap.size 74 i1 (.agg (massC ⟨0, 0, 0, 0, 0⟩)) 5 40 under_masses MI.out MZ0.out MZ1.out MZ2.out rfl (by decide) _ ms.length (mcells ms) rfl XG.out.om ⟨Z.heap.size, 0, none⟩ 1 1 (massC (⟨(r : Int) - 1, z, x, 0, 0⟩ : MassD)).toList rfl (by rfl) (show ∀ k u, (massC (⟨(r : Int) - 1, z, x, 0, 0⟩ : MassD)).toList[k]? = some u → ((Z.alloc (.cells #[.int .i64 ((r : Int) - 1), .int .i64 z, .int .i64 x, .int .i64 0, .int .i64 0] 74)).drew).cell? ((⟨Z.heap.size, 0, none⟩ : Addr).add k) = some u from mass_news _ (⟨(r : Int) - 1, z, x, 0, 0⟩ : MassD)) (mass_ones (⟨(r : Int) - 1, z, x, 0, 0⟩ : MassD)) (by unfold maxLen; omega) (by omega) XG.out.bl.size ?_; intro v2 w7 hown2 hgrow _; obtain ⟨g4, cap4, rfl⟩ := own_form hown2 (by omega); obtain ⟨hrob, hpush⟩ := XG.out.pushM hown2 hgrow (by omega) HIM1.out; have XP := Lib.hid hpush; have c1 := hrob.c1; have f1 := hrob.free 1; clear hown2 hgrow hpush hrob; refine hK.out _ _ ?_ (fun hHeld => ?_); (focus (exact True.intro)); clear hK K; (try simp only [Act.put, List.getElem_toArray, List.getElem_cons_succ, List.getElem_cons_zero, List.setIfInBounds_toArray, List.set_cons_zero, List.set_cons_succ])
              refine wpAnyH_take (i := 14) (v := ?_) rfl (by kernel_rfl) (by kernel_rfl) (by kernel_rfl) (fun _ _ _ h => h) (Or.inl ⟨by rfl, ?_⟩) (by assumption) ?_; rotate_left; (focus (intro w hSw; (try dsimp only at hSw); go_simp; try with_reducible rfl)); (try simp only [Act.put, List.getElem_toArray, List.getElem_cons_succ, List.getElem_cons_zero, List.setIfInBounds_toArray, List.set_cons_zero, List.set_cons_succ])
              refine wpAnyH_ready (rs := [15]) (by kernel_rfl) (by simp) (AllReadyH.cons rfl (fun K hK => ?_) (AllReadyH.nil))
              go_simp; refine hK.out _ _ ?_ (fun hHeld => ?_); (focus (exact True.intro)); clear hK K; (try simp only [Act.put, List.getElem_toArray, List.getElem_cons_succ, List.getElem_cons_zero, List.setIfInBounds_toArray, List.set_cons_zero, List.set_cons_succ])
              refine wpAnyH_done (by kernel_rfl) ?_ _
              refine NoPanic.normal ?_
              go_wp2_with fail
              go_meet
              exact ⟨_, _, _, _, XP.out⟩
            · go_simp; refine hK.out _ _ ?_ (fun hHeld => ?_); (focus (exact True.intro)); clear hK K; (try simp only [Act.put, List.getElem_toArray, List.getElem_cons_succ, List.getElem_cons_zero, List.setIfInBounds_toArray, List.set_cons_zero, List.set_cons_succ])
              refine wpAnyH_ready (rs := [1]) (by kernel_rfl) (by simp) (AllReadyH.cons rfl (fun K hK => ?_) (AllReadyH.nil))
              go_simp; refine hK.out _ _ ?_ (fun hHeld => ?_); (focus (exact True.intro)); clear hK K; (try simp only [Act.put, List.getElem_toArray, List.getElem_cons_succ, List.getElem_cons_zero, List.setIfInBounds_toArray, List.set_cons_zero, List.set_cons_succ])
              refine wpAnyH_ready (rs := [13]) (by kernel_rfl) (by simp) (AllReadyH.cons rfl (fun K hK => ?_) (AllReadyH.nil))
              rw [if_pos (by rfl)]; have XG := Lib.hid (show XS w O (Z.alloc (.cells #[.int .i64 ((r : Int) - 1), .int .i64 z, .int .i64 x, .int .i64 0, .int .i64 0] 74)).drew js ms (.slice (some ⟨gj, 0, none⟩) js.length capj) (.slice qm ms.length cm2) from (XSC.out.next ((Below.refl _ _).alloc (Nat.le_refl _) _)).next ((Below.refl _ _).drew)); refine wp_append_own _ (.tmp 131) (.tmp 142) 23 rfl w.heap.size 74 i1 (.agg (massC ⟨0, 0, 0, 0, 0⟩)) 5 40 under_masses MI.out MZ0.out MZ1.out MZ2.out rfl (by decide) _ ms.length (mcells ms) rfl XG.out.om ⟨Z.heap.size, 0, none⟩ 1 1 (massC (⟨(r : Int) - 1, z, x, 0, 0⟩ : MassD)).toList rfl (by rfl) (show ∀ k u, (massC (⟨(r : Int) - 1, z, x, 0, 0⟩ : MassD)).toList[k]? = some u → ((Z.alloc (.cells #[.int .i64 ((r : Int) - 1), .int .i64 z, .int .i64 x, .int .i64 0, .int .i64 0] 74)).drew).cell? ((⟨Z.heap.size, 0, none⟩ : Addr).add k) = some u from mass_news _ (⟨(r : Int) - 1, z, x, 0, 0⟩ : MassD)) (mass_ones (⟨(r : Int) - 1, z, x, 0, 0⟩ : MassD)) (by unfold maxLen; omega) (by omega) XG.out.bl.size ?_; intro v2 w7 hown2 hgrow _; obtain ⟨g4, cap4, rfl⟩ := own_form hown2 (by omega); obtain ⟨hrob, hpush⟩ := XG.out.pushM hown2 hgrow (by omega) HIM1.out; have XP := Lib.hid hpush; have c1 := hrob.c1; have f1 := hrob.free 1; clear hown2 hgrow hpush hrob; refine hK.out _ _ ?_ (fun hHeld => ?_); (focus (exact True.intro)); clear hK K; (try simp only [Act.put, List.getElem_toArray, List.getElem_cons_succ, List.getElem_cons_zero, List.setIfInBounds_toArray, List.set_cons_zero, List.set_cons_succ])
              refine wpAnyH_take (i := 14) (v := ?_) rfl (by kernel_rfl) (by kernel_rfl) (by kernel_rfl) (fun _ _ _ h => h) (Or.inl ⟨by rfl, ?_⟩) (by assumption) ?_; rotate_left; (focus (intro w hSw; (try dsimp only at hSw); go_simp; try with_reducible rfl)); (try simp only [Act.put, List.getElem_toArray, List.getElem_cons_succ, List.getElem_cons_zero, List.setIfInBounds_toArray, List.set_cons_zero, List.set_cons_succ])
              refine wpAnyH_ready (rs := [15]) (by kernel_rfl) (by simp) (AllReadyH.cons rfl (fun K hK => ?_) (AllReadyH.nil))
              go_simp; refine hK.out _ _ ?_ (fun hHeld => ?_); (focus (exact True.intro)); clear hK K; (try simp only [Act.put, List.getElem_toArray, List.getElem_cons_succ, List.getElem_cons_zero, List.setIfInBounds_toArray, List.set_cons_zero, List.set_cons_succ])
              refine wpAnyH_done (by kernel_rfl) ?_ _
              refine NoPanic.normal ?_
              go_wp2_with fail
              go_meet
              exact ⟨_, _, _, _, XP.out⟩
      · obtain ⟨r, hr, rl⟩ := mod_nat (n := v) (k := 2) (by decide)
        go_wp2_with fail
        go_loopw [] (fun wr => ∃ js vj, XS w O wr js ms vj (.slice qm ms.length cm2)) (fun wr => 11 - lenJ O wr)
        case atStart => exact ⟨js, _, XSC.out⟩
        case round =>
          clear HC HF IJ HIJ HIM XSC
          obtain ⟨js, vj, hxs⟩ := hrel
          obtain ⟨qj, cj2, rfl⟩ := own_cap hxs.oj
          have c0 := hxs.ro.c0
          have hlm := lenJ_of hxs.ro.c0
          have XSC := Lib.hid hxs
          have hOl := hxs.ro.lt'
          have hZs := hxs.bl.size
          have hjl := hxs.lj
          clear hxs
          go_wp2_with fail
          go_quiet (first | (go_at_call 16; refine Calls.quiet_of_same (round_as v 2 r _ (by decide) (by decide) H3.out hr)))
          have XSD := Lib.hid (show XS w O (wr.drewN nq) js ms (.slice qj js.length cj2) (.slice qm ms.length cm2) from XSC.out.next (bl_drewN (Below.refl _ _)))
          obtain ⟨V, hV⟩ : ∃ V, wr.drewN nq = V := ⟨_, rfl⟩
          have hVs : wr.heap.size ≤ V.heap.size := by rw [← hV]; exact Nat.le_refl _
          rw [hV] at XSD ⊢
          clear hV c0 XSC
          have c0 := XSD.out.ro.c0
          by_cases hlt : (js.length : Int) < 10 + (r : Int)
          · have hOV := XSD.out.ro.lt'
            go_wp2_with fail
            refine wp_region_noPanic ?_
            refine wp_region_held_drew (S := (fun _ => True)) (by kernel_rfl) ?_ (fun hHeld => ?_)
            focus (exact True.intro)
            refine wpAnyH_take (i := 0) (v := ?_) rfl (by kernel_rfl) (by kernel_rfl) (by kernel_rfl) (fun _ _ _ h => h) (Or.inl ⟨by rfl, ?_⟩) (by assumption) ?_; rotate_left; (focus (intro w hSw; (try dsimp only at hSw); go_simp; try with_reducible rfl)); (try simp only [Act.put, List.getElem_toArray, List.getElem_cons_succ, List.getElem_cons_zero, List.setIfInBounds_toArray, List.set_cons_zero, List.set_cons_succ])
            refine wpAnyH_take (i := 2) (v := ?_) rfl (by kernel_rfl) (by kernel_rfl) (by kernel_rfl) (fun _ _ _ h => h) (Or.inl ⟨by rfl, ?_⟩) (by assumption) ?_; rotate_left; (focus (intro w hSw; (try dsimp only at hSw); go_simp; try with_reducible rfl)); (try simp only [Act.put, List.getElem_toArray, List.getElem_cons_succ, List.getElem_cons_zero, List.setIfInBounds_toArray, List.set_cons_zero, List.set_cons_succ])
            refine wpAnyH_ready (rs := [1, 3]) (by kernel_rfl) (by simp) (AllReadyH.cons rfl (fun K hK => ?_) (AllReadyH.cons rfl (fun K hK => ?_) (AllReadyH.nil)))
            · go_simp; refine hK.out _ _ ?_ (fun hHeld => ?_); (focus (exact True.intro)); clear hK K; (try simp only [Act.put, List.getElem_toArray, List.getElem_cons_succ, List.getElem_cons_zero, List.setIfInBounds_toArray, List.set_cons_zero, List.set_cons_succ])
              refine wpAnyH_ready (rs := [3]) (by kernel_rfl) (by simp) (AllReadyH.cons rfl (fun K hK => ?_) (AllReadyH.nil))
              go_simp; refine hK.out _ _ ?_ (fun hHeld => ?_); (focus (exact True.intro)); clear hK K; (try simp only [Act.put, List.getElem_toArray, List.getElem_cons_succ, List.getElem_cons_zero, List.setIfInBounds_toArray, List.set_cons_zero, List.set_cons_succ])
              refine wpAnyH_take (i := 4) (v := ?_) rfl (by kernel_rfl) (by kernel_rfl) (by kernel_rfl) (fun _ _ _ h => h) (Or.inl ⟨by rfl, ?_⟩) (by assumption) ?_; rotate_left; (focus (intro w hSw; (try dsimp only at hSw); go_simp; try with_reducible rfl)); (try simp only [Act.put, List.getElem_toArray, List.getElem_cons_succ, List.getElem_cons_zero, List.setIfInBounds_toArray, List.set_cons_zero, List.set_cons_succ])
              refine wpAnyH_ready (rs := [5]) (by kernel_rfl) (by simp) (AllReadyH.cons rfl (fun K hK => ?_) (AllReadyH.nil))
              go_simp; (refine (rDecimal_any js.length 1 _ _ _ rfl rfl (by omega) (by decide)).mono ?_; rintro e w9 ⟨dj, db, rfl, hdl, hdb, rfl⟩; have hds : db.size ≤ 2 := (by have := congrArg List.length hdb; rw [bts_len, decD_len] at this; have := dec_two hdl (by omega); omega); have hcat : ¬ (9223372036854775807 < 1 + db.size) := (by omega)); go_wp2_with fail; refine hK.out _ _ ?_ (fun hHeld => ?_); (focus (exact True.intro)); clear hK K; (try simp only [Act.put, List.getElem_toArray, List.getElem_cons_succ, List.getElem_cons_zero, List.setIfInBounds_toArray, List.set_cons_zero, List.set_cons_succ])
              refine wpAnyH_take (i := 6) (v := ?_) rfl (by kernel_rfl) (by kernel_rfl) (by kernel_rfl) (fun _ _ _ h => h) (Or.inl ⟨by rfl, ?_⟩) (by assumption) ?_; rotate_left; (focus (intro w hSw; (try dsimp only at hSw); go_simp; try with_reducible rfl)); (try simp only [Act.put, List.getElem_toArray, List.getElem_cons_succ, List.getElem_cons_zero, List.setIfInBounds_toArray, List.set_cons_zero, List.set_cons_succ])
              refine wpAnyH_take (i := 7) (v := ?_) rfl (by kernel_rfl) (by kernel_rfl) (by kernel_rfl) (fun _ _ _ h => h) (Or.inl ⟨by rfl, ?_⟩) (by assumption) ?_; rotate_left; (focus (intro w hSw; (try dsimp only at hSw); go_simp; try with_reducible rfl)); (try simp only [Act.put, List.getElem_toArray, List.getElem_cons_succ, List.getElem_cons_zero, List.setIfInBounds_toArray, List.set_cons_zero, List.set_cons_succ])
              refine wpAnyH_ready (rs := [8]) (by kernel_rfl) (by simp) (AllReadyH.cons rfl (fun K hK => ?_) (AllReadyH.nil))
              go_simp; refine hK.out _ _ ?_ (fun hHeld => ?_); (focus (exact True.intro)); clear hK K; (try simp only [Act.put, List.getElem_toArray, List.getElem_cons_succ, List.getElem_cons_zero, List.setIfInBounds_toArray, List.set_cons_zero, List.set_cons_succ])
              refine wpAnyH_ready (rs := [9]) (by kernel_rfl) (by simp) (AllReadyH.cons rfl (fun K hK => ?_) (AllReadyH.nil))
              rw [if_pos (by rfl)]; have XG := Lib.hid (show XS w O (V.alloc (.cells #[.string ((⟨#[113]⟩ : ByteArray) ++ db), .int .i64 0, .int .i64 (-1), .int .i64 0, .int .i64 0, .int .i64 0, .int .i64 0, .int .i64 0, .int .i64 1, .int .i64 1, .int .i64 1, .int .i64 1] 60)).drew js ms (.slice qj js.length cj2) (.slice qm ms.length cm2) from (XSD.out.next ((Below.refl _ _).alloc (Nat.le_refl _) _)).next ((Below.refl _ _).drew)); refine wp_append_own _ (.tmp 155) (.tmp 162) 22 rfl w.heap.size 60 i0 (.agg (jointC zeroJ)) 12 104 under_joints HI.out HZ0.out HZ1.out HZ2.out rfl (by decide) _ js.length (jcells js) rfl XG.out.oj ⟨V.heap.size, 0, none⟩ 1 1 (jointC (⟨(⟨#[113]⟩ : ByteArray) ++ db, 0, -1, 0, 0, 0, 0, 0, 1, 1, 1, 1⟩ : JointD)).toList rfl (by rfl) (show ∀ k u, (jointC (⟨(⟨#[113]⟩ : ByteArray) ++ db, 0, -1, 0, 0, 0, 0, 0, 1, 1, 1, 1⟩ : JointD)).toList[k]? = some u → (V.alloc (.cells #[.string ((⟨#[113]⟩ : ByteArray) ++ db), .int .i64 0, .int .i64 (-1), .int .i64 0, .int .i64 0, .int .i64 0, .int .i64 0, .int .i64 0, .int .i64 1, .int .i64 1, .int .i64 1, .int .i64 1] 60)).drew.cell? ((⟨V.heap.size, 0, none⟩ : Addr).add k) = some u from joint_news V (⟨(⟨#[113]⟩ : ByteArray) ++ db, 0, -1, 0, 0, 0, 0, 0, 1, 1, 1, 1⟩ : JointD)) (joint_ones (⟨(⟨#[113]⟩ : ByteArray) ++ db, 0, -1, 0, 0, 0, 0, 0, 1, 1, 1, 1⟩ : JointD)) (by unfold maxLen; omega) (by omega) XG.out.bl.size ?_; intro v2 w7 hown2 hgrow _; obtain ⟨g4, cap4, rfl⟩ := own_form hown2 (by omega); obtain ⟨hrob, hpush⟩ := XG.out.pushJ hown2 hgrow (by omega) (in_q _); have XP := Lib.hid hpush; have c0 := hrob.c0; have f0 := hrob.free 0; have hlm2 := lenJ_of hpush.ro.c0; clear hown2 hgrow hpush hrob; refine hK.out _ _ ?_ (fun hHeld => ?_); (focus (exact True.intro)); clear hK K; (try simp only [Act.put, List.getElem_toArray, List.getElem_cons_succ, List.getElem_cons_zero, List.setIfInBounds_toArray, List.set_cons_zero, List.set_cons_succ])
              refine wpAnyH_take (i := 10) (v := ?_) rfl (by kernel_rfl) (by kernel_rfl) (by kernel_rfl) (fun _ _ _ h => h) (Or.inl ⟨by rfl, ?_⟩) (by assumption) ?_; rotate_left; (focus (intro w hSw; (try dsimp only at hSw); go_simp; try with_reducible rfl)); (try simp only [Act.put, List.getElem_toArray, List.getElem_cons_succ, List.getElem_cons_zero, List.setIfInBounds_toArray, List.set_cons_zero, List.set_cons_succ])
              refine wpAnyH_ready (rs := [11]) (by kernel_rfl) (by simp) (AllReadyH.cons rfl (fun K hK => ?_) (AllReadyH.nil))
              go_simp; refine hK.out _ _ ?_ (fun hHeld => ?_); (focus (exact True.intro)); clear hK K; (try simp only [Act.put, List.getElem_toArray, List.getElem_cons_succ, List.getElem_cons_zero, List.setIfInBounds_toArray, List.set_cons_zero, List.set_cons_succ])
              refine wpAnyH_done (by kernel_rfl) ?_ _
              refine NoPanic.normal ?_
              go_wp2_with fail
              go_roundw
              case rel => exact ⟨_, _, _, _, _, _, _, _, _, _, _, _, _, _, _, _, _, _, ⟨_, _, XP.out⟩, rfl⟩
              case measure => rw [hlm2, hlm]; omega
            · go_simp; refine hK.out _ _ ?_ (fun hHeld => ?_); (focus (exact True.intro)); clear hK K; (try simp only [Act.put, List.getElem_toArray, List.getElem_cons_succ, List.getElem_cons_zero, List.setIfInBounds_toArray, List.set_cons_zero, List.set_cons_succ])
              refine wpAnyH_take (i := 4) (v := ?_) rfl (by kernel_rfl) (by kernel_rfl) (by kernel_rfl) (fun _ _ _ h => h) (Or.inl ⟨by rfl, ?_⟩) (by assumption) ?_; rotate_left; (focus (intro w hSw; (try dsimp only at hSw); go_simp; try with_reducible rfl)); (try simp only [Act.put, List.getElem_toArray, List.getElem_cons_succ, List.getElem_cons_zero, List.setIfInBounds_toArray, List.set_cons_zero, List.set_cons_succ])
              refine wpAnyH_ready (rs := [1, 5]) (by kernel_rfl) (by simp) (AllReadyH.cons rfl (fun K hK => ?_) (AllReadyH.cons rfl (fun K hK => ?_) (AllReadyH.nil)))
              · go_simp; refine hK.out _ _ ?_ (fun hHeld => ?_); (focus (exact True.intro)); clear hK K; (try simp only [Act.put, List.getElem_toArray, List.getElem_cons_succ, List.getElem_cons_zero, List.setIfInBounds_toArray, List.set_cons_zero, List.set_cons_succ])
                refine wpAnyH_ready (rs := [5]) (by kernel_rfl) (by simp) (AllReadyH.cons rfl (fun K hK => ?_) (AllReadyH.nil))
                go_simp; (refine (rDecimal_any js.length 1 _ _ _ rfl rfl (by omega) (by decide)).mono ?_; rintro e w9 ⟨dj, db, rfl, hdl, hdb, rfl⟩; have hds : db.size ≤ 2 := (by have := congrArg List.length hdb; rw [bts_len, decD_len] at this; have := dec_two hdl (by omega); omega); have hcat : ¬ (9223372036854775807 < 1 + db.size) := (by omega)); go_wp2_with fail; refine hK.out _ _ ?_ (fun hHeld => ?_); (focus (exact True.intro)); clear hK K; (try simp only [Act.put, List.getElem_toArray, List.getElem_cons_succ, List.getElem_cons_zero, List.setIfInBounds_toArray, List.set_cons_zero, List.set_cons_succ])
                refine wpAnyH_take (i := 6) (v := ?_) rfl (by kernel_rfl) (by kernel_rfl) (by kernel_rfl) (fun _ _ _ h => h) (Or.inl ⟨by rfl, ?_⟩) (by assumption) ?_; rotate_left; (focus (intro w hSw; (try dsimp only at hSw); go_simp; try with_reducible rfl)); (try simp only [Act.put, List.getElem_toArray, List.getElem_cons_succ, List.getElem_cons_zero, List.setIfInBounds_toArray, List.set_cons_zero, List.set_cons_succ])
                refine wpAnyH_take (i := 7) (v := ?_) rfl (by kernel_rfl) (by kernel_rfl) (by kernel_rfl) (fun _ _ _ h => h) (Or.inl ⟨by rfl, ?_⟩) (by assumption) ?_; rotate_left; (focus (intro w hSw; (try dsimp only at hSw); go_simp; try with_reducible rfl)); (try simp only [Act.put, List.getElem_toArray, List.getElem_cons_succ, List.getElem_cons_zero, List.setIfInBounds_toArray, List.set_cons_zero, List.set_cons_succ])
                refine wpAnyH_ready (rs := [8]) (by kernel_rfl) (by simp) (AllReadyH.cons rfl (fun K hK => ?_) (AllReadyH.nil))
                go_simp; refine hK.out _ _ ?_ (fun hHeld => ?_); (focus (exact True.intro)); clear hK K; (try simp only [Act.put, List.getElem_toArray, List.getElem_cons_succ, List.getElem_cons_zero, List.setIfInBounds_toArray, List.set_cons_zero, List.set_cons_succ])
                refine wpAnyH_ready (rs := [9]) (by kernel_rfl) (by simp) (AllReadyH.cons rfl (fun K hK => ?_) (AllReadyH.nil))
                rw [if_pos (by rfl)]; have XG := Lib.hid (show XS w O (V.alloc (.cells #[.string ((⟨#[113]⟩ : ByteArray) ++ db), .int .i64 0, .int .i64 (-1), .int .i64 0, .int .i64 0, .int .i64 0, .int .i64 0, .int .i64 0, .int .i64 1, .int .i64 1, .int .i64 1, .int .i64 1] 60)).drew js ms (.slice qj js.length cj2) (.slice qm ms.length cm2) from (XSD.out.next ((Below.refl _ _).alloc (Nat.le_refl _) _)).next ((Below.refl _ _).drew)); refine wp_append_own _ (.tmp 155) (.tmp 162) 22 rfl w.heap.size 60 i0 (.agg (jointC zeroJ)) 12 104 under_joints HI.out HZ0.out HZ1.out HZ2.out rfl (by decide) _ js.length (jcells js) rfl XG.out.oj ⟨V.heap.size, 0, none⟩ 1 1 (jointC (⟨(⟨#[113]⟩ : ByteArray) ++ db, 0, -1, 0, 0, 0, 0, 0, 1, 1, 1, 1⟩ : JointD)).toList rfl (by rfl) (show ∀ k u, (jointC (⟨(⟨#[113]⟩ : ByteArray) ++ db, 0, -1, 0, 0, 0, 0, 0, 1, 1, 1, 1⟩ : JointD)).toList[k]? = some u → (V.alloc (.cells #[.string ((⟨#[113]⟩ : ByteArray) ++ db), .int .i64 0, .int .i64 (-1), .int .i64 0, .int .i64 0, .int .i64 0, .int .i64 0, .int .i64 0, .int .i64 1, .int .i64 1, .int .i64 1, .int .i64 1] 60)).drew.cell? ((⟨V.heap.size, 0, none⟩ : Addr).add k) = some u from joint_news V (⟨(⟨#[113]⟩ : ByteArray) ++ db, 0, -1, 0, 0, 0, 0, 0, 1, 1, 1, 1⟩ : JointD)) (joint_ones (⟨(⟨#[113]⟩ : ByteArray) ++ db, 0, -1, 0, 0, 0, 0, 0, 1, 1, 1, 1⟩ : JointD)) (by unfold maxLen; omega) (by omega) XG.out.bl.size ?_; intro v2 w7 hown2 hgrow _; obtain ⟨g4, cap4, rfl⟩ := own_form hown2 (by omega); obtain ⟨hrob, hpush⟩ := XG.out.pushJ hown2 hgrow (by omega) (in_q _); have XP := Lib.hid hpush; have c0 := hrob.c0; have f0 := hrob.free 0; have hlm2 := lenJ_of hpush.ro.c0; clear hown2 hgrow hpush hrob; refine hK.out _ _ ?_ (fun hHeld => ?_); (focus (exact True.intro)); clear hK K; (try simp only [Act.put, List.getElem_toArray, List.getElem_cons_succ, List.getElem_cons_zero, List.setIfInBounds_toArray, List.set_cons_zero, List.set_cons_succ])
                refine wpAnyH_take (i := 10) (v := ?_) rfl (by kernel_rfl) (by kernel_rfl) (by kernel_rfl) (fun _ _ _ h => h) (Or.inl ⟨by rfl, ?_⟩) (by assumption) ?_; rotate_left; (focus (intro w hSw; (try dsimp only at hSw); go_simp; try with_reducible rfl)); (try simp only [Act.put, List.getElem_toArray, List.getElem_cons_succ, List.getElem_cons_zero, List.setIfInBounds_toArray, List.set_cons_zero, List.set_cons_succ])
                refine wpAnyH_ready (rs := [11]) (by kernel_rfl) (by simp) (AllReadyH.cons rfl (fun K hK => ?_) (AllReadyH.nil))
                go_simp; refine hK.out _ _ ?_ (fun hHeld => ?_); (focus (exact True.intro)); clear hK K; (try simp only [Act.put, List.getElem_toArray, List.getElem_cons_succ, List.getElem_cons_zero, List.setIfInBounds_toArray, List.set_cons_zero, List.set_cons_succ])
                refine wpAnyH_done (by kernel_rfl) ?_ _
                refine NoPanic.normal ?_
                go_wp2_with fail
                go_roundw
                case rel => exact ⟨_, _, _, _, _, _, _, _, _, _, _, _, _, _, _, _, _, _, ⟨_, _, XP.out⟩, rfl⟩
                case measure => rw [hlm2, hlm]; omega
              · go_simp; (refine (rDecimal_any js.length 1 _ _ _ rfl rfl (by omega) (by decide)).mono ?_; rintro e w9 ⟨dj, db, rfl, hdl, hdb, rfl⟩; have hds : db.size ≤ 2 := (by have := congrArg List.length hdb; rw [bts_len, decD_len] at this; have := dec_two hdl (by omega); omega); have hcat : ¬ (9223372036854775807 < 1 + db.size) := (by omega)); go_wp2_with fail; refine hK.out _ _ ?_ (fun hHeld => ?_); (focus (exact True.intro)); clear hK K; (try simp only [Act.put, List.getElem_toArray, List.getElem_cons_succ, List.getElem_cons_zero, List.setIfInBounds_toArray, List.set_cons_zero, List.set_cons_succ])
                refine wpAnyH_take (i := 6) (v := ?_) rfl (by kernel_rfl) (by kernel_rfl) (by kernel_rfl) (fun _ _ _ h => h) (Or.inl ⟨by rfl, ?_⟩) (by assumption) ?_; rotate_left; (focus (intro w hSw; (try dsimp only at hSw); go_simp; try with_reducible rfl)); (try simp only [Act.put, List.getElem_toArray, List.getElem_cons_succ, List.getElem_cons_zero, List.setIfInBounds_toArray, List.set_cons_zero, List.set_cons_succ])
                refine wpAnyH_take (i := 7) (v := ?_) rfl (by kernel_rfl) (by kernel_rfl) (by kernel_rfl) (fun _ _ _ h => h) (Or.inl ⟨by rfl, ?_⟩) (by assumption) ?_; rotate_left; (focus (intro w hSw; (try dsimp only at hSw); go_simp; try with_reducible rfl)); (try simp only [Act.put, List.getElem_toArray, List.getElem_cons_succ, List.getElem_cons_zero, List.setIfInBounds_toArray, List.set_cons_zero, List.set_cons_succ])
                refine wpAnyH_ready (rs := [1, 8]) (by kernel_rfl) (by simp) (AllReadyH.cons rfl (fun K hK => ?_) (AllReadyH.cons rfl (fun K hK => ?_) (AllReadyH.nil)))
                · go_simp; refine hK.out _ _ ?_ (fun hHeld => ?_); (focus (exact True.intro)); clear hK K; (try simp only [Act.put, List.getElem_toArray, List.getElem_cons_succ, List.getElem_cons_zero, List.setIfInBounds_toArray, List.set_cons_zero, List.set_cons_succ])
                  refine wpAnyH_ready (rs := [8]) (by kernel_rfl) (by simp) (AllReadyH.cons rfl (fun K hK => ?_) (AllReadyH.nil))
                  go_simp; refine hK.out _ _ ?_ (fun hHeld => ?_); (focus (exact True.intro)); clear hK K; (try simp only [Act.put, List.getElem_toArray, List.getElem_cons_succ, List.getElem_cons_zero, List.setIfInBounds_toArray, List.set_cons_zero, List.set_cons_succ])
                  refine wpAnyH_ready (rs := [9]) (by kernel_rfl) (by simp) (AllReadyH.cons rfl (fun K hK => ?_) (AllReadyH.nil))
                  rw [if_pos (by rfl)]; have XG := Lib.hid (show XS w O (V.alloc (.cells #[.string ((⟨#[113]⟩ : ByteArray) ++ db), .int .i64 0, .int .i64 (-1), .int .i64 0, .int .i64 0, .int .i64 0, .int .i64 0, .int .i64 0, .int .i64 1, .int .i64 1, .int .i64 1, .int .i64 1] 60)).drew js ms (.slice qj js.length cj2) (.slice qm ms.length cm2) from (XSD.out.next ((Below.refl _ _).alloc (Nat.le_refl _) _)).next ((Below.refl _ _).drew)); refine wp_append_own _ (.tmp 155) (.tmp 162) 22 rfl w.heap.size 60 i0 (.agg (jointC zeroJ)) 12 104 under_joints HI.out HZ0.out HZ1.out HZ2.out rfl (by decide) _ js.length (jcells js) rfl XG.out.oj ⟨V.heap.size, 0, none⟩ 1 1 (jointC (⟨(⟨#[113]⟩ : ByteArray) ++ db, 0, -1, 0, 0, 0, 0, 0, 1, 1, 1, 1⟩ : JointD)).toList rfl (by rfl) (show ∀ k u, (jointC (⟨(⟨#[113]⟩ : ByteArray) ++ db, 0, -1, 0, 0, 0, 0, 0, 1, 1, 1, 1⟩ : JointD)).toList[k]? = some u → (V.alloc (.cells #[.string ((⟨#[113]⟩ : ByteArray) ++ db), .int .i64 0, .int .i64 (-1), .int .i64 0, .int .i64 0, .int .i64 0, .int .i64 0, .int .i64 0, .int .i64 1, .int .i64 1, .int .i64 1, .int .i64 1] 60)).drew.cell? ((⟨V.heap.size, 0, none⟩ : Addr).add k) = some u from joint_news V (⟨(⟨#[113]⟩ : ByteArray) ++ db, 0, -1, 0, 0, 0, 0, 0, 1, 1, 1, 1⟩ : JointD)) (joint_ones (⟨(⟨#[113]⟩ : ByteArray) ++ db, 0, -1, 0, 0, 0, 0, 0, 1, 1, 1, 1⟩ : JointD)) (by unfold maxLen; omega) (by omega) XG.out.bl.size ?_; intro v2 w7 hown2 hgrow _; obtain ⟨g4, cap4, rfl⟩ := own_form hown2 (by omega); obtain ⟨hrob, hpush⟩ := XG.out.pushJ hown2 hgrow (by omega) (in_q _); have XP := Lib.hid hpush; have c0 := hrob.c0; have f0 := hrob.free 0; have hlm2 := lenJ_of hpush.ro.c0; clear hown2 hgrow hpush hrob; refine hK.out _ _ ?_ (fun hHeld => ?_); (focus (exact True.intro)); clear hK K; (try simp only [Act.put, List.getElem_toArray, List.getElem_cons_succ, List.getElem_cons_zero, List.setIfInBounds_toArray, List.set_cons_zero, List.set_cons_succ])
                  refine wpAnyH_take (i := 10) (v := ?_) rfl (by kernel_rfl) (by kernel_rfl) (by kernel_rfl) (fun _ _ _ h => h) (Or.inl ⟨by rfl, ?_⟩) (by assumption) ?_; rotate_left; (focus (intro w hSw; (try dsimp only at hSw); go_simp; try with_reducible rfl)); (try simp only [Act.put, List.getElem_toArray, List.getElem_cons_succ, List.getElem_cons_zero, List.setIfInBounds_toArray, List.set_cons_zero, List.set_cons_succ])
                  refine wpAnyH_ready (rs := [11]) (by kernel_rfl) (by simp) (AllReadyH.cons rfl (fun K hK => ?_) (AllReadyH.nil))
                  go_simp; refine hK.out _ _ ?_ (fun hHeld => ?_); (focus (exact True.intro)); clear hK K; (try simp only [Act.put, List.getElem_toArray, List.getElem_cons_succ, List.getElem_cons_zero, List.setIfInBounds_toArray, List.set_cons_zero, List.set_cons_succ])
                  refine wpAnyH_done (by kernel_rfl) ?_ _
                  refine NoPanic.normal ?_
                  go_wp2_with fail
                  go_roundw
                  case rel => exact ⟨_, _, _, _, _, _, _, _, _, _, _, _, _, _, _, _, _, _, ⟨_, _, XP.out⟩, rfl⟩
                  case measure => rw [hlm2, hlm]; omega
                · go_simp; refine hK.out _ _ ?_ (fun hHeld => ?_); (focus (exact True.intro)); clear hK K; (try simp only [Act.put, List.getElem_toArray, List.getElem_cons_succ, List.getElem_cons_zero, List.setIfInBounds_toArray, List.set_cons_zero, List.set_cons_succ])
                  refine wpAnyH_ready (rs := [1]) (by kernel_rfl) (by simp) (AllReadyH.cons rfl (fun K hK => ?_) (AllReadyH.nil))
                  go_simp; refine hK.out _ _ ?_ (fun hHeld => ?_); (focus (exact True.intro)); clear hK K; (try simp only [Act.put, List.getElem_toArray, List.getElem_cons_succ, List.getElem_cons_zero, List.setIfInBounds_toArray, List.set_cons_zero, List.set_cons_succ])
                  refine wpAnyH_ready (rs := [9]) (by kernel_rfl) (by simp) (AllReadyH.cons rfl (fun K hK => ?_) (AllReadyH.nil))
                  rw [if_pos (by rfl)]; have XG := Lib.hid (show XS w O (V.alloc (.cells #[.string ((⟨#[113]⟩ : ByteArray) ++ db), .int .i64 0, .int .i64 (-1), .int .i64 0, .int .i64 0, .int .i64 0, .int .i64 0, .int .i64 0, .int .i64 1, .int .i64 1, .int .i64 1, .int .i64 1] 60)).drew js ms (.slice qj js.length cj2) (.slice qm ms.length cm2) from (XSD.out.next ((Below.refl _ _).alloc (Nat.le_refl _) _)).next ((Below.refl _ _).drew)); refine wp_append_own _ (.tmp 155) (.tmp 162) 22 rfl w.heap.size 60 i0 (.agg (jointC zeroJ)) 12 104 under_joints HI.out HZ0.out HZ1.out HZ2.out rfl (by decide) _ js.length (jcells js) rfl XG.out.oj ⟨V.heap.size, 0, none⟩ 1 1 (jointC (⟨(⟨#[113]⟩ : ByteArray) ++ db, 0, -1, 0, 0, 0, 0, 0, 1, 1, 1, 1⟩ : JointD)).toList rfl (by rfl) (show ∀ k u, (jointC (⟨(⟨#[113]⟩ : ByteArray) ++ db, 0, -1, 0, 0, 0, 0, 0, 1, 1, 1, 1⟩ : JointD)).toList[k]? = some u → (V.alloc (.cells #[.string ((⟨#[113]⟩ : ByteArray) ++ db), .int .i64 0, .int .i64 (-1), .int .i64 0, .int .i64 0, .int .i64 0, .int .i64 0, .int .i64 0, .int .i64 1, .int .i64 1, .int .i64 1, .int .i64 1] 60)).drew.cell? ((⟨V.heap.size, 0, none⟩ : Addr).add k) = some u from joint_news V (⟨(⟨#[113]⟩ : ByteArray) ++ db, 0, -1, 0, 0, 0, 0, 0, 1, 1, 1, 1⟩ : JointD)) (joint_ones (⟨(⟨#[113]⟩ : ByteArray) ++ db, 0, -1, 0, 0, 0, 0, 0, 1, 1, 1, 1⟩ : JointD)) (by unfold maxLen; omega) (by omega) XG.out.bl.size ?_; intro v2 w7 hown2 hgrow _; obtain ⟨g4, cap4, rfl⟩ := own_form hown2 (by omega); obtain ⟨hrob, hpush⟩ := XG.out.pushJ hown2 hgrow (by omega) (in_q _); have XP := Lib.hid hpush; have c0 := hrob.c0; have f0 := hrob.free 0; have hlm2 := lenJ_of hpush.ro.c0; clear hown2 hgrow hpush hrob; refine hK.out _ _ ?_ (fun hHeld => ?_); (focus (exact True.intro)); clear hK K; (try simp only [Act.put, List.getElem_toArray, List.getElem_cons_succ, List.getElem_cons_zero, List.setIfInBounds_toArray, List.set_cons_zero, List.set_cons_succ])
                  refine wpAnyH_take (i := 10) (v := ?_) rfl (by kernel_rfl) (by kernel_rfl) (by kernel_rfl) (fun _ _ _ h => h) (Or.inl ⟨by rfl, ?_⟩) (by assumption) ?_; rotate_left; (focus (intro w hSw; (try dsimp only at hSw); go_simp; try with_reducible rfl)); (try simp only [Act.put, List.getElem_toArray, List.getElem_cons_succ, List.getElem_cons_zero, List.setIfInBounds_toArray, List.set_cons_zero, List.set_cons_succ])
                  refine wpAnyH_ready (rs := [11]) (by kernel_rfl) (by simp) (AllReadyH.cons rfl (fun K hK => ?_) (AllReadyH.nil))
                  go_simp; refine hK.out _ _ ?_ (fun hHeld => ?_); (focus (exact True.intro)); clear hK K; (try simp only [Act.put, List.getElem_toArray, List.getElem_cons_succ, List.getElem_cons_zero, List.setIfInBounds_toArray, List.set_cons_zero, List.set_cons_succ])
                  refine wpAnyH_done (by kernel_rfl) ?_ _
                  refine NoPanic.normal ?_
                  go_wp2_with fail
                  go_roundw
                  case rel => exact ⟨_, _, _, _, _, _, _, _, _, _, _, _, _, _, _, _, _, _, ⟨_, _, XP.out⟩, rfl⟩
                  case measure => rw [hlm2, hlm]; omega
          · go_wp2_with fail
            go_meet
            exact ⟨_, _, _, _, XSD.out⟩
      · obtain ⟨r, hr, rl⟩ := mod_nat (n := v) (k := 2) (by decide)
        have HIM1 := Lib.hid (show InM (⟨0, 1, 0, 0, 0⟩ : MassD) from ⟨by unfold I64; decide, by unfold I64; decide, by unfold I64; decide, by unfold I64; decide, by unfold I64; decide⟩)
        go_wp2_with fail
        go_loopw [] (fun wr => ∃ ms vm, XS w O wr js ms (.slice (some ⟨gj, 0, none⟩) js.length capj) vm ∧ ms.length ≤ 33) (fun wr => 33 - lenM O wr)
        case atStart => exact ⟨ms, _, XSC.out, by omega⟩
        case round =>
          clear HC HF IJ HIJ HIM XSC
          obtain ⟨ms, vm, hxs, hml⟩ := hrel
          obtain ⟨qm, cm2, rfl⟩ := own_cap hxs.om
          have c1 := hxs.ro.c1
          have hlm := lenM_of hxs.ro.c1
          have XSC := Lib.hid hxs
          have hOl := hxs.ro.lt'
          have hZs := hxs.bl.size
          clear hxs
          go_wp2_with fail
          go_quiet (first | (go_at_call 16; refine Calls.quiet_of_same (round_as v 2 r _ (by decide) (by decide) H3.out hr)))
          have XSD := Lib.hid (show XS w O (wr.drewN nq) js ms (.slice (some ⟨gj, 0, none⟩) js.length capj) (.slice qm ms.length cm2) from XSC.out.next (bl_drewN (Below.refl _ _)))
          obtain ⟨V, hV⟩ : ∃ V, wr.drewN nq = V := ⟨_, rfl⟩
          have hVs : wr.heap.size ≤ V.heap.size := by rw [← hV]; exact Nat.le_refl _
          rw [hV] at XSD ⊢
          clear hV c1 XSC
          have c1 := XSD.out.ro.c1
          by_cases hlt : (ms.length : Int) < 32 + (r : Int)
          · have XG := Lib.hid (show XS w O (V.alloc (.cells #[.int .i64 0, .int .i64 1, .int .i64 0, .int .i64 0, .int .i64 0] 74)) js ms (.slice (some ⟨gj, 0, none⟩) js.length capj) (.slice qm ms.length cm2) from XSD.out.next ((Below.refl _ _).alloc (Nat.le_refl _) _))
            have hOV := XSD.out.ro.lt'
            go_wp2_with (first | (at_builtin; refine wpList_append_own _ rfl (.tmp 43) (.tmp 45) 23 rfl w.heap.size 74 i1 (.agg (massC ⟨0, 0, 0, 0, 0⟩)) 5 40 under_masses MI.out MZ0.out MZ1.out MZ2.out rfl (by decide) _ ms.length (mcells ms) rfl XG.out.om ⟨V.heap.size, 0, none⟩ 1 1 (massC (⟨0, 1, 0, 0, 0⟩ : MassD)).toList rfl (by rfl) (mass_news V (⟨0, 1, 0, 0, 0⟩ : MassD)) (mass_ones (⟨0, 1, 0, 0, 0⟩ : MassD)) (by unfold maxLen; omega) (by omega) XG.out.bl.size ?_))
            intro v2 w7 hown2 hgrow _
            obtain ⟨g4, cap4, rfl⟩ := own_form hown2 (by omega)
            obtain ⟨hrob, hpush⟩ := XG.out.pushM hown2 hgrow (by omega) HIM1.out
            have XP := Lib.hid hpush
            have c1 := hrob.c1
            have f1 := hrob.free 1
            have hlm2 := lenM_of hpush.ro.c1
            clear hown2 hgrow hpush hrob XG XSD
            go_wp2_with fail
            go_roundw
            case rel => exact ⟨_, _, _, _, _, _, _, _, _, _, _, _, _, ⟨_, _, XP.out, by rw [List.length_append]; simp; omega⟩, rfl⟩
            case measure => rw [hlm2, hlm]; omega
          · go_wp2_with fail
            go_meet
            exact ⟨_, _, _, _, XSD.out⟩
    case rest =>
      obtain ⟨js, ms, vj, vm, hxs⟩ := hcut
      obtain ⟨qj, cj2, rfl⟩ := own_cap hxs.oj
      obtain ⟨qm, cm2, rfl⟩ := own_cap hxs.om
      have c0 := hxs.ro.c0
      have c1 := hxs.ro.c1
      have e0 := hxs.re.c0
      have e1 := hxs.re.c1
      have f0 := hxs.re.free 0
      have f1 := hxs.re.free 1
      have n1 : ∀ {e : TypeId} {size : Nat} {z : Value} {n : Nat} {xs : List Value} (W : World) (i : Nat) (u : Value), W.ownsRow w.heap.size e size z n xs → z.ownBlock ≠ some (w.heap.size + 1) → (W.setCell ⟨w.heap.size + 1, i, none⟩ u).ownsRow w.heap.size e size z n xs := fun W i u h hne => ownsRow_setCell_other h (a := ⟨w.heap.size + 1, i, none⟩) hne _
      have oj := n1 _ 1 (.slice qm ms.length cm2) (n1 _ 0 (.slice qj js.length cj2) hxs.oj (own_ne hxs.oj hxs.re (by decide))) (own_ne hxs.oj hxs.re (by decide))
      have om := n1 _ 1 (.slice qm ms.length cm2) (n1 _ 0 (.slice qj js.length cj2) hxs.om (own_ne hxs.om hxs.re (by decide))) (own_ne hxs.om hxs.re (by decide))
      have FD := Lib.hid (show RobD _ (.slice qj js.length cj2) (.slice qm ms.length cm2) js ms from ⟨own_rdO oj, own_rdO om, by have := hxs.lj; omega, by have := hxs.lm; omega, hxs.ij, hxs.im⟩)
      have FB := Lib.hid ((hxs.bl.setCell (show w.heap.size ≤ (⟨w.heap.size + 1, 0, none⟩ : Addr).block by dsimp only; omega) (.slice qj js.length cj2)).setCell (show w.heap.size ≤ (⟨w.heap.size + 1, 1, none⟩ : Addr).block by dsimp only; omega) (.slice qm ms.length cm2))
      have FR := Lib.hid (heap_setCell_same _ (w.heap.size + 1) 1 _ _ (.slice qm ms.length cm2) (heap_setCell_same wc (w.heap.size + 1) 0 _ _ (.slice qj js.length cj2) hxs.re))
      have L1 := Lib.hid hxs.l1
      have LJ := Lib.hid hxs.lj
      have LM := Lib.hid hxs.lm
      clear hxs n1 oj om
      go_wp2_with fail
      have d0 := cell_of_row _ _ 0 _ _ _ FR.out
      have d1 := cell_of_row _ _ 1 _ _ _ FR.out
      exact bodyPost_ret (v := .agg #[.slice qj js.length cj2, .slice qm ms.length cm2]) (by simp [results, Tryd.results10, go_sem, d0, d1]) rfl ⟨_, _, _, _, rfl, FD.out, L1.out, LJ.out, LM.out, FB.out⟩
end Go.Proofs.YtpaiapcnoifpmaaDoor
