/- Proved: the statement RobotChainSteps returns true. Conditions: as each theorem states. -/
import Derived.Test.YtpaiapcnoifpmaaDoorRc4
import Derived.Test.YtpaiapcnoifpmaaDoorRbA
namespace Go.Proofs.YtpaiapcnoifpmaaDoor
open Go.RowKit

theorem chainR_fine {js : List JointD} {ms : List MassD} {k : Int} (h : checkR js ms = 0) (h1 : -1 ≤ k) (h2 : k < js.length) : chainR js ms k = chainK js k := by
  unfold chainR linkOk
  rw [if_pos ⟨h, decide_eq_true ⟨h1, h2⟩⟩]
/-- What the chain of a joint looks like, place by place. -/
theorem chain_facts {js : List JointD} (ht : Tree js) {k : Nat} (hk : k < js.length) : 0 < (chainK js k).length ∧ (chainK js k).length ≤ js.length ∧ (chainK js k).getD ((chainK js k).length - 1) 0 = k ∧
    ∀ t, t < (chainK js k).length → (chainK js k).getD t 0 < js.length ∧ (js.getD ((chainK js k).getD t 0) zeroJ).parent = if t = 0 then -1 else (((chainK js k).getD (t - 1) 0 : Nat) : Int) := by
  obtain ⟨c, hc, hs⟩ := chain_parent ht (k + 1) k (by omega) hk
  have hcount := chain_count ht (k + 1) k (by omega) (by omega)
  rw [hc] at hcount ⊢
  have hl2 : (c ++ [k]).length = c.length + 1 := by rw [List.length_append, List.length_singleton]
  refine ⟨by omega, by omega, ?_, fun t h => hs t (by omega)⟩
  rw [hl2, getD_app, Nat.add_sub_cancel, if_neg (by omega), if_pos rfl]
set_option linter.unusedSimpArgs false in
set_option linter.unusedVariables false in
set_option maxRecDepth 100000 in
set_option maxHeartbeats 6400000 in
theorem RobotChainSteps_any (a0 : Option Addr) (n0 c0 : Nat) (a : Int) (w : World) (p1 : -9223372036854775808 ≤ a) (p2 : a ≤ 9223372036854775807) (l0 : ListAt w a0 n0) (hT : KindT w) :
    Calls Tryd.prog 7 #[ .slice a0 n0 c0, .int .i64 a ] w fun e w' => e = .returned (.bool true) ∧ Below w.heap.size w w' := by
  have HT := Lib.hid hT
  clear hT
  have HL := Lib.hid l0
  clear l0
  go_enter Tryd.func7, Tryd.ntmps7
  go_wp2_with fail
  refine (mkRobot_any a0 n0 c0 _ HL.out).mono ?_
  rintro e w1 ⟨vj, vm, js, ms, rfl, hm, hb⟩
  obtain ⟨Aj, cj, rfl, hcj, _⟩ := hm.rj.joint
  obtain ⟨Am, cm, rfl, hcm, _⟩ := hm.rm.mass
  have l1 := hm.l1
  have l3 := hm.l3
  have HCK := Lib.hid (made_check hm)
  have HTR := Lib.hid (tree_of (check_zero (made_check hm)).2.1)
  have hR := RobAt.box (V := w1) (vj := .slice Aj js.length cj) (vm := .slice Am ms.length cm) rfl
  have HD := Lib.hid (hm.robD.below ((Below.refl _ w1).alloc (Nat.le_refl _) (.cells #[.slice Aj js.length cj, .slice Am ms.length cm] 25)) (Nat.le_refl _))
  have HB := Lib.hid (hb.alloc hb.size (.cells #[.slice Aj js.length cj, .slice Am ms.length cm] 25))
  clear hm hb
  go_wp2_with fail
  obtain ⟨V, hV⟩ : ∃ V, w1.alloc (.cells #[.slice Aj js.length cj, .slice Am ms.length cm] 25) = V := ⟨_, rfl⟩
  rw [hV] at hR HD HB ⊢
  clear hV
  have hq := hR.lt
  have r0 := hR.c0
  have r1 := hR.c1
  have HRV := Lib.hid hR
  clear hR
  refine (Round_any a js.length _ (by omega) (by omega) p1 p2).mono ?_
  rintro e w2 ⟨rfl, rfl⟩
  have hk0 := Int.emod_nonneg a (show (js.length : Int) ≠ 0 by omega)
  have hk1 := Int.emod_lt_of_pos a (show (0 : Int) < js.length by omega)
  obtain ⟨k, hk⟩ : ∃ k : Nat, a % (js.length : Int) = k := ⟨(a % (js.length : Int)).toNat, by omega⟩
  rw [hk] at hk0 hk1 ⊢
  have hkl : k < js.length := by omega
  clear hk hk0 hk1
  go_wp2_with fail
  refine (sChain_any js ms _ _ (k : Int) _ HD.out (by unfold I64; omega)).mono ?_
  rintro e w3 ⟨v, rfl, hv, hb3⟩
  rw [chainR_fine HCK.out (by omega) (by omega)] at hv
  obtain ⟨f1, f2, f3, f4⟩ := chain_facts HTR.out hkl
  obtain ⟨C, hC⟩ : ∃ C, chainK js k = C := ⟨_, rfl⟩
  rw [hC] at hv f1 f2 f3 f4
  have HF := Lib.hid f4
  have HF3 := Lib.hid f3
  have HV3 := Lib.hid hv
  have HB3 := Lib.hid hb3
  obtain ⟨A, c, rfl, hcl, _⟩ := hv
  have hq3 : w1.heap.size < w3.heap.size := by have := hb3.size; omega
  have HD3 := Lib.hid (HD.out.below hb3 (Nat.le_refl _))
  have HBW := Lib.hid (HB.out.trans (hb3.mono HB.out.size))
  have hR3 : RobAt w3 w1.heap.size (.slice Aj js.length cj) (.slice Am ms.length cm) := RobAt.below HRV.out hb3 hq
  clear f4 hC hb3 r0 r1
  have r0 := hR3.c0
  have r1 := hR3.c1
  clear hR3
  go_wp2_with fail
  go_loopw [8] (fun i wr => ∃ t : Nat, t ≤ C.length ∧ i = .int .i64 t ∧ ∃ q, wr = w3.drewN q) (fun i _ => C.length - (intOf i).toNat)
  case atStart => exact ⟨0, Nat.zero_le _, rfl, 0, rfl⟩
  case round =>
    obtain ⟨t, ht, rfl, q, rfl⟩ := hrel
    by_cases hlt : t < C.length
    · obtain ⟨_, _, ea, _, hat⟩ := HV3.out
      injection ea with ea _ ec
      subst ea ec
      obtain ⟨g, o, rfl, hg, e0⟩ := hat t hlt
      obtain ⟨h1, h2⟩ := HF.out t hlt
      have eg : C.getD t 0 = C[t] := by rw [List.getD_eq_getElem?_getD, List.getElem?_eq_getElem hlt]; rfl
      rw [eg] at h1 h2
      clear eg
      obtain ⟨x, hx⟩ : ∃ x, C[t] = x := ⟨_, rfl⟩
      rw [hx] at e0 h1 h2
      obtain ⟨_, _, ea, _, hjt⟩ := HD3.out.rj.joint
      injection ea with ea _ ec
      subst ea ec
      obtain ⟨gj, oj, rfl, hgj, _, _, d2, _⟩ := hjt x h1
      have hpe : js[x].parent = (js.getD x zeroJ).parent := by rw [List.getD_eq_getElem?_getD, List.getElem?_eq_getElem h1]; rfl
      rw [hpe] at d2
      have hx0 : decide ((x : Int) < 0) = false := decide_eq_false (by omega)
      have hxl : decide ((js.length : Int) ≤ (x : Int)) = false := decide_eq_false (by omega)
      by_cases ht0 : t = 0
      · subst ht0
        rw [if_pos rfl] at h2
        rw [h2] at d2
        rw [Nat.add_zero] at e0
        clear hat hjt hpe h2 hx
        go_wp2_with fail
        go_quiet (fail)
        go_wp2_with fail
        go_roundw
        case rel => exact ⟨1, by omega, by go_num, _, rfl⟩
        case measure => simp [intOf]; omega
      · have eg : C.getD (t - 1) 0 = C[t - 1] := by rw [List.getD_eq_getElem?_getD, List.getElem?_eq_getElem (show t - 1 < C.length by omega)]; rfl
        rw [if_neg ht0, eg] at h2
        clear eg
        obtain ⟨g', o', hgg, _, e1⟩ := hat (t - 1) (by omega)
        injection hgg with hgg
        injection hgg with h11 h22 _
        subst h11 h22
        obtain ⟨y, hy⟩ : ∃ y, C[t - 1] = y := ⟨_, rfl⟩
        rw [hy] at e1 h2
        rw [h2] at d2
        clear hat hjt hpe h2 hx hy
        go_wp2_with fail
        go_quiet (fail)
        go_wp2_with fail
        go_roundw
        case rel => exact ⟨t + 1, by omega, by go_num, _, rfl⟩
        case measure => simp [intOf]; omega
    · have hte : t = C.length := by omega
      subst hte
      have hbq : Below w3.heap.size w3 (w3.drewN q) := bl_drewN (Below.refl _ _)
      clear r0 r1
      go_wp2_with fail
      refine (awake8_any _ (HT.out.next (bl_next hbq HBW.out))).mono ?_
      rintro e w4 ⟨rfl, hb4⟩
      have hb34 : Below w3.heap.size w3 w4 := bl_next hb4 hbq
      obtain ⟨_, _, ea, _, hat⟩ := HV3.out.below hb34 (Nat.le_refl _)
      injection ea with ea _ ec
      subst ea ec
      obtain ⟨g, o, rfl, hg, e0⟩ := hat (C.length - 1) (by omega)
      have eg : C.getD (C.length - 1) 0 = C[C.length - 1] := by rw [List.getD_eq_getElem?_getD, List.getElem?_eq_getElem (show C.length - 1 < C.length by omega)]; rfl
      rw [← eg, HF3.out] at e0
      have hR4 : RobAt w4 w1.heap.size (.slice Aj js.length cj) (.slice Am ms.length cm) := RobAt.below HRV.out (HB3.out.trans (hb34.mono HB3.out.size)) hq
      have HD4 := Lib.hid (HD3.out.below hb34 (Nat.le_refl _))
      have HB4 := Lib.hid (show Below w.heap.size w w4 from HBW.out.trans (hb34.mono HBW.out.size))
      have r0 := hR4.c0
      have r1 := hR4.c1
      clear hat eg hR4 hb34 hb4 hbq
      go_wp2_with fail
      refine (sChain_any js ms _ _ (-1) _ HD4.out (by unfold I64; omega)).mono ?_
      rintro e w5 ⟨v, rfl, hv, hb5⟩
      rw [chainR_fine HCK.out (by omega) (by omega), chain_world] at hv
      obtain ⟨A5, c5, rfl, _, _⟩ := hv
      have HB5 := Lib.hid (HB4.out.trans (hb5.mono HB4.out.size))
      simp only [List.length_nil]
      clear hb5 r0 r1
      go_wp2_with fail
      go_ret
      exact ⟨rfl, HB5.out⟩
end Go.Proofs.YtpaiapcnoifpmaaDoor
