/- Proved: the statement RobotBetween returns true. Conditions: as each theorem states. -/
import Derived.Test.YtpaiapcnoifpmaaDoorRbL1
import Derived.Deep.DeepCutAuto
import Derived.Deep.RegionHeld3
namespace Go.Proofs.YtpaiapcnoifpmaaDoor
open Go.RowKit

set_option linter.unusedSimpArgs false in
set_option linter.unusedVariables false in
set_option maxRecDepth 100000 in
set_option maxHeartbeats 3200000 in
/-- The statements' own member. -/
theorem member8_any (u : Value) (xs : List Nat) (x : Int) (w : World) (hu : RdI w u xs) (hx : I64 x) :
    Calls Tryd.prog 25 #[ u, .int .i64 x ] w fun e w' => e = .returned (.bool (decide (∃ n ∈ xs, (n : Int) = x))) ∧ w = w' := by
  obtain ⟨A, c, rfl, hl, hk⟩ := hu
  have HK := Lib.hid hk
  clear hk
  unfold I64 at hx
  obtain ⟨r, hr⟩ : ∃ r, decide (∃ n ∈ xs, (n : Int) = x) = r := ⟨_, rfl⟩
  have HR := Lib.hid hr
  rw [hr]
  clear hr
  go_enter Tryd.func25, Tryd.ntmps25
  go_wp2_with fail
  go_loop [5] (fun i => ∃ k : Nat, k ≤ xs.length ∧ i = .int .i64 k ∧ ∀ t (h : t < k) (h2 : t < xs.length), (xs[t] : Int) ≠ x) (fun i => xs.length - (intOf i).toNat)
  case atStart => exact ⟨0, Nat.zero_le _, rfl, fun t h => by omega⟩
  case round =>
    obtain ⟨k, hk, rfl, hne⟩ := hrel
    have HNE := Lib.hid hne
    clear hne
    by_cases hlt : k < xs.length
    · obtain ⟨g, o, rfl, hg, a0⟩ := HK.out k hlt
      obtain ⟨y, hy⟩ : ∃ y, xs[k] = y := ⟨_, rfl⟩
      rw [hy] at a0
      have HY := Lib.hid hy
      clear hy
      by_cases he : (y : Int) = x
      · have hrt : r = true := by rw [← HR.out]; exact decide_eq_true ⟨y, by rw [← HY.out]; exact List.getElem_mem hlt, he⟩
        subst hrt
        have hq : ((y : Int) == x) = true := by simpa using he
        clear he
        go_wp2_with fail
        go_ret
        exact ⟨rfl, rfl⟩
      · have hq : ((y : Int) == x) = false := by simpa using he
        have HE := Lib.hid he
        clear he
        go_wp2_with fail
        go_round
        case rel => exact ⟨k + 1, by omega, by go_num, fun t h h2 => by rcases Nat.lt_or_ge t k with h3 | h3; exact HNE.out t h3 h2; have e : t = k := (by omega); subst e; rw [HY.out]; exact HE.out⟩
        case measure => simp [intOf]; omega
    · have hrf : r = false := by
        rw [← HR.out]
        refine decide_eq_false ?_
        rintro ⟨n, hn, he⟩
        obtain ⟨t, ht, rfl⟩ := List.getElem_of_mem hn
        exact HNE.out t (by omega) ht he
      subst hrf
      go_wp2_with fail
      go_ret
      exact ⟨rfl, rfl⟩
/-- Between, at links that are there. -/
theorem betweenR_fine {js : List JointD} {ms : List MassD} {a b : Int} (h : checkR js ms = 0) (a1 : -1 ≤ a) (a2 : a < js.length) (b1 : -1 ≤ b) (b2 : b < js.length) : betweenR js ms a b = betweenK js a b := by
  unfold betweenR linkOk
  rw [if_pos ⟨h, decide_eq_true ⟨a1, a2⟩, decide_eq_true ⟨b1, b2⟩⟩]
theorem rigidR_self {js : List JointD} {ms : List MassD} {a : Int} (h : checkR js ms = 0) (a1 : -1 ≤ a) (a2 : a < js.length) : rigidR js ms a a = true := by
  unfold rigidR linkOk
  rw [if_pos ⟨h, decide_eq_true ⟨a1, a2⟩, decide_eq_true ⟨a1, a2⟩⟩]
  exact rigid_self js a
theorem mem_int {xs : List Nat} {i : Nat} {x : Int} (h : (i : Int) = x) : decide (∃ n ∈ xs, (n : Int) = x) = decide (i ∈ xs) := by
  subst h
  rw [Bool.eq_iff_iff, decide_eq_true_eq, decide_eq_true_eq]
  constructor
  · rintro ⟨n, hn, he⟩
    have : n = i := by omega
    rw [← this]; exact hn
  · intro hi; exact ⟨i, hi, rfl⟩
theorem between_len (js : List JointD) (a b : Int) : (betweenK js a b).length ≤ js.length := by
  unfold betweenK
  exact Nat.le_trans (List.length_filter_le _ _) (by rw [List.length_range]; exact Nat.le_refl _)
set_option linter.unusedSimpArgs false in
set_option linter.unusedVariables false in
set_option maxRecDepth 100000 in
set_option maxHeartbeats 6400000 in
theorem RobotBetween_any (a0 : Option Addr) (n0 c0 : Nat) (a b c : Int) (w : World) (p1 : -9223372036854775808 ≤ a) (p2 : a ≤ 9223372036854775807) (p3 : -9223372036854775808 ≤ b) (p4 : b ≤ 9223372036854775807) (p5 : -9223372036854775808 ≤ c) (p6 : c ≤ 9223372036854775807) (l0 : ListAt w a0 n0) (hT : KindT w) :
    Calls Tryd.prog 8 #[ .slice a0 n0 c0, .int .i64 a, .int .i64 b, .int .i64 c ] w fun e w' => e = .returned (.bool true) ∧ Below w.heap.size w w' := by
  have HT := Lib.hid hT
  clear hT
  have HL := Lib.hid l0
  clear l0
  go_enter Tryd.func8, Tryd.ntmps8
  go_wp2_with fail
  refine (mkRobot_any a0 n0 c0 _ HL.out).mono ?_
  rintro e w1 ⟨vj, vm, js, ms, rfl, hm, hb⟩
  obtain ⟨Aj, cj, rfl, hcj, _⟩ := hm.rj.joint
  obtain ⟨Am, cm, rfl, hcm, _⟩ := hm.rm.mass
  have l1 := hm.l1
  have l3 := hm.l3
  have HCK := Lib.hid (made_check hm)
  have hR := RobAt.box (V := w1) (vj := .slice Aj js.length cj) (vm := .slice Am ms.length cm) rfl
  have HD := Lib.hid (hm.robD.below ((Below.refl _ w1).alloc (Nat.le_refl _) (.cells #[.slice Aj js.length cj, .slice Am ms.length cm] 25)) (Nat.le_refl _))
  have HB := Lib.hid (hb.alloc hb.size (.cells #[.slice Aj js.length cj, .slice Am ms.length cm] 25))
  clear hm hb
  go_wp2_with fail
  obtain ⟨V, hV⟩ : ∃ V, w1.alloc (.cells #[.slice Aj js.length cj, .slice Am ms.length cm] 25) = V := ⟨_, rfl⟩
  rw [hV] at hR HD HB ⊢
  clear hV
  have hq := hR.lt
  have r0 := hR.c0
  have r1 := hR.c1
  have HRV := Lib.hid hR
  clear hR
  refine (Round_any a ((js.length : Int) + 1) _ (by omega) (by omega) p1 p2).mono ?_
  rintro e w2 ⟨rfl, rfl⟩
  have y1 := Int.emod_nonneg a (show (js.length : Int) + 1 ≠ 0 by omega)
  have z1 := Int.emod_lt_of_pos a (show (0 : Int) < (js.length : Int) + 1 by omega)
  obtain ⟨x1, hx1⟩ : ∃ x, a % ((js.length : Int) + 1) = x := ⟨_, rfl⟩
  rw [hx1] at y1 z1 ⊢
  clear hx1
  go_wp2_with fail
  refine (Round_any b ((js.length : Int) + 1) _ (by omega) (by omega) p3 p4).mono ?_
  rintro e w2 ⟨rfl, rfl⟩
  have y2 := Int.emod_nonneg b (show (js.length : Int) + 1 ≠ 0 by omega)
  have z2 := Int.emod_lt_of_pos b (show (0 : Int) < (js.length : Int) + 1 by omega)
  obtain ⟨x2, hx2⟩ : ∃ x, b % ((js.length : Int) + 1) = x := ⟨_, rfl⟩
  rw [hx2] at y2 z2 ⊢
  clear hx2
  go_wp2_with fail
  refine (Round_any c ((js.length : Int) + 1) _ (by omega) (by omega) p5 p6).mono ?_
  rintro e w2 ⟨rfl, rfl⟩
  have y3 := Int.emod_nonneg c (show (js.length : Int) + 1 ≠ 0 by omega)
  have z3 := Int.emod_lt_of_pos c (show (0 : Int) < (js.length : Int) + 1 by omega)
  obtain ⟨x3, hx3⟩ : ∃ x, c % ((js.length : Int) + 1) = x := ⟨_, rfl⟩
  rw [hx3] at y3 z3 ⊢
  clear hx3
  go_wp2_with fail
  clear r0 r1
  have rr0 : ∀ w' : World, Below V.heap.size V w' → w'.cell? ⟨w1.heap.size, 0, none⟩ = some (.slice Aj js.length cj) := fun w' hb => (hb.cell (p := ⟨w1.heap.size, 0, none⟩) hq).trans HRV.out.c0
  have rr1 : ∀ w' : World, Below V.heap.size V w' → w'.cell? ⟨w1.heap.size, 1, none⟩ = some (.slice Am ms.length cm) := fun w' hb => (hb.cell (p := ⟨w1.heap.size, 1, none⟩) hq).trans HRV.out.c1
  refine wp_region_held_drew (S := (fun w3 => Below V.heap.size V w3)) (by kernel_rfl) ?_ (fun hHeld => ?_)
  focus (repeat (first | assumption | exact Below.refl _ _ | refine Below.drew ?_ | refine bl_next hb7 ?_ | refine bl_next hb6 ?_ | refine bl_next hb5 ?_))
  refine wpAnyH_take (i := 0) (v := ?_) rfl (by kernel_rfl) (by kernel_rfl) (by kernel_rfl) (fun _ _ _ h => h) (Or.inl ⟨by rfl, ?_⟩) (by assumption) ?_; rotate_left; (focus (intro w hSw; (try dsimp only at hSw); go_simp; try with_reducible rfl)); (try simp only [Act.put, List.getElem_toArray, List.getElem_cons_succ, List.getElem_cons_zero, List.setIfInBounds_toArray, List.set_cons_zero, List.set_cons_succ])
  refine wpAnyH_take (i := 1) (v := ?_) rfl (by kernel_rfl) (by kernel_rfl) (by kernel_rfl) (fun _ _ _ h => h) (Or.inl ⟨by rfl, ?_⟩) (by assumption) ?_; rotate_left; (focus (intro w hSw; (try dsimp only at hSw); go_simp; try with_reducible rfl)); (try simp only [Act.put, List.getElem_toArray, List.getElem_cons_succ, List.getElem_cons_zero, List.setIfInBounds_toArray, List.set_cons_zero, List.set_cons_succ])
  refine wpAnyH_take (i := 2) (v := ?_) rfl (by kernel_rfl) (by kernel_rfl) (by kernel_rfl) (fun _ _ _ h => h) (Or.inl ⟨by rfl, ?_⟩) (by assumption) ?_; rotate_left; (focus (intro w hSw; (try dsimp only at hSw); go_simp; try with_reducible rfl)); (try simp only [Act.put, List.getElem_toArray, List.getElem_cons_succ, List.getElem_cons_zero, List.setIfInBounds_toArray, List.set_cons_zero, List.set_cons_succ])
  refine wpAnyH_take (i := 4) (v := ?_) rfl (by kernel_rfl) (by kernel_rfl) (by kernel_rfl) (fun _ _ _ h => h) (Or.inl ⟨by rfl, ?_⟩) (by assumption) ?_; rotate_left; (focus (intro w hSw; (try dsimp only at hSw); go_simp; try with_reducible rfl)); (try simp only [Act.put, List.getElem_toArray, List.getElem_cons_succ, List.getElem_cons_zero, List.setIfInBounds_toArray, List.set_cons_zero, List.set_cons_succ])
  refine wpAnyH_take (i := 5) (v := ?_) rfl (by kernel_rfl) (by kernel_rfl) (by kernel_rfl) (fun _ _ _ h => h) (Or.inl ⟨by rfl, ?_⟩) (by assumption) ?_; rotate_left; (focus (intro w hSw; (try dsimp only at hSw); go_simp; try with_reducible rfl)); (try simp only [Act.put, List.getElem_toArray, List.getElem_cons_succ, List.getElem_cons_zero, List.setIfInBounds_toArray, List.set_cons_zero, List.set_cons_succ])
  refine wpAnyH_take (i := 6) (v := ?_) rfl (by kernel_rfl) (by kernel_rfl) (by kernel_rfl) (fun _ _ _ h => h) (Or.inl ⟨by rfl, ?_⟩) (by assumption) ?_; rotate_left; (focus (intro w hSw; (try dsimp only at hSw); go_simp; try with_reducible rfl)); (try simp only [Act.put, List.getElem_toArray, List.getElem_cons_succ, List.getElem_cons_zero, List.setIfInBounds_toArray, List.set_cons_zero, List.set_cons_succ])
  refine wpAnyH_take (i := 8) (v := ?_) rfl (by kernel_rfl) (by kernel_rfl) (by kernel_rfl) (fun _ _ _ h => h) (Or.inl ⟨by rfl, ?_⟩) (by assumption) ?_; rotate_left; (focus (intro w hSw; (try dsimp only at hSw); go_simp; try with_reducible rfl)); (try simp only [Act.put, List.getElem_toArray, List.getElem_cons_succ, List.getElem_cons_zero, List.setIfInBounds_toArray, List.set_cons_zero, List.set_cons_succ])
  refine wpAnyH_take (i := 9) (v := ?_) rfl (by kernel_rfl) (by kernel_rfl) (by kernel_rfl) (fun _ _ _ h => h) (Or.inl ⟨by rfl, ?_⟩) (by assumption) ?_; rotate_left; (focus (intro w hSw; (try dsimp only at hSw); go_simp; try with_reducible rfl)); (try simp only [Act.put, List.getElem_toArray, List.getElem_cons_succ, List.getElem_cons_zero, List.setIfInBounds_toArray, List.set_cons_zero, List.set_cons_succ])
  refine wpAnyH_take (i := 10) (v := ?_) rfl (by kernel_rfl) (by kernel_rfl) (by kernel_rfl) (fun _ _ _ h => h) (Or.inl ⟨by rfl, ?_⟩) (by assumption) ?_; rotate_left; (focus (intro w hSw; (try dsimp only at hSw); go_simp; try with_reducible rfl)); (try simp only [Act.put, List.getElem_toArray, List.getElem_cons_succ, List.getElem_cons_zero, List.setIfInBounds_toArray, List.set_cons_zero, List.set_cons_succ])
  refine wpAnyH_ready (rs := [3]) (by kernel_rfl) (by simp) (AllReadyH.cons rfl (fun K hK => ?_) (AllReadyH.nil))
  go_simp; (refine (sBetween_any js ms _ _ (x1 - 1) (x2 - 1) _ (HD.out.below (by assumption) (Nat.le_refl _)) (by unfold I64; omega) (by unfold I64; omega)).mono ?_; rintro e w5 ⟨vu, rfl, hu, hb5⟩); go_wp2_with fail; refine hK.out _ _ ?_ (fun hHeld => ?_); (focus (repeat (first | assumption | exact Below.refl _ _ | refine Below.drew ?_ | refine bl_next hb7 ?_ | refine bl_next hb6 ?_ | refine bl_next hb5 ?_))); clear hK K; (try simp only [Act.put, List.getElem_toArray, List.getElem_cons_succ, List.getElem_cons_zero, List.setIfInBounds_toArray, List.set_cons_zero, List.set_cons_succ])
  refine wpAnyH_ready (rs := [7]) (by kernel_rfl) (by simp) (AllReadyH.cons rfl (fun K hK => ?_) (AllReadyH.nil))
  go_simp; (refine (sBetween_any js ms _ _ (x1 - 1) (x3 - 1) _ (HD.out.below (by assumption) (Nat.le_refl _)) (by unfold I64; omega) (by unfold I64; omega)).mono ?_; rintro e w6 ⟨vv, rfl, hv, hb6⟩); go_wp2_with fail; refine hK.out _ _ ?_ (fun hHeld => ?_); (focus (repeat (first | assumption | exact Below.refl _ _ | refine Below.drew ?_ | refine bl_next hb7 ?_ | refine bl_next hb6 ?_ | refine bl_next hb5 ?_))); clear hK K; (try simp only [Act.put, List.getElem_toArray, List.getElem_cons_succ, List.getElem_cons_zero, List.setIfInBounds_toArray, List.set_cons_zero, List.set_cons_succ])
  refine wpAnyH_ready (rs := [11]) (by kernel_rfl) (by simp) (AllReadyH.cons rfl (fun K hK => ?_) (AllReadyH.nil))
  go_simp; (refine (sBetween_any js ms _ _ (x3 - 1) (x2 - 1) _ (HD.out.below (by assumption) (Nat.le_refl _)) (by unfold I64; omega) (by unfold I64; omega)).mono ?_; rintro e w7 ⟨vw, rfl, hw, hb7⟩); go_wp2_with fail; refine hK.out _ _ ?_ (fun hHeld => ?_); (focus (repeat (first | assumption | exact Below.refl _ _ | refine Below.drew ?_ | refine bl_next hb7 ?_ | refine bl_next hb6 ?_ | refine bl_next hb5 ?_))); clear hK K; (try simp only [Act.put, List.getElem_toArray, List.getElem_cons_succ, List.getElem_cons_zero, List.setIfInBounds_toArray, List.set_cons_zero, List.set_cons_succ])
  refine wpAnyH_take (i := 12) (v := ?_) rfl (by kernel_rfl) (by kernel_rfl) (by kernel_rfl) (fun _ _ _ h => h) (Or.inl ⟨by rfl, ?_⟩) (by assumption) ?_; rotate_left; (focus (intro w hSw; (try dsimp only at hSw); go_simp; try with_reducible rfl)); (try simp only [Act.put, List.getElem_toArray, List.getElem_cons_succ, List.getElem_cons_zero, List.setIfInBounds_toArray, List.set_cons_zero, List.set_cons_succ])
  refine wpAnyH_take (i := 13) (v := ?_) rfl (by kernel_rfl) (by kernel_rfl) (by kernel_rfl) (fun _ _ _ h => h) (Or.inl ⟨by rfl, ?_⟩) (by assumption) ?_; rotate_left; (focus (intro w hSw; (try dsimp only at hSw); go_simp; try with_reducible rfl)); (try simp only [Act.put, List.getElem_toArray, List.getElem_cons_succ, List.getElem_cons_zero, List.setIfInBounds_toArray, List.set_cons_zero, List.set_cons_succ])
  refine wpAnyH_take (i := 14) (v := ?_) rfl (by kernel_rfl) (by kernel_rfl) (by kernel_rfl) (fun _ _ _ h => h) (Or.inl ⟨by rfl, ?_⟩) (by assumption) ?_; rotate_left; (focus (intro w hSw; (try dsimp only at hSw); go_simp; try with_reducible rfl)); (try simp only [Act.put, List.getElem_toArray, List.getElem_cons_succ, List.getElem_cons_zero, List.setIfInBounds_toArray, List.set_cons_zero, List.set_cons_succ])
  refine wpAnyH_done (by kernel_rfl) ?_ _
  have hbV : Below V.heap.size V w7 := by assumption
  rw [betweenR_fine HCK.out (by omega) (by omega) (by omega) (by omega)] at hu hv hw
  have HBV := Lib.hid hbV
  have hu7 := (hu.below hb6 (Nat.le_refl _)).below hb7 (Nat.le_refl _)
  have hv7 := hv.below hb7 (Nat.le_refl _)
  have HHU := Lib.hid hu7
  have HHV := Lib.hid hv7
  have HHW := Lib.hid hw
  have HD7 := Lib.hid (HD.out.below hbV (Nat.le_refl _))
  have r0 := rr0 _ hbV
  have r1 := rr1 _ hbV
  clear hu hv hw hu7 hv7 hb5 hb6 hb7 hbV hHeld
  go_wp2_with fail
  refine (sBetween_any js ms _ _ (x2 - 1) (x1 - 1) _ HD7.out (by unfold I64; omega) (by unfold I64; omega)).mono ?_
  rintro e w8 ⟨v8, rfl, h8, hb8⟩
  rw [betweenR_fine HCK.out (by omega) (by omega) (by omega) (by omega), between_symm] at h8
  have HB8 := Lib.hid (HBV.out.trans (hb8.mono HBV.out.size))
  have HU8 := Lib.hid (HHU.out.below hb8 (Nat.le_refl _))
  have HV8 := Lib.hid (HHV.out.below hb8 (Nat.le_refl _))
  have HW8 := Lib.hid (HHW.out.below hb8 (Nat.le_refl _))
  have HD8 := Lib.hid (HD7.out.below hb8 (Nat.le_refl _))
  have H8 := Lib.hid h8
  clear h8 hb8 r0 r1 HHU HHV HHW HD7
  go_wp2_with fail
  refine (sameI_any _ _ _ _ HU8.out H8.out).mono ?_
  rintro e w9 ⟨rfl, hb9⟩
  have HB9 := Lib.hid (HB8.out.trans (hb9.mono HB8.out.size))
  have HU9 := Lib.hid (HU8.out.below hb9 (Nat.le_refl _))
  have HV9 := Lib.hid (HV8.out.below hb9 (Nat.le_refl _))
  have HW9 := Lib.hid (HW8.out.below hb9 (Nat.le_refl _))
  have HD9 := Lib.hid (HD8.out.below hb9 (Nat.le_refl _))
  have r0 := rr0 _ HB9.out
  have r1 := rr1 _ HB9.out
  clear hb9 HU8 HV8 HW8 HD8 H8
  go_wp2_with fail
  refine (sBetween_any js ms _ _ (x1 - 1) (x1 - 1) _ HD9.out (by unfold I64; omega) (by unfold I64; omega)).mono ?_
  rintro e X ⟨v10, rfl, h10, hb10⟩
  rw [betweenR_fine HCK.out (by omega) (by omega) (by omega) (by omega), between_self] at h10
  obtain ⟨A10, c10, rfl, _, _⟩ := h10
  simp only [List.length_nil]
  have HBX := Lib.hid (HB9.out.trans (hb10.mono HB9.out.size))
  have HUX := Lib.hid (HU9.out.below hb10 (Nat.le_refl _))
  have HLV := Lib.hid (HV9.out.below hb10 (Nat.le_refl _))
  have HLW := Lib.hid (HW9.out.below hb10 (Nat.le_refl _))
  have HDX := Lib.hid (HD9.out.below hb10 (Nat.le_refl _))
  have hul := between_len js (x1 - 1) (x2 - 1)
  have TH := Lib.hid (fun (i : Nat) (h : i ∈ betweenK js (x1 - 1) (x2 - 1)) => between_third (z := x3 - 1) h)
  have RG := Lib.hid (fun (i : Nat) (h : i ∈ betweenK js (x1 - 1) (x2 - 1)) => (between_mem.1 h).1)
  obtain ⟨Lu, hLu⟩ : ∃ L, betweenK js (x1 - 1) (x2 - 1) = L := ⟨_, rfl⟩
  obtain ⟨Lv, hLv⟩ : ∃ L, betweenK js (x1 - 1) (x3 - 1) = L := ⟨_, rfl⟩
  obtain ⟨Lw, hLw⟩ : ∃ L, betweenK js (x3 - 1) (x2 - 1) = L := ⟨_, rfl⟩
  rw [hLu] at HUX hul TH RG
  rw [hLv] at HLV TH
  rw [hLw] at HLW TH
  obtain ⟨Au, cu, rfl, hcu, _⟩ := HUX.out
  clear hLu hLv hLw hb10 r0 r1 HU9 HV9 HW9 HD9
  go_wp2_with fail
  go_loopw [17] (fun i wr => ∃ t : Nat, t ≤ Lu.length ∧ i = .int .i64 t ∧ Below X.heap.size X wr) (fun i _ => Lu.length - (intOf i).toNat)
  case atStart => exact ⟨0, Nat.zero_le _, rfl, Below.refl _ _⟩
  case round =>
    obtain ⟨t, ht, rfl, hb⟩ := hrel
    by_cases hlt : t < Lu.length
    · obtain ⟨_, _, ea, _, hat⟩ := HUX.out
      injection ea with ea _ ec
      subst ea ec
      obtain ⟨g, o, rfl, hg, e0⟩ := hat t hlt
      have hmem : Lu[t] ∈ Lu := List.getElem_mem hlt
      obtain ⟨n, hn⟩ : ∃ n, Lu[t] = n := ⟨_, rfl⟩
      rw [hn] at e0 hmem
      have hth := TH.out n hmem
      obtain ⟨mv, hmv⟩ : ∃ m, decide (n ∈ Lv) = m := ⟨_, rfl⟩
      obtain ⟨mw, hmw⟩ : ∃ m, decide (n ∈ Lw) = m := ⟨_, rfl⟩
      rw [hmv, hmw] at hth
      have hnb : n ≤ 3 := by have := RG.out n hmem; omega
      obtain ⟨i, hi⟩ : ∃ i : Int, (n : Int) = i := ⟨_, rfl⟩
      have HMV := Lib.hid ((mem_int (xs := Lv) hi).trans hmv)
      have HMW := Lib.hid ((mem_int (xs := Lw) hi).trans hmw)
      have hi1 : 0 ≤ i := by omega
      have hi2 : i ≤ 3 := by omega
      rw [hi] at e0
      have ee : ∀ w' : World, Below X.heap.size X w' → w'.cell? ⟨g, o + t, none⟩ = some (.int .i64 i) := fun w' hb => (hb.cell (p := ⟨g, o + t, none⟩) hg).trans e0
      clear hat hmem hn hmv hmw hi e0
      go_wp2_with fail
      refine wp_region_held_drew (S := (fun w3 => Below X.heap.size X w3)) (by kernel_rfl) ?_ (fun hHeld => ?_)
      focus (first | assumption | exact Below.drew (by assumption))
      refine wpAnyH_take (i := 0) (v := ?_) rfl (by kernel_rfl) (by kernel_rfl) (by kernel_rfl) (fun _ _ _ h => h) (Or.inl ⟨by rfl, ?_⟩) (by assumption) ?_; rotate_left; (focus (intro w hSw; (try dsimp only at hSw); go_simp; try with_reducible rfl)); (try simp only [Act.put, List.getElem_toArray, List.getElem_cons_succ, List.getElem_cons_zero, List.setIfInBounds_toArray, List.set_cons_zero, List.set_cons_succ])
      refine wpAnyH_take (i := 1) (v := ?_) rfl (by kernel_rfl) (by kernel_rfl) (by kernel_rfl) (fun _ _ _ h => h) (Or.inl ⟨by rfl, ?_⟩) (by assumption) ?_; rotate_left; (focus (intro w hSw; (try dsimp only at hSw); go_simp; try with_reducible rfl)); (try simp only [Act.put, List.getElem_toArray, List.getElem_cons_succ, List.getElem_cons_zero, List.setIfInBounds_toArray, List.set_cons_zero, List.set_cons_succ])
      refine wpAnyH_take (i := 2) (v := ?_) rfl (by kernel_rfl) (by kernel_rfl) (by kernel_rfl) (fun _ _ _ h => h) (Or.inl ⟨by rfl, ?_⟩) (by assumption) ?_; rotate_left; (focus (intro w hSw; (try dsimp only at hSw); go_simp; try with_reducible rfl)); (try simp only [Act.put, List.getElem_toArray, List.getElem_cons_succ, List.getElem_cons_zero, List.setIfInBounds_toArray, List.set_cons_zero, List.set_cons_succ])
      refine wpAnyH_take (i := 3) (v := ?_) rfl (by kernel_rfl) (by kernel_rfl) (by kernel_rfl) (fun _ _ _ h => h) (Or.inl ⟨by rfl, ?_⟩) (by assumption) ?_; rotate_left; (focus (intro w hSw; (try dsimp only at hSw); go_simp; try with_reducible rfl)); (try simp only [Act.put, List.getElem_toArray, List.getElem_cons_succ, List.getElem_cons_zero, List.setIfInBounds_toArray, List.set_cons_zero, List.set_cons_succ])
      refine wpAnyH_take (i := 4) (v := ?_) rfl (by kernel_rfl) (by kernel_rfl) (by kernel_rfl) (fun _ _ _ h => h) (Or.inl ⟨by rfl, ?_⟩) (by assumption) ?_; rotate_left; (focus (intro w hSw; (try dsimp only at hSw); go_simp; try with_reducible rfl)); (try simp only [Act.put, List.getElem_toArray, List.getElem_cons_succ, List.getElem_cons_zero, List.setIfInBounds_toArray, List.set_cons_zero, List.set_cons_succ])
      refine wpAnyH_take (i := 6) (v := ?_) rfl (by kernel_rfl) (by kernel_rfl) (by kernel_rfl) (fun _ _ _ h => h) (Or.inl ⟨by rfl, ?_⟩) (by assumption) ?_; rotate_left; (focus (intro w hSw; (try dsimp only at hSw); go_simp; try with_reducible rfl)); (try simp only [Act.put, List.getElem_toArray, List.getElem_cons_succ, List.getElem_cons_zero, List.setIfInBounds_toArray, List.set_cons_zero, List.set_cons_succ])
      refine wpAnyH_take (i := 7) (v := ?_) rfl (by kernel_rfl) (by kernel_rfl) (by kernel_rfl) (fun _ _ _ h => h) (Or.inl ⟨by rfl, ?_⟩) (by assumption) ?_; rotate_left; (focus (intro w hSw; (try dsimp only at hSw); go_simp; try with_reducible rfl)); (try simp only [Act.put, List.getElem_toArray, List.getElem_cons_succ, List.getElem_cons_zero, List.setIfInBounds_toArray, List.set_cons_zero, List.set_cons_succ])
      refine wpAnyH_take (i := 8) (v := ?_) rfl (by kernel_rfl) (by kernel_rfl) (by kernel_rfl) (fun _ _ _ h => h) (Or.inl ⟨by rfl, ?_⟩) (by assumption) ?_; rotate_left; (focus (intro w hSw; (try dsimp only at hSw); go_simp; try with_reducible rfl)); (try simp only [Act.put, List.getElem_toArray, List.getElem_cons_succ, List.getElem_cons_zero, List.setIfInBounds_toArray, List.set_cons_zero, List.set_cons_succ])
      refine wpAnyH_take (i := 9) (v := ?_) rfl (by kernel_rfl) (by kernel_rfl) (by kernel_rfl) (fun _ _ _ h => h) (Or.inl ⟨by rfl, ?_⟩) (by assumption) ?_; rotate_left; (focus (intro w hSw; (try dsimp only at hSw); go_simp; try with_reducible rfl)); (try simp only [Act.put, List.getElem_toArray, List.getElem_cons_succ, List.getElem_cons_zero, List.setIfInBounds_toArray, List.set_cons_zero, List.set_cons_succ])
      refine wpAnyH_take (i := 10) (v := ?_) rfl (by kernel_rfl) (by kernel_rfl) (by kernel_rfl) (fun _ _ _ h => h) (Or.inl ⟨by rfl, ?_⟩) (by assumption) ?_; rotate_left; (focus (intro w hSw; (try dsimp only at hSw); go_simp; try with_reducible rfl)); (try simp only [Act.put, List.getElem_toArray, List.getElem_cons_succ, List.getElem_cons_zero, List.setIfInBounds_toArray, List.set_cons_zero, List.set_cons_succ])
      refine wpAnyH_ready (rs := [5]) (by kernel_rfl) (by simp) (AllReadyH.cons rfl (fun K hK => ?_) (AllReadyH.nil))
      go_simp; (refine (member8_any _ Lv i _ (HLV.out.below (by assumption) (Nat.le_refl _)) (by unfold I64; omega)).mono ?_; rintro e wm1 ⟨rfl, rfl⟩; rw [HMV.out]); go_wp2_with fail; refine hK.out _ _ ?_ (fun hHeld => ?_); (focus (first | assumption | exact Below.drew (by assumption))); clear hK K; (try simp only [Act.put, List.getElem_toArray, List.getElem_cons_succ, List.getElem_cons_zero, List.setIfInBounds_toArray, List.set_cons_zero, List.set_cons_succ])
      refine wpAnyH_ready (rs := [11]) (by kernel_rfl) (by simp) (AllReadyH.cons rfl (fun K hK => ?_) (AllReadyH.nil))
      go_simp; (refine (member8_any _ Lw i _ (HLW.out.below (by assumption) (Nat.le_refl _)) (by unfold I64; omega)).mono ?_; rintro e wm2 ⟨rfl, rfl⟩; rw [HMW.out]); go_wp2_with fail; refine hK.out _ _ ?_ (fun hHeld => ?_); (focus (first | assumption | exact Below.drew (by assumption))); clear hK K; (try simp only [Act.put, List.getElem_toArray, List.getElem_cons_succ, List.getElem_cons_zero, List.setIfInBounds_toArray, List.set_cons_zero, List.set_cons_succ])
      refine wpAnyH_take (i := 12) (v := ?_) rfl (by kernel_rfl) (by kernel_rfl) (by kernel_rfl) (fun _ _ _ h => h) (Or.inl ⟨by rfl, ?_⟩) (by assumption) ?_; rotate_left; (focus (intro w hSw; (try dsimp only at hSw); go_simp; try with_reducible rfl)); (try simp only [Act.put, List.getElem_toArray, List.getElem_cons_succ, List.getElem_cons_zero, List.setIfInBounds_toArray, List.set_cons_zero, List.set_cons_succ])
      refine wpAnyH_done (by kernel_rfl) ?_ _
      go_wp2_with fail
      go_roundw
      case rel => exact ⟨t + 1, by omega, by go_num, hHeld⟩
      case measure => simp [intOf]; omega
    · skip
      have HBZ := Lib.hid (show Below V.heap.size V wr from HBX.out.trans (hb.mono HBX.out.size))
      have HDZ := Lib.hid (HDX.out.below hb (Nat.le_refl _))
      clear hb
      go_wp2_with fail
      refine (awake8_any _ (HT.out.next (bl_next HBZ.out HB.out))).mono ?_
      rintro e w12 ⟨rfl, hb12⟩
      have HB12 := Lib.hid (HBZ.out.trans (hb12.mono HBZ.out.size))
      have HD12 := Lib.hid (HDZ.out.below hb12 (Nat.le_refl _))
      have r0 := rr0 _ HB12.out
      have r1 := rr1 _ HB12.out
      clear hb12 HBZ HDZ
      go_wp2_with fail
      refine (sRigid_any js ms _ _ (x1 - 1) (x1 - 1) _ HD12.out (by unfold I64; omega) (by unfold I64; omega)).mono ?_
      rintro e w13 ⟨rfl, hb13⟩
      rw [rigidR_self HCK.out (by omega) (by omega)]
      have HB13 := Lib.hid (HB.out.trans ((HB12.out.trans (hb13.mono HB12.out.size)).mono HB.out.size))
      clear hb13 r0 r1
      go_wp2_with fail
      go_ret
      exact ⟨rfl, HB13.out⟩
end Go.Proofs.YtpaiapcnoifpmaaDoor
