/- Proved: the developers' small checks of chapter 8 (isLink, near, reach, counts, costsPermitted, fault) return what their namesakes in Rb1 and Rb4 compute. Conditions: as each theorem states. · Proved: the developers' massesPermitted and Check return what massOk and checkR in Rb1 compute, and Find returns findK. Conditions: the robot reads as lists. -/
import Derived.Test.YtpaiapcnoifpmaaDoorRb5
import Derived.Test.YtpaiapcnoifpmaaDoorMap
import Derived.Test.YtpaiapcnoifpmaaDoorTkH
namespace Go.Proofs.YtpaiapcnoifpmaaDoor
open Go.RowKit

set_option linter.unusedSimpArgs false in
set_option linter.unusedVariables false in
set_option maxHeartbeats 3200000 in
theorem sLink_any (k n : Int) (b : Bool) (w : World) (hk : I64 k) (hn : I64 n) (hb : decide (-1 ≤ k ∧ k < n) = b) :
    Calls Tryd.prog 62 #[ .int .i64 k, .int .i64 n ] w fun e w' => e = .returned (.bool b) ∧ w' = w := by
  unfold I64 at hk hn
  by_cases h1 : -1 ≤ k
  · by_cases h2 : k < n
    · have : b = true := by rw [← hb]; exact decide_eq_true ⟨h1, h2⟩
      subst this
      clear hb
      go_enter Tryd.func62, Tryd.ntmps62
      go_wp2
      go_ret
      exact ⟨rfl, rfl⟩
    · have : b = false := by rw [← hb]; exact decide_eq_false (by omega)
      subst this
      clear hb
      go_enter Tryd.func62, Tryd.ntmps62
      go_wp2
      go_ret
      exact ⟨rfl, rfl⟩
  · have : b = false := by rw [← hb]; exact decide_eq_false (by omega)
    subst this
    clear hb
    go_enter Tryd.func62, Tryd.ntmps62
    go_wp2
    go_ret
    exact ⟨rfl, rfl⟩
set_option linter.unusedSimpArgs false in
set_option linter.unusedVariables false in
set_option maxHeartbeats 3200000 in
theorem sCounts_any (x m : Int) (w : World) :
    Calls Tryd.prog 66 #[ .int .i64 x, .int .i64 m ] w fun e w' => e = .returned (.bool (decide (1 ≤ x) && decide (x ≤ m))) ∧ w = w' := by
  obtain ⟨y, hy⟩ : ∃ y, (decide (1 ≤ x) && decide (x ≤ m)) = y := ⟨_, rfl⟩
  rw [hy]
  by_cases h1 : 1 ≤ x
  · by_cases h2 : x ≤ m
    · have : y = true := by rw [← hy]; simp [h1, h2]
      subst this
      clear hy
      go_enter Tryd.func66, Tryd.ntmps66
      go_wp2
      go_ret
      exact ⟨rfl, rfl⟩
    · have : y = false := by rw [← hy]; simp; omega
      subst this
      clear hy
      go_enter Tryd.func66, Tryd.ntmps66
      go_wp2
      go_ret
      exact ⟨rfl, rfl⟩
  · have : y = false := by rw [← hy]; simp; omega
    subst this
    clear hy
    go_enter Tryd.func66, Tryd.ntmps66
    go_wp2
    go_ret
    exact ⟨rfl, rfl⟩
set_option linter.unusedSimpArgs false in
set_option linter.unusedVariables false in
set_option maxHeartbeats 3200000 in
theorem sReach_any (k m : Int) (w : World) (h0 : 0 ≤ k) (h6 : k ≤ 6) (hm : reachK k = m) : Calls Tryd.prog 64 #[ .int .i64 k ] w fun e w' => e = .returned (.int .i64 m) ∧ w' = w := by
  subst hm
  rcases (show k = 0 ∨ k = 1 ∨ k = 2 ∨ k = 3 ∨ k = 4 ∨ k = 5 ∨ k = 6 by omega) with rfl | rfl | rfl | rfl | rfl | rfl | rfl
  all_goals
    go_enter Tryd.func64, Tryd.ntmps64
    go_wp2
    go_ret
    exact ⟨rfl, rfl⟩
theorem idx_vec (x y z : Int) : (∀ w, (Instr.index 58 (.agg #[.int .i64 x, .int .i64 y, .int .i64 z]) (.int .i64 0)).run Tryd.prog w = .ok (.int .i64 x) w) ∧ (∀ w, (Instr.index 58 (.agg #[.int .i64 x, .int .i64 y, .int .i64 z]) (.int .i64 1)).run Tryd.prog w = .ok (.int .i64 y) w) ∧ (∀ w, (Instr.index 58 (.agg #[.int .i64 x, .int .i64 y, .int .i64 z]) (.int .i64 2)).run Tryd.prog w = .ok (.int .i64 z) w) :=
  ⟨fun w => by kernel_rfl, fun w => by kernel_rfl, fun w => by kernel_rfl⟩
set_option linter.unusedSimpArgs false in
set_option linter.unusedVariables false in
set_option maxRecDepth 100000 in
set_option maxHeartbeats 6400000 in
theorem sNear_any (p : PntD) (w : World) (hx : I64 p.x) (hy : I64 p.y) (hz : I64 p.z) :
    Calls Tryd.prog 63 #[ .agg #[.int .i64 p.x, .int .i64 p.y, .int .i64 p.z] ] w fun e w' => e = .returned (.bool (near3 p 4194304)) ∧ Below w.heap.size w w' := by
  obtain ⟨x, y, z⟩ := p
  unfold I64 at hx hy hz
  simp only at hx hy hz
  obtain ⟨r, hrr⟩ : ∃ r, near3 ⟨x, y, z⟩ 4194304 = r := ⟨_, rfl⟩
  have HR := Lib.hid hrr
  rw [hrr]
  clear hrr
  have B0 := Lib.hid ((Below.refl w.heap.size w).alloc (Nat.le_refl _) (.cells #[.int .i64 x, .int .i64 y, .int .i64 z] 58))
  have BAD : Hid (∀ t, (t = x ∨ t = y ∨ t = z) → (t < -4194304 ∨ 4194304 < t) → r = false) := Lib.hid (fun t ht hb => by
    rw [← HR.out]
    simp only [near3, decide_eq_false_iff_not]
    rcases ht with rfl | rfl | rfl <;> omega)
  obtain ⟨ix0, ix1, ix2⟩ := idx_vec x y z
  go_enter Tryd.func63, Tryd.ntmps63
  go_wp2_with fail
  go_loop [6] (fun i => ∃ k : Nat, k ≤ 3 ∧ i = .int .i64 k ∧ (0 < k → -4194304 ≤ x ∧ x ≤ 4194304) ∧ (1 < k → -4194304 ≤ y ∧ y ≤ 4194304) ∧ (2 < k → -4194304 ≤ z ∧ z ≤ 4194304)) (fun i => 3 - (intOf i).toNat)
  case atStart => exact ⟨0, by omega, rfl, by omega, by omega, by omega⟩
  case round =>
    obtain ⟨k, hk, rfl, q1, q2, q3⟩ := hrel
    by_cases hlt : k < 3
    · rcases (show k = 0 ∨ k = 1 ∨ k = 2 by omega) with rfl | rfl | rfl
      · by_cases a1 : x < -4194304
        · have := BAD.out x (.inl rfl) (.inl a1); subst this
          clear q1 q2 q3
          go_wp2_with fail
          go_ret
          exact ⟨rfl, B0.out⟩
        · by_cases a2 : 4194304 < x
          · have := BAD.out x (.inl rfl) (.inr a2); subst this
            clear q1 q2 q3
            go_wp2_with fail
            go_ret
            exact ⟨rfl, B0.out⟩
          · clear q1 q2 q3
            go_wp2_with fail
            go_round
            case rel => exact ⟨1, by omega, rfl, by omega, by omega, by omega⟩
            case measure => simp [intOf]
      · have q1' := q1 (by omega)
        by_cases a1 : y < -4194304
        · have := BAD.out y (.inr (.inl rfl)) (.inl a1); subst this
          clear q1 q2 q3
          go_wp2_with fail
          go_ret
          exact ⟨rfl, B0.out⟩
        · by_cases a2 : 4194304 < y
          · have := BAD.out y (.inr (.inl rfl)) (.inr a2); subst this
            clear q1 q2 q3
            go_wp2_with fail
            go_ret
            exact ⟨rfl, B0.out⟩
          · clear q1 q2 q3
            go_wp2_with fail
            go_round
            case rel => exact ⟨2, by omega, rfl, fun _ => q1', by omega, by omega⟩
            case measure => simp [intOf]
      · have q1' := q1 (by omega)
        have q2' := q2 (by omega)
        by_cases a1 : z < -4194304
        · have := BAD.out z (.inr (.inr rfl)) (.inl a1); subst this
          clear q1 q2 q3
          go_wp2_with fail
          go_ret
          exact ⟨rfl, B0.out⟩
        · by_cases a2 : 4194304 < z
          · have := BAD.out z (.inr (.inr rfl)) (.inr a2); subst this
            clear q1 q2 q3
            go_wp2_with fail
            go_ret
            exact ⟨rfl, B0.out⟩
          · clear q1 q2 q3
            go_wp2_with fail
            go_round
            case rel => exact ⟨3, by omega, rfl, fun _ => q1', fun _ => q2', by omega⟩
            case measure => simp [intOf]
    · have hrt : r = true := by rw [← HR.out]; simp only [near3, decide_eq_true_eq]; omega
      subst hrt
      clear q1 q2 q3
      go_wp2_with fail
      go_ret
      exact ⟨rfl, B0.out⟩
set_option linter.unusedSimpArgs false in
set_option linter.unusedVariables false in
set_option maxRecDepth 100000 in
set_option maxHeartbeats 6400000 in
theorem sCosts_any (j : JointD) (w : World) :
    Calls Tryd.prog 65 #[ .agg (jointC j) ] w fun e w' => e = .returned (.bool (costOk j)) ∧ Below w.heap.size w w' := by
  have B0 := Lib.hid ((Below.refl w.heap.size w).alloc (Nat.le_refl _) (.cells (jointC j) 60))
  obtain ⟨r, hr⟩ : ∃ r, costOk j = r := ⟨_, rfl⟩
  have HR := Lib.hid hr
  rw [hr]
  clear hr
  simp only [jointC] at B0 ⊢
  go_enter Tryd.func65, Tryd.ntmps65
  go_wp2_with fail
  refine (sCounts_any j.weight 1024 _).mono ?_
  rintro e w2 ⟨rfl, rfl⟩
  cases s1 : (decide (1 ≤ j.weight) && decide (j.weight ≤ 1024)) with
  | false =>
    have hx := HR.out.symm.trans (by unfold costOk; rw [s1])
    subst hx
    clear s1
    go_wp2_with fail
    go_ret
    exact ⟨rfl, B0.out⟩
  | true =>
    have S1 := Lib.hid s1
    clear s1
    go_wp2_with fail
    refine (sCounts_any j.speed 1048576 _).mono ?_
    rintro e w2 ⟨rfl, rfl⟩
    cases s2 : (decide (1 ≤ j.speed) && decide (j.speed ≤ 1048576)) with
    | false =>
      have hx := HR.out.symm.trans (by unfold costOk; rw [S1.out, s2])
      subst hx
      clear s2
      go_wp2_with fail
      go_ret
      exact ⟨rfl, B0.out⟩
    | true =>
      have S2 := Lib.hid s2
      clear s2
      go_wp2_with fail
      refine (sCounts_any j.accel 1048576 _).mono ?_
      rintro e w2 ⟨rfl, rfl⟩
      cases s3 : (decide (1 ≤ j.accel) && decide (j.accel ≤ 1048576)) with
      | false =>
        have hx := HR.out.symm.trans (by unfold costOk; rw [S1.out, S2.out, s3])
        subst hx
        clear s3
        go_wp2_with fail
        go_ret
        exact ⟨rfl, B0.out⟩
      | true =>
        have S3 := Lib.hid s3
        clear s3
        go_wp2_with fail
        refine (sCounts_any j.torque 1099511627776 _).mono ?_
        rintro e w2 ⟨rfl, rfl⟩
        cases s4 : (decide (1 ≤ j.torque) && decide (j.torque ≤ 1099511627776)) with
        | false =>
          have hx := HR.out.symm.trans (by unfold costOk; rw [S1.out, S2.out, S3.out, s4])
          subst hx
          clear s4
          go_wp2_with fail
          go_ret
          exact ⟨rfl, B0.out⟩
        | true =>
          have hx := HR.out.symm.trans (by unfold costOk; rw [S1.out, S2.out, S3.out, s4])
          subst hx
          clear s4
          go_wp2_with fail
          go_ret
          exact ⟨rfl, B0.out⟩
set_option linter.unusedSimpArgs false in
set_option linter.unusedVariables false in
set_option maxRecDepth 100000 in
set_option maxHeartbeats 6400000 in
theorem sFault_any (j : JointD) (i : Nat) (w : World) (hi : i ≤ 1000) (hin : InJ j) :
    Calls Tryd.prog 33 #[ .agg (jointC j), .int .i64 i ] w fun e w' => e = .returned (.int .i64 (errE i j)) ∧ Below w.heap.size w w' := by
  have HIN := Lib.hid hin
  obtain ⟨r, hr⟩ : ∃ r, errE i j = r := ⟨_, rfl⟩
  have HR3 := Lib.hid hr
  rw [hr]
  clear hr hin
  have J0 := Lib.hid (JointAt.at_new (V := w) (j := j) rfl)
  have B0 := Lib.hid ((Below.refl w.heap.size w).alloc (Nat.le_refl _) (.cells (jointC j) 60))
  simp only [jointC] at J0 B0 ⊢
  have hik : I64 j.kind := HIN.out.kind
  have hip : I64 j.parent := HIN.out.parent
  unfold I64 at hik hip
  go_enter Tryd.func33, Tryd.ntmps33
  by_cases k0 : j.kind < 0
  · have hx := HR3.out.symm.trans (by unfold errE; rw [if_pos (.inl k0)])
    subst hx
    go_wp2_with fail
    go_ret
    exact ⟨rfl, B0.out⟩
  by_cases k6 : 6 < j.kind
  · have hx := HR3.out.symm.trans (by unfold errE; rw [if_pos (.inr k6)])
    subst hx
    go_wp2_with fail
    go_ret
    exact ⟨rfl, B0.out⟩
  have HR4 : Hid (errF i j = r) := Lib.hid (by rw [← HR3.out]; unfold errE; rw [if_neg (by omega)])
  clear HR3
  go_wp2_with fail
  refine (sLink_any j.parent i _ _ HIN.out.parent (by unfold I64; omega) rfl).mono ?_
  rintro e w1 ⟨rfl, rfl⟩
  cases hl : decide (-1 ≤ j.parent ∧ j.parent < (i : Int)) with
  | false =>
    have hl2 := of_decide_eq_false hl
    have hx := HR4.out.symm.trans (by unfold errF; rw [if_pos (by omega)])
    subst hx
    clear hl hl2
    go_wp2_with fail
    go_ret
    exact ⟨rfl, B0.out⟩
  | true =>
    have hl2 := of_decide_eq_true hl
    have HR5 : Hid (errG j = r) := Lib.hid (by rw [← HR4.out]; unfold errF; rw [if_neg (by omega)])
    clear HR4 hl hl2
    go_wp2_with fail
    refine (sNear_any ⟨j.x, j.y, j.z⟩ _ HIN.out.x HIN.out.y HIN.out.z).mono ?_
    rintro e w1 ⟨rfl, hb⟩
    have hJ1 : JointAt w1 w.heap.size j := J0.out.below hb (by simp)
    have B1 := Lib.hid (bl_next hb B0.out)
    have J1 := Lib.hid hJ1
    obtain ⟨d0, d1, d2, d3, d4, d5, d6, d7, d8, d9, d10, d11⟩ := hJ1.all
    have hwr : w.heap.size < w1.heap.size := hJ1.lt
    clear hb hJ1 J0 B0
    cases hn3 : near3 ⟨j.x, j.y, j.z⟩ 4194304 with
    | false =>
      have hx := HR5.out.symm.trans (by unfold errG; rw [if_pos hn3])
      subst hx
      clear hn3
      go_wp2_with fail
      go_ret
      exact ⟨rfl, B1.out⟩
    | true =>
      have HR6 : Hid (errH j = r) := Lib.hid (by rw [← HR5.out]; unfold errG; rw [if_neg (by rw [hn3]; decide)])
      clear HR5 hn3
      have hrc := reach_cases j.kind
      obtain ⟨m, hm⟩ : ∃ m, reachK j.kind = m := ⟨_, rfl⟩
      have HMM := Lib.hid hm
      rw [hm] at hrc
      have hr0 : 0 ≤ m := by omega
      have hr1 : m ≤ 4194304 := by omega
      clear hrc hm
      have hlo : I64 j.lo := HIN.out.lo
      have hhi : I64 j.hi := HIN.out.hi
      unfold I64 at hlo hhi
      go_wp2_with fail
      by_cases b1 : j.hi < j.lo
      · have hx := HR6.out.symm.trans (by unfold errH; rw [if_pos (.inl b1)])
        subst hx
        go_quiet (fail)
        go_wp2_with fail
        go_ret
        exact ⟨rfl, bl_drewN B1.out⟩
      by_cases b2 : j.lo < -m
      · have hx := HR6.out.symm.trans (by unfold errH; rw [HMM.out, if_pos (.inr (.inl b2))])
        subst hx
        go_quiet (first | (go_at_call 64; refine Calls.quiet_of_same (sReach_any j.kind m _ (by omega) (by omega) HMM.out)))
        go_wp2_with fail
        go_ret
        exact ⟨rfl, bl_drewN B1.out⟩
      by_cases b3 : m < j.hi
      · have hx := HR6.out.symm.trans (by unfold errH; rw [HMM.out, if_pos (.inr (.inr b3))])
        subst hx
        go_quiet (first | (go_at_call 64; refine Calls.quiet_of_same (sReach_any j.kind m _ (by omega) (by omega) HMM.out)))
        go_wp2_with fail
        go_ret
        exact ⟨rfl, bl_drewN B1.out⟩
      have HR7 : Hid (errI j = r) := Lib.hid (by rw [← HR6.out]; unfold errH; rw [HMM.out, if_neg (by omega)])
      clear HR6
      go_quiet (first | (go_at_call 64; refine Calls.quiet_of_same (sReach_any j.kind m _ (by omega) (by omega) HMM.out)))
      go_wp2_with fail
      refine (sCosts_any j _).mono ?_
      rintro e w2 ⟨rfl, hb⟩
      have B2 := Lib.hid (bl_next hb (bl_drewN B1.out))
      clear hb d0 d1 d2 d3 d4 d5 d6 d7 d8 d9 d10 d11
      cases hc : costOk j with
      | false =>
        have hx := HR7.out.symm.trans (by unfold errI; rw [if_pos hc])
        subst hx
        clear hc
        go_wp2_with fail
        go_ret
        exact ⟨rfl, B2.out⟩
      | true =>
        have hx := HR7.out.symm.trans (by unfold errI; rw [if_neg (by rw [hc]; decide)])
        subst hx
        clear hc
        go_wp2_with fail
        go_ret
        exact ⟨rfl, B2.out⟩
end Go.Proofs.YtpaiapcnoifpmaaDoor
namespace Go.Proofs.YtpaiapcnoifpmaaDoor
open Go.RowKit

theorem mass_ok {n : Nat} {m : MassD} (hl : m.link ≠ -1) {a b c : Bool} (h1 : decide (-1 ≤ m.link ∧ m.link < n) = a) (h2 : (decide (1 ≤ m.mass) && decide (m.mass ≤ 65536)) = b) (h3 : near3 ⟨m.x, m.y, m.z⟩ 4194304 = c) : massOk n m = (a && (b && c)) := by
  unfold massOk
  rw [h2, h3, ← h1]
  congr 1
  rw [decide_eq_decide]
  omega
set_option linter.unusedSimpArgs false in
set_option linter.unusedVariables false in
set_option maxRecDepth 100000 in
set_option maxHeartbeats 6400000 in
theorem sMasses_any (js : List JointD) (ms : List MassD) (vj vm : Value) (w : World) (hr : RobD w vj vm js ms) :
    Calls Tryd.prog 34 #[ .agg #[vj, vm] ] w fun e w' => e = .returned (.bool (decide (ms.length ≤ 32) && ms.all (massOk js.length))) ∧ Below w.heap.size w w' := by
  have HR := Lib.hid hr
  obtain ⟨Aj, cj, rfl, hcj, _⟩ := hr.rj.joint
  obtain ⟨Am, cm, rfl, hcm, _⟩ := hr.rm.mass
  have lj := hr.lj
  have lm := hr.lm
  clear hr
  obtain ⟨res, hres⟩ : ∃ r, (decide (ms.length ≤ 32) && ms.all (massOk js.length)) = r := ⟨_, rfl⟩
  have HX := Lib.hid hres
  rw [hres]
  clear hres
  have hR0 := RobAt.box (V := w) (vj := .slice Aj js.length cj) (vm := .slice Am ms.length cm) rfl
  have B0 := Lib.hid ((Below.refl w.heap.size w).alloc (Nat.le_refl _) (.cells #[.slice Aj js.length cj, .slice Am ms.length cm] 25))
  have R0 := Lib.hid hR0
  clear hR0
  by_cases m32 : 32 < ms.length
  · have hx := HX.out.symm.trans (by rw [decide_eq_false (by omega), Bool.false_and])
    subst hx
    go_enter Tryd.func34, Tryd.ntmps34
    go_wp2_with fail
    go_ret
    exact ⟨rfl, B0.out⟩
  have HX2 : Hid (ms.all (massOk js.length) = res) := Lib.hid (by rw [← HX.out, decide_eq_true (by omega)]; rfl)
  clear HX
  go_enter Tryd.func34, Tryd.ntmps34
  go_wp2_with fail
  go_loopw [12] (fun i wr => ∃ k : Nat, k ≤ ms.length ∧ i = .int .i64 k ∧ (∀ t (h : t < ms.length), t < k → massOk js.length ms[t] = true) ∧ RobAt wr w.heap.size (.slice Aj js.length cj) (.slice Am ms.length cm) ∧ Below w.heap.size w wr) (fun i _ => ms.length - (intOf i).toNat)
  case atStart => exact ⟨0, Nat.zero_le _, rfl, fun t _ h => absurd h (Nat.not_lt_zero _), R0.out, B0.out⟩
  case round =>
    obtain ⟨k, hk, rfl, hz, hR, hB⟩ := hrel
    have HZ := Lib.hid hz
    have BR := Lib.hid hB
    have hq := hR.lt'
    clear hz R0 B0
    by_cases hlt : k < ms.length
    · obtain ⟨_, _, ea, _, hm⟩ := (HR.out.rm.below hB (Nat.le_refl _)).mass
      injection ea with ea _ ec
      subst ea ec
      obtain ⟨g, o, rfl, hg, c0, c1, c2, c3, c4⟩ := hm k hlt
      have him := HR.out.im k hlt
      obtain ⟨x, hx⟩ : ∃ x, ms[k] = x := ⟨_, rfl⟩
      have HXK := Lib.hid hx
      rw [hx] at him c0 c1 c2 c3 c4
      have HIM := Lib.hid him
      have i0 : I64 x.link := him.link
      have i1 : I64 x.mass := him.mass
      unfold I64 at i0 i1
      have hRA := (Below.heap_alloc wr (.cells #[.int .i64 x.link, .int .i64 x.mass, .int .i64 x.x, .int .i64 x.y, .int .i64 x.z] 74) _ hq).trans hR
      have RA := Lib.hid hRA
      have HBA := Lib.hid (hB.alloc hB.size (.cells #[.int .i64 x.link, .int .i64 x.mass, .int .i64 x.x, .int .i64 x.y, .int .i64 x.z] 74))
      have r0 := RobAt.c0 hRA
      have OKK : Hid (∀ m, massOk js.length x = m → m = false → res = false) := Lib.hid (fun m h h2 => by
        rw [← HX2.out, List.all_eq_false]
        exact ⟨ms[k], List.getElem_mem hlt, by rw [HXK.out, h, h2]; decide⟩)
      clear hR hB hm hx him hRA
      by_cases l0 : x.link = -1
      · have hx := OKK.out false (by unfold massOk; rw [decide_eq_false (by omega)]; rfl) rfl
        subst hx
        have heq : (x.link == -1) = true := by rw [l0]; rfl
        clear l0
        go_wp2_with fail
        go_ret
        exact ⟨rfl, HBA.out⟩
      have LNE := Lib.hid l0
      have hne : (x.link == -1) = false := by rw [beq_eq_false_iff_ne]; exact l0
      clear l0
      go_wp2_with fail
      refine (sLink_any x.link js.length _ _ HIM.out.link (by unfold I64; omega) rfl).mono ?_
      rintro e w1 ⟨rfl, rfl⟩
      obtain ⟨a, ha⟩ : ∃ a, decide (-1 ≤ x.link ∧ x.link < (js.length : Int)) = a := ⟨_, rfl⟩
      have HA := Lib.hid ha
      rw [ha]
      clear ha
      cases a with
      | false =>
        have hx := OKK.out _ (mass_ok LNE.out HA.out rfl rfl) rfl
        subst hx
        go_wp2_with fail
        go_ret
        exact ⟨rfl, HBA.out⟩
      | true =>
        go_wp2_with fail
        refine (sCounts_any x.mass 65536 _).mono ?_
        rintro e w2 ⟨rfl, rfl⟩
        obtain ⟨b, hb⟩ : ∃ b, (decide (1 ≤ x.mass) && decide (x.mass ≤ 65536)) = b := ⟨_, rfl⟩
        have HB := Lib.hid hb
        rw [hb]
        clear hb
        cases b with
        | false =>
          have hx := OKK.out _ (mass_ok LNE.out HA.out HB.out rfl) rfl
          subst hx
          go_wp2_with fail
          go_ret
          exact ⟨rfl, HBA.out⟩
        | true =>
          go_wp2_with fail
          refine (sNear_any ⟨x.x, x.y, x.z⟩ _ HIM.out.x HIM.out.y HIM.out.z).mono ?_
          rintro e w1 ⟨rfl, hb⟩
          have RR1 := Lib.hid (RobAt.below RA.out hb (by simp; omega))
          have BR1 := Lib.hid (bl_next hb HBA.out)
          clear hb r0
          obtain ⟨c, hc⟩ : ∃ c, near3 ⟨x.x, x.y, x.z⟩ 4194304 = c := ⟨_, rfl⟩
          have HC := Lib.hid hc
          rw [hc]
          clear hc
          cases c with
          | false =>
            have hx := OKK.out _ (mass_ok LNE.out HA.out HB.out HC.out) rfl
            subst hx
            go_wp2_with fail
            go_ret
            exact ⟨rfl, BR1.out⟩
          | true =>
            have OK := Lib.hid (mass_ok LNE.out HA.out HB.out HC.out)
            go_wp2_with fail
            go_roundw
            case rel => exact ⟨k + 1, by omega, by go_num, fun t h2 ht => by rcases Nat.lt_or_ge t k with h3 | h3; exact HZ.out t h2 h3; have e : t = k := (by omega); subst e; rw [HXK.out, OK.out]; rfl, RR1.out, BR1.out⟩
            case measure => simp [intOf]; omega
    · have hx : res = true := by
        rw [← HX2.out, List.all_eq_true]
        intro m hm
        obtain ⟨t, ht, rfl⟩ := List.getElem_of_mem hm
        exact HZ.out t ht (by omega)
      subst hx
      clear hR hB
      go_wp2_with fail
      go_ret
      exact ⟨rfl, BR.out⟩
def seenF (js : List JointD) (k : Nat) : ByteArray → Option Value := fun b => if (js.take k).any (fun j => decide (j.name = b)) = true then some (.bool true) else none
theorem seen_zero (js : List JointD) (b : ByteArray) : none = seenF js 0 b := by simp [seenF]
theorem seen_succ (js : List JointD) {k : Nat} (hk : k < js.length) (b : ByteArray) : (if b = js[k].name then some (.bool true) else seenF js k b) = seenF js (k + 1) b := by
  unfold seenF
  rw [List.take_succ_eq_append_getElem hk, List.any_append]
  by_cases hb : b = js[k].name
  · rw [if_pos hb, if_pos (by simp [hb])]
  · rw [if_neg hb]
    have e : [js[k]].any (fun j => decide (j.name = b)) = false := by simp; exact fun h => hb h.symm
    rw [e, Bool.or_false]
theorem sw_mapb : Tryd.prog.underlying 78 = some (.map 9 4) := by kernel_rfl
theorem sw_bool (w : World) : (zeroValue 4).run Tryd.prog w = .ok (.bool false) w := by kernel_rfl
theorem masses_check {js : List JointD} {ms : List MassD} (h : ¬ (js.length < 1 ∨ 10 < js.length)) (h0 : ∀ i, i < js.length → errJ js i = 0) : checkR js ms = if (decide (ms.length ≤ 32) && ms.all (massOk js.length)) = true then 0 else 808 := by
  by_cases hm : 32 < ms.length
  · rw [check_many h h0 hm, decide_eq_false (by omega), Bool.false_and]; rfl
  · rw [decide_eq_true (by omega), Bool.true_and]
    unfold checkR
    rw [if_neg h, check_none h0]
    simp only
    rw [if_neg hm]
set_option linter.unusedSimpArgs false in
set_option linter.unusedVariables false in
set_option maxRecDepth 100000 in
set_option maxHeartbeats 6400000 in
theorem sCheck_any (js : List JointD) (ms : List MassD) (vj vm : Value) (w : World) (hr : RobD w vj vm js ms) :
    Calls Tryd.prog 12 #[ .agg #[vj, vm] ] w fun e w' => e = .returned (.int .i64 (checkR js ms)) ∧ Below w.heap.size w w' := by
  have HR := Lib.hid hr
  obtain ⟨Aj, cj, rfl, hcj, _⟩ := hr.rj.joint
  obtain ⟨Am, cm, rfl, hcm, _⟩ := hr.rm.mass
  have lj := hr.lj
  have lm := hr.lm
  clear hr
  obtain ⟨res, hres⟩ : ∃ r, checkR js ms = r := ⟨_, rfl⟩
  have HX := Lib.hid hres
  rw [hres]
  clear hres
  have hR0 := RobAt.box (V := w) (vj := .slice Aj js.length cj) (vm := .slice Am ms.length cm) rfl
  have B0 := Lib.hid ((Below.refl w.heap.size w).alloc (Nat.le_refl _) (.cells #[.slice Aj js.length cj, .slice Am ms.length cm] 25))
  have R0 := Lib.hid hR0
  clear hR0
  by_cases n1 : js.length < 1
  · have hx := HX.out.symm.trans (check_joints (.inl n1))
    subst hx
    have hq0 : ((js.length : Int) == 0) = true := by rw [beq_iff_eq]; omega
    clear n1
    go_enter Tryd.func12, Tryd.ntmps12
    go_wp2_with fail
    go_ret
    exact ⟨rfl, B0.out⟩
  have hq0 : ((js.length : Int) == 0) = false := by rw [beq_eq_false_iff_ne]; omega
  by_cases n10 : 10 < js.length
  · have hx := HX.out.symm.trans (check_joints (.inr n10))
    subst hx
    go_enter Tryd.func12, Tryd.ntmps12
    go_wp2_with fail
    go_ret
    exact ⟨rfl, B0.out⟩
  have NN := Lib.hid (show ¬ (js.length < 1 ∨ 10 < js.length) by omega)
  have hmm := @run_makeMap Tryd.prog
  obtain ⟨U0, hU0⟩ : ∃ U, U = w.alloc (.cells #[.slice Aj js.length cj, .slice Am ms.length cm] 25) := ⟨_, rfl⟩
  have hs0 : U0.heap.size = w.heap.size + 1 := by rw [hU0]; simp
  have hm0 : MapAt (U0.alloc (.map #[] 0)) (w.heap.size + 1) (seenF js 0) := by
    have h := MapAt.new U0
    rw [hs0] at h
    exact h.as (seen_zero js)
  have hr0 : RobAt (U0.alloc (.map #[] 0)) w.heap.size (.slice Aj js.length cj) (.slice Am ms.length cm) := by
    have h := R0.out
    rw [← hU0] at h
    exact (Below.heap_alloc _ _ _ h.lt').trans h
  have hb0 : Below w.heap.size w (U0.alloc (.map #[] 0)) := by
    have h := B0.out
    rw [← hU0] at h
    exact h.alloc h.size _
  have M0 := Lib.hid hm0
  have RM := Lib.hid hr0
  have BM := Lib.hid hb0
  subst hU0
  clear hm0 hr0 hb0 hs0
  go_enter Tryd.func12, Tryd.ntmps12
  go_wp2_with fail
  go_loopw [21] (fun i wr => ∃ k : Nat, k ≤ js.length ∧ i = .int .i64 k ∧ (∀ t, t < k → errJ js t = 0) ∧ MapAt wr (w.heap.size + 1) (seenF js k) ∧ RobAt wr w.heap.size (.slice Aj js.length cj) (.slice Am ms.length cm) ∧ Below w.heap.size w wr) (fun i _ => js.length - (intOf i).toNat)
  case atStart => exact ⟨0, Nat.zero_le _, rfl, fun t h => absurd h (Nat.not_lt_zero _), M0.out, RM.out, BM.out⟩
  case round =>
    obtain ⟨k, hk, rfl, hz, hM, hR, hB⟩ := hrel
    have HZ := Lib.hid hz
    have hmlt := hM.lt
    clear hz hmm B0 R0 M0 RM BM
    by_cases hlt : k < js.length
    · obtain ⟨_, _, ea, _, hat⟩ := (HR.out.rj.below hB (Nat.le_refl _)).joint
      injection ea with ea _ ec
      subst ea ec
      obtain ⟨g, o, rfl, hg, c0, c1, c2, c3, c4, c5, c6, c7, c8, c9, c10, c11⟩ := hat k hlt
      have hij := HR.out.ij k hlt
      have HS := Lib.hid (seen_succ js hlt)
      have hgd : js.getD k zeroJ = js[k] := by rw [List.getD_eq_getElem?_getD, List.getElem?_eq_getElem hlt]; rfl
      obtain ⟨j, hje⟩ : ∃ j, js[k] = j := ⟨_, rfl⟩
      rw [hje] at c0 c1 c2 c3 c4 c5 c6 c7 c8 c9 c10 c11 hij hgd HS
      have HIN := Lib.hid hij
      obtain ⟨er, her⟩ : ∃ x, errJ js k = x := ⟨_, rfl⟩
      have HE := Lib.hid her
      have HE2 : Hid (errD ((js.take k).any (fun t => decide (t.name = j.name))) k j = er) := Lib.hid (by rw [← her, errJ_def, hgd])
      have JA := Lib.hid (JointAt.at_new (V := wr) (j := j) rfl)
      have MA := Lib.hid (hM.alloc (.cells (jointC j) 60))
      have RA := Lib.hid ((Below.heap_alloc wr (.cells (jointC j) 60) _ hR.lt').trans hR)
      have BA := Lib.hid (hB.alloc hB.size (.cells (jointC j) 60))
      simp only [jointC] at JA MA RA BA
      have hwz := hB.size
      clear hat hM hR hB hij hgd hje her
      go_wp2_with fail
      refine (tName_any _ _).mono ?_
      rintro e w1 ⟨rfl, hb⟩
      have hJ1 := JA.out.below hb (by simp)
      have hM1 := MA.out.below hb (by simp; omega)
      have hR1 := RobAt.below RA.out hb (by simp; omega)
      have hB1 := bl_next hb BA.out
      obtain ⟨b, hbe⟩ : ∃ b, wr.heap.size = b := ⟨_, rfl⟩
      rw [hbe] at hJ1 ⊢
      have hbw : w.heap.size + 1 < b := by omega
      have hb1 := hJ1.lt
      have d0 := hJ1.cell 0
      simp only [jointC, List.getElem?_toArray, List.getElem?_cons_zero] at d0
      have J1 := Lib.hid hJ1
      have M1 := Lib.hid hM1
      have R1 := Lib.hid hR1
      have B1 := Lib.hid hB1
      clear hb hJ1 hM1 hR1 hB1 JA MA RA BA hbe c0 c1 c2 c3 c4 c5 c6 c7 c8 c9 c10 c11 hmlt hwz
      cases hnm : nameS (bts j.name) with
      | false =>
        have h2 := HE2.out.symm.trans (by unfold errD; rw [if_pos hnm])
        have hx := HX.out.symm.trans (check_joint NN.out hlt HZ.out (by rw [HE.out, h2]; decide))
        rw [HE.out, h2] at hx
        subst hx
        clear hnm
        go_wp2_with fail
        go_ret
        exact ⟨rfl, B1.out⟩
      | true =>
        have HE3 : Hid ((if (js.take k).any (fun t => decide (t.name = j.name)) = true then 802 else errE k j) = er) := Lib.hid (by
          have h := HE2.out
          unfold errD at h
          rw [if_neg (by rw [hnm]; decide)] at h
          exact h)
        clear HE2 hnm
        cases hse : (js.take k).any (fun t => decide (t.name = j.name)) with
        | true =>
          have h2 := HE3.out.symm.trans (by rw [if_pos hse])
          have hx := HX.out.symm.trans (check_joint NN.out hlt HZ.out (by rw [HE.out, h2]; decide))
          rw [HE.out, h2] at hx
          subst hx
          have hlk := map_hit sw_mapb M1.out (key := j.name) (v := .bool true) (by unfold seenF; rw [if_pos hse]) false
          rw [if_neg (by decide)] at hlk
          clear hse
          go_wp2_with fail
          go_ret
          exact ⟨rfl, B1.out⟩
        | false =>
          have HE4 : Hid (errE k j = er) := Lib.hid (by
            have h := HE3.out
            rw [if_neg (by rw [hse]; decide)] at h
            exact h)
          have hsn : seenF js k j.name = none := by unfold seenF; rw [if_neg (by rw [hse]; decide)]
          have hlk := map_miss sw_mapb sw_bool M1.out hsn false
          rw [if_neg (by decide)] at hlk
          obtain ⟨ob, hup, hM2⟩ := map_ins sw_mapb M1.out hsn (.bool true)
          have J2 := Lib.hid (show JointAt (setObj w1 (w.heap.size + 1) ob) b j from (setObj_other (by omega)).trans J1.out)
          have M2 := Lib.hid (hM2.as HS.out)
          have R2 := Lib.hid (show RobAt (setObj w1 (w.heap.size + 1) ob) w.heap.size _ _ from (setObj_other (by omega)).trans R1.out)
          have B2 := Lib.hid (below_setObj B1.out (b := w.heap.size + 1) (o := ob) (by omega))
          have hsz2 := setObj_size w1 (w.heap.size + 1) ob
          clear HE3 hM2 hsn hse HS
          obtain ⟨V, hV⟩ : ∃ V, setObj w1 (w.heap.size + 1) ob = V := ⟨_, rfl⟩
          rw [hV] at hup J2 M2 R2 B2 hsz2
          have bV : b < V.heap.size := by omega
          obtain ⟨e0, e1, e2, e3, e4, e5, e6, e7, e8, e9, e10, e11⟩ := J2.out.all
          clear hV
          go_wp2_with fail
          refine (sFault_any j k _ (by omega) HIN.out).mono ?_
          rintro e w2 ⟨rfl, hb⟩
          have M3 := Lib.hid (M2.out.below hb (by omega))
          have R3 := Lib.hid (RobAt.below R2.out hb (by omega))
          have B3 := Lib.hid (bl_next hb B2.out)
          rw [HE4.out]
          have hoe := @one_error js k
          rw [HE.out] at hoe
          clear hb d0 e0 e1 e2 e3 e4 e5 e6 e7 e8 e9 e10 e11 hup hlk
          by_cases e0 : er = 0
          · subst e0
            clear hoe
            go_wp2_with fail
            go_roundw
            case rel => exact ⟨k + 1, by omega, by go_num, fun t ht => by rcases Nat.lt_or_ge t k with h3 | h3; exact HZ.out t h3; have e : t = k := (by omega); subst e; exact HE.out, M3.out, R3.out, B3.out⟩
            case measure => simp [intOf]; omega
          · have hx := HX.out.symm.trans (check_joint NN.out hlt HZ.out (by rw [HE.out]; exact e0))
            rw [HE.out] at hx
            subst hx
            have e1 : 802 ≤ res := by omega
            have e2 : res ≤ 807 := by omega
            clear hoe
            go_wp2_with fail
            go_ret
            exact ⟨rfl, B3.out⟩
    · have hx := HX.out.symm.trans (masses_check NN.out (fun t ht => HZ.out t (by omega)))
      have r0 := hR.c0
      have r1 := hR.c1
      have HRD := Lib.hid (HR.out.below hB (Nat.le_refl _))
      have BR := Lib.hid hB
      have hq := hR.lt'
      clear hR hB hM
      go_wp2_with fail
      refine (sMasses_any js ms _ _ _ HRD.out).mono ?_
      rintro e w1 ⟨rfl, hb⟩
      have B1 := Lib.hid (bl_next hb BR.out)
      obtain ⟨c, hc⟩ : ∃ c, (decide (ms.length ≤ 32) && ms.all (massOk js.length)) = c := ⟨_, rfl⟩
      rw [hc] at hx ⊢
      clear hb hc r0 r1
      cases c with
      | true =>
        rw [if_pos rfl] at hx
        subst hx
        go_wp2_with fail
        go_ret
        exact ⟨rfl, B1.out⟩
      | false =>
        rw [if_neg (by decide)] at hx
        subst hx
        go_wp2_with fail
        go_ret
        exact ⟨rfl, B1.out⟩
def numF (js : List JointD) (k : Nat) : ByteArray → Option Value := fun b => match (js.take k).findIdx? (fun j => decide (j.name = b)) with
  | some i => some (.int .i64 (i : Int))
  | none => none
theorem num_zero (js : List JointD) (b : ByteArray) : none = numF js 0 b := by simp [numF]
theorem num_hit (js : List JointD) {k : Nat} {b : ByteArray} {i : Nat} (h : (js.take k).findIdx? (fun j => decide (j.name = b)) = some i) : numF js k b = some (.int .i64 (i : Int)) := by unfold numF; rw [h]
theorem num_miss (js : List JointD) {k : Nat} {b : ByteArray} (h : (js.take k).findIdx? (fun j => decide (j.name = b)) = none) : numF js k b = none := by unfold numF; rw [h]
theorem num_old (js : List JointD) {k : Nat} (hk : k < js.length) {i : Nat} (h : (js.take k).findIdx? (fun j => decide (j.name = js[k].name)) = some i) (b : ByteArray) : numF js k b = numF js (k + 1) b := by
  unfold numF
  rw [List.take_succ_eq_append_getElem hk, List.findIdx?_append]
  by_cases hb : js[k].name = b
  · subst hb
    rw [h]
    rfl
  · have e : [js[k]].findIdx? (fun j => decide (j.name = b)) = none := by simp [List.findIdx?_cons, hb]
    rw [e]
    simp
theorem num_new (js : List JointD) {k : Nat} (hk : k < js.length) (h : (js.take k).findIdx? (fun j => decide (j.name = js[k].name)) = none) (b : ByteArray) : (if b = js[k].name then some (.int .i64 (k : Int)) else numF js k b) = numF js (k + 1) b := by
  unfold numF
  rw [List.take_succ_eq_append_getElem hk, List.findIdx?_append]
  by_cases hb : b = js[k].name
  · subst hb
    rw [if_pos rfl, h]
    simp [List.findIdx?_cons, List.length_take]
    omega
  · have hb2 : ¬ js[k].name = b := fun e => hb e.symm
    have e : [js[k]].findIdx? (fun j => decide (j.name = b)) = none := by simp [List.findIdx?_cons, hb2]
    rw [if_neg hb, e]
    simp
theorem sw_mapi : Tryd.prog.underlying 96 = some (.map 9 3) := by kernel_rfl
theorem sw_int0 (w : World) : (zeroValue 3).run Tryd.prog w = .ok (.int .i64 0) w := by kernel_rfl
set_option linter.unusedSimpArgs false in
set_option linter.unusedVariables false in
set_option maxRecDepth 100000 in
set_option maxHeartbeats 6400000 in
theorem sFind_any (js : List JointD) (ms : List MassD) (vj vm : Value) (b : ByteArray) (w : World) (hr : RobD w vj vm js ms) :
    Calls Tryd.prog 31 #[ .agg #[vj, vm], .string b ] w fun e w' => e = .returned (.int .i64 (findK js b)) ∧ Below w.heap.size w w' := by
  have HR := Lib.hid hr
  obtain ⟨Aj, cj, rfl, hcj, _⟩ := hr.rj.joint
  obtain ⟨Am, cm, rfl, hcm, _⟩ := hr.rm.mass
  have lj := hr.lj
  clear hr
  obtain ⟨res, hres⟩ : ∃ r, findK js b = r := ⟨_, rfl⟩
  have HX := Lib.hid hres
  rw [hres]
  clear hres
  have hR0 := RobAt.box (V := w) (vj := .slice Aj js.length cj) (vm := .slice Am ms.length cm) rfl
  have hB0 := (Below.refl w.heap.size w).alloc (Nat.le_refl _) (.cells #[.slice Aj js.length cj, .slice Am ms.length cm] 25)
  have hmm := @run_makeMap Tryd.prog
  obtain ⟨U0, hU0⟩ : ∃ U, U = w.alloc (.cells #[.slice Aj js.length cj, .slice Am ms.length cm] 25) := ⟨_, rfl⟩
  have hs0 : U0.heap.size = w.heap.size + 1 := by rw [hU0]; simp
  have hm0 : MapAt (U0.alloc (.map #[] 0)) (w.heap.size + 1) (numF js 0) := by
    have h := MapAt.new U0
    rw [hs0] at h
    exact h.as (num_zero js)
  rw [← hU0] at hR0 hB0
  have RM := Lib.hid (show RobAt (U0.alloc (.map #[] 0)) w.heap.size (.slice Aj js.length cj) (.slice Am ms.length cm) from (Below.heap_alloc _ _ _ hR0.lt').trans hR0)
  have BM := Lib.hid (hB0.alloc hB0.size (.map #[] 0))
  have M0 := Lib.hid hm0
  subst hU0
  clear hm0 hR0 hB0 hs0
  go_enter Tryd.func31, Tryd.ntmps31
  go_wp2_with fail
  go_loopw [16] (fun i wr => ∃ k : Nat, k ≤ js.length ∧ i = .int .i64 k ∧ MapAt wr (w.heap.size + 1) (numF js k) ∧ RobAt wr w.heap.size (.slice Aj js.length cj) (.slice Am ms.length cm) ∧ Below w.heap.size w wr) (fun i _ => js.length - (intOf i).toNat)
  case atStart => exact ⟨0, Nat.zero_le _, rfl, M0.out, RM.out, BM.out⟩
  case round =>
    obtain ⟨k, hk, rfl, hM, hR, hB⟩ := hrel
    have hmlt := hM.lt
    clear hmm M0 RM BM
    by_cases hlt : k < js.length
    · obtain ⟨_, _, ea, _, hat⟩ := (HR.out.rj.below hB (Nat.le_refl _)).joint
      injection ea with ea _ ec
      subst ea ec
      obtain ⟨g, o, rfl, hg, c0, c1, c2, c3, c4, c5, c6, c7, c8, c9, c10, c11⟩ := hat k hlt
      have HN := Lib.hid (fun i => @num_old js k hlt i)
      have HW := Lib.hid (num_new js hlt)
      obtain ⟨j, hje⟩ : ∃ j, js[k] = j := ⟨_, rfl⟩
      rw [hje] at c0 c1 c2 c3 c4 c5 c6 c7 c8 c9 c10 c11 HN HW
      have hJA := JointAt.at_new (V := wr) (j := j) rfl
      have hMA := hM.alloc (.cells (jointC j) 60)
      have hRA : RobAt (wr.alloc (.cells (jointC j) 60)) w.heap.size _ _ := (Below.heap_alloc wr (.cells (jointC j) 60) _ hR.lt').trans hR
      have hBA := hB.alloc hB.size (.cells (jointC j) 60)
      simp only [jointC] at hJA hMA hRA hBA
      have hwz := hB.size
      have MA := Lib.hid hMA
      have RA := Lib.hid hRA
      have BA := Lib.hid hBA
      clear hat hR hB hje hRA hBA hM hJA
      cases hf : (js.take k).findIdx? (fun t => decide (t.name = j.name)) with
      | some i =>
        have hlk := map_hit sw_mapi MA.out (num_hit js hf) true
        rw [if_pos rfl] at hlk
        have M2 := Lib.hid (MA.out.as (HN.out i hf))
        clear hf HN HW hMA
        go_wp2_with fail
        go_roundw
        case rel => exact ⟨k + 1, by omega, by go_num, M2.out, RA.out, BA.out⟩
        case measure => simp [intOf]; omega
      | none =>
        have hsn := num_miss js hf
        have hlk := map_miss sw_mapi sw_int0 MA.out hsn true
        rw [if_pos rfl] at hlk
        obtain ⟨ob, hup, hM2⟩ := map_ins sw_mapi MA.out hsn (.int .i64 (k : Int))
        have M2 := Lib.hid (hM2.as (HW.out hf))
        have R2 := Lib.hid (show RobAt (setObj _ (w.heap.size + 1) ob) w.heap.size _ _ from (setObj_other (by omega)).trans RA.out)
        have B2 := Lib.hid (below_setObj BA.out (b := w.heap.size + 1) (o := ob) (by omega))
        clear hf HN HW hMA hM2 hsn
        go_wp2_with fail
        go_roundw
        case rel => exact ⟨k + 1, by omega, by go_num, M2.out, R2.out, B2.out⟩
        case measure => simp [intOf]; omega
    · have hkl : k = js.length := by omega
      subst hkl
      have BR := Lib.hid hB
      cases hf : (js.take js.length).findIdx? (fun t => decide (t.name = b)) with
      | some i =>
        have hx : (i : Int) = res := by
          rw [← HX.out]
          unfold findK
          rw [List.take_length] at hf
          rw [hf]
        have hlk := map_hit sw_mapi hM (num_hit js hf) true
        rw [if_pos rfl, hx] at hlk
        clear hf hR hB hM hx
        go_wp2_with fail
        go_ret
        exact ⟨rfl, BR.out⟩
      | none =>
        have hx : res = -1 := by
          rw [← HX.out]
          unfold findK
          rw [List.take_length] at hf
          rw [hf]
        subst hx
        have hlk := map_miss sw_mapi sw_int0 hM (num_miss js hf) true
        rw [if_pos rfl] at hlk
        clear hf hR hB hM
        go_wp2_with fail
        go_ret
        exact ⟨rfl, BR.out⟩
end Go.Proofs.YtpaiapcnoifpmaaDoor
