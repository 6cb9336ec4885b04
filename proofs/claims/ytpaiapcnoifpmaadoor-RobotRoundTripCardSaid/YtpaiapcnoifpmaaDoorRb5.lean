/- Proved: the reference's checkJoint and CheckRobot at whatever robot return what errJ and checkR in Rb1 compute. Conditions: as each theorem states. · Proved: the reference's CheckRobot at whatever robot returns what checkR in Rb1 computes. Conditions: as the theorem states. -/
import Derived.Test.YtpaiapcnoifpmaaDoorRb3
namespace Go.Proofs.YtpaiapcnoifpmaaDoor
open Go.RowKit

def errI (j : JointD) : Int := if costOk j = false then 807 else 0
def errH (j : JointD) : Int := if j.hi < j.lo ∨ j.lo < -(reachK j.kind) ∨ reachK j.kind < j.hi then 806 else errI j
def errG (j : JointD) : Int := if near3 ⟨j.x, j.y, j.z⟩ 4194304 = false then 805 else errH j
def errF (i : Nat) (j : JointD) : Int := if j.parent < -1 ∨ (i : Int) ≤ j.parent then 804 else errG j
def errE (i : Nat) (j : JointD) : Int := if j.kind < 0 ∨ 6 < j.kind then 803 else errF i j
def errD (tw : Bool) (i : Nat) (j : JointD) : Int := if nameS (bts j.name) = false then 802 else if tw = true then 802 else errE i j
theorem errJ_def (js : List JointD) (i : Nat) : errJ js i = errD ((js.take i).any (fun k => decide (k.name = (js.getD i zeroJ).name))) i (js.getD i zeroJ) := rfl
set_option linter.unusedSimpArgs false in
set_option linter.unusedVariables false in
set_option maxRecDepth 100000 in
set_option maxHeartbeats 6400000 in
theorem rCheckJoint_all (js : List JointD) (vj : Value) (i : Nat) (w : World) (hj : RdO w vj js.length 12 (jcells js)) (hi : i < js.length) (lj : js.length ≤ 8796093022208) (hin : InJ js[i]) :
    Calls Tryd.prog 35 #[ vj, .int .i64 i ] w fun e w' => e = .returned (.int .i64 (errJ js i)) ∧ Below w.heap.size w w' := by
  obtain ⟨A, c, rfl, hc, hat⟩ := hj.joint
  have HA := Lib.hid hat
  obtain ⟨g, o, rfl, hg, c0, c1, c2, c3, c4, c5, c6, c7, c8, c9, c10, c11⟩ := hat i hi
  obtain ⟨j, hje⟩ : ∃ j, js[i] = j := ⟨_, rfl⟩
  have hgd : js.getD i zeroJ = j := by rw [List.getD_eq_getElem?_getD, List.getElem?_eq_getElem hi]; exact hje
  rw [hje] at c0 c1 c2 c3 c4 c5 c6 c7 c8 c9 c10 c11 hin
  obtain ⟨r, hr⟩ : ∃ r, errJ js i = r := ⟨_, rfl⟩
  rw [hr]
  rw [errJ_def, hgd] at hr
  have HR := Lib.hid hr
  have HIN := Lib.hid hin
  have J0 := Lib.hid (JointAt.at_new (V := w) (j := j) rfl)
  have B0 := Lib.hid ((Below.refl w.heap.size w).alloc (Nat.le_refl _) (.cells (jointC j) 60))
  simp only [jointC] at J0 B0
  clear hj hat hje hgd hr hin
  go_enter Tryd.func35, Tryd.ntmps35
  go_wp2_with fail
  refine (rName_any _ _).mono ?_
  rintro e w1 ⟨rfl, rfl⟩
  cases hnm : nameS (bts j.name) with
  | false =>
    have hx := HR.out.symm.trans (by unfold errD; rw [if_pos hnm])
    subst hx
    clear hnm HR
    go_wp2_with fail
    go_ret
    exact ⟨rfl, B0.out⟩
  | true =>
    have HR2 : Hid ((if (js.take i).any (fun k => decide (k.name = j.name)) = true then 802 else errE i j) = r) := Lib.hid (by
      have h := HR.out
      unfold errD at h
      have hz : ¬ nameS (bts j.name) = false := (by rw [hnm]; decide)
      rw [if_neg hz] at h
      exact h)
    clear HR hnm
    go_wp2_with fail
    clear c0 c1 c2 c3 c4 c5 c6 c7 c8 c9 c10 c11
    obtain ⟨V, hV⟩ : ∃ V, w.alloc (.cells #[.string j.name, .int .i64 j.kind, .int .i64 j.parent, .int .i64 j.x, .int .i64 j.y, .int .i64 j.z, .int .i64 j.lo, .int .i64 j.hi, .int .i64 j.weight, .int .i64 j.speed, .int .i64 j.accel, .int .i64 j.torque] 60) = V := ⟨_, rfl⟩
    have hJ0 : JointAt V w.heap.size j := by rw [← hV]; exact J0.out
    have hB0 : Below w.heap.size w V := by rw [← hV]; exact B0.out
    rw [hV]
    have JV := Lib.hid hJ0
    have BV := Lib.hid hB0
    clear hV hJ0 hB0 J0 B0
    go_loopw [6] (fun i' wr => ∃ k : Nat, k ≤ i ∧ i' = .int .i64 k ∧ (∀ t (h : t < k) (h2 : t < js.length), js[t].name ≠ j.name) ∧ JointAt wr w.heap.size j ∧ Below w.heap.size w wr) (fun i' _ => i - (intOf i').toNat)
    case atStart => exact ⟨0, Nat.zero_le _, rfl, fun t h => by omega, JV.out, BV.out⟩
    case round =>
      obtain ⟨k, hk, rfl, hne, hJ, hB⟩ := hrel
      have HNE := Lib.hid hne
      clear hne
      have JR := Lib.hid hJ
      have BR := Lib.hid hB
      by_cases hlt : k < i
      · obtain ⟨_, _, hgg, hgl, a0, _⟩ := HA.out k (by omega)
        injection hgg with hgg
        injection hgg with h1 h2 _
        subst h1 h2
        obtain ⟨nk, hnk⟩ : ∃ b, js[k].name = b := ⟨_, rfl⟩
        rw [hnk] at a0
        have HNK := Lib.hid hnk
        have e0 := (hB.cell (p := ⟨g, o + k * 12, none⟩) hgl).trans a0
        obtain ⟨d0, _⟩ := hJ.all
        have hgr : g < wr.heap.size := by have := hB.size; omega
        have hwr : w.heap.size < wr.heap.size := hJ.lt
        by_cases he : nk = j.name
        · have hap := same_word he
          have hx := HR2.out.symm.trans (by rw [if_pos]; rw [List.any_eq_true]; exact ⟨js[k], by rw [List.mem_take_iff_getElem]; exact ⟨k, by omega, rfl⟩, by simp [HNK.out, he]⟩)
          subst hx
          obtain ⟨nj, hnj⟩ : ∃ b, j.name = b := ⟨_, rfl⟩
          rw [hnj] at d0 hap
          clear hJ hB a0 hnk he hnj
          go_wp2_with fail
          go_quiet (fail)
          go_wp2_with fail
          go_ret
          exact ⟨rfl, bl_drewN BR.out⟩
        · have hap := other_word he
          have HE := Lib.hid he
          obtain ⟨nj, hnj⟩ : ∃ b, j.name = b := ⟨_, rfl⟩
          have HNJ := Lib.hid hnj
          rw [hnj] at d0 hap
          clear hJ hB a0 hnk he hnj
          go_wp2_with fail
          go_quiet (fail)
          go_wp2_with fail
          go_roundw
          case rel => exact ⟨k + 1, by omega, by go_num, fun t h h2 => by rcases Nat.lt_or_ge t k with h3 | h3; exact HNE.out t h3 h2; have e : t = k := (by omega); subst e; rw [HNK.out]; exact HE.out, JR.out.drewN _, bl_drewN BR.out⟩
          case measure => simp [intOf]; omega
      · have htw : ¬ (js.take i).any (fun k => decide (k.name = j.name)) = true := by
          intro ha
          rw [List.any_eq_true] at ha
          obtain ⟨x, hx, hx2⟩ := ha
          rw [List.mem_take_iff_getElem] at hx
          obtain ⟨t, ht, rfl⟩ := hx
          exact HNE.out t (by omega) (by omega) (by simpa using hx2)
        have HR3 : Hid (errE i j = r) := Lib.hid (by rw [← HR2.out, if_neg htw])
        obtain ⟨d0, d1, d2, d3, d4, d5, d6, d7, d8, d9, d10, d11⟩ := hJ.all
        have hwr : w.heap.size < wr.heap.size := hJ.lt
        clear hJ hB htw HR2 HNE JV BV
        have hik : I64 j.kind := HIN.out.kind
        have hip : I64 j.parent := HIN.out.parent
        unfold I64 at hik hip
        by_cases k0 : j.kind < 0
        · have hx := HR3.out.symm.trans (by unfold errE; rw [if_pos (.inl k0)])
          subst hx
          go_wp2_with fail
          go_ret
          exact ⟨rfl, BR.out⟩
        by_cases k6 : 6 < j.kind
        · have hx := HR3.out.symm.trans (by unfold errE; rw [if_pos (.inr k6)])
          subst hx
          go_wp2_with fail
          go_ret
          exact ⟨rfl, BR.out⟩
        have HR4 : Hid (errF i j = r) := Lib.hid (by rw [← HR3.out]; unfold errE; rw [if_neg (by omega)])
        clear HR3
        by_cases q0 : j.parent < -1
        · have hx := HR4.out.symm.trans (by unfold errF; rw [if_pos (.inl q0)])
          subst hx
          go_wp2_with fail
          go_ret
          exact ⟨rfl, BR.out⟩
        by_cases q1 : (i : Int) ≤ j.parent
        · have hx := HR4.out.symm.trans (by unfold errF; rw [if_pos (.inr q1)])
          subst hx
          go_wp2_with fail
          go_ret
          exact ⟨rfl, BR.out⟩
        have HR5 : Hid (errG j = r) := Lib.hid (by rw [← HR4.out]; unfold errF; rw [if_neg (by omega)])
        clear HR4
        go_wp2_with fail
        refine (rNear_all ⟨j.x, j.y, j.z⟩ 4194304 _ (by decide) (by decide) HIN.out.x HIN.out.y HIN.out.z).mono ?_
        rintro e w1 ⟨rfl, hb⟩
        have hJ1 : JointAt w1 w.heap.size j := JR.out.below hb hwr
        have B1 := Lib.hid (bl_next hb BR.out)
        clear d0 d1 d2 d3 d4 d5 d6 d7 d8 d9 d10 d11
        obtain ⟨d0, d1, d2, d3, d4, d5, d6, d7, d8, d9, d10, d11⟩ := hJ1.all
        clear hb hJ1
        cases hn3 : near3 ⟨j.x, j.y, j.z⟩ 4194304 with
        | false =>
          have hx := HR5.out.symm.trans (by unfold errG; rw [if_pos hn3])
          subst hx
          clear hn3
          go_wp2_with fail
          go_ret
          exact ⟨rfl, B1.out⟩
        | true =>
          have HR6 : Hid (errH j = r) := Lib.hid (by rw [← HR5.out]; unfold errG; rw [if_neg (by rw [hn3]; decide)])
          clear HR5 hn3
          go_wp2_with fail
          refine (rReach_any j.kind _).mono ?_
          rintro e w2 ⟨rfl, rfl⟩
          have hrc := reach_cases j.kind
          obtain ⟨m, hm⟩ : ∃ m, reachK j.kind = m := ⟨_, rfl⟩
          have HMM := Lib.hid hm
          rw [hm] at hrc ⊢
          have hr0 : 0 ≤ m := by omega
          have hr1 : m ≤ 4194304 := by omega
          clear hrc hm
          have hlo : I64 j.lo := HIN.out.lo
          have hhi : I64 j.hi := HIN.out.hi
          unfold I64 at hlo hhi
          by_cases b1 : j.hi < j.lo
          · have hx := HR6.out.symm.trans (by unfold errH; rw [if_pos (.inl b1)])
            subst hx
            go_wp2_with fail
            go_ret
            exact ⟨rfl, B1.out⟩
          by_cases b2 : j.lo < -m
          · have hx := HR6.out.symm.trans (by unfold errH; rw [HMM.out, if_pos (.inr (.inl b2))])
            subst hx
            go_wp2_with fail
            go_ret
            exact ⟨rfl, B1.out⟩
          by_cases b3 : m < j.hi
          · have hx := HR6.out.symm.trans (by unfold errH; rw [HMM.out, if_pos (.inr (.inr b3))])
            subst hx
            go_wp2_with fail
            go_ret
            exact ⟨rfl, B1.out⟩
          have HR7 : Hid (errI j = r) := Lib.hid (by rw [← HR6.out]; unfold errH; rw [HMM.out, if_neg (by omega)])
          clear HR6 HMM
          go_wp2_with fail
          refine (rBetween_any j.weight 1 1024 _).mono ?_
          rintro e w2 ⟨rfl, rfl⟩
          cases s1 : (decide (1 ≤ j.weight) && decide (j.weight ≤ 1024)) with
          | false =>
            have hx := HR7.out.symm.trans (by unfold errI costOk; rw [s1, if_pos (by simp)])
            subst hx
            clear s1
            go_wp2_with fail
            go_ret
            exact ⟨rfl, B1.out⟩
          | true =>
            have S1 := Lib.hid s1
            clear s1
            go_wp2_with fail
            refine (rBetween_any j.speed 1 1048576 _).mono ?_
            rintro e w2 ⟨rfl, rfl⟩
            cases s2 : (decide (1 ≤ j.speed) && decide (j.speed ≤ 1048576)) with
            | false =>
              have hx := HR7.out.symm.trans (by unfold errI costOk; rw [s2, if_pos (by simp)])
              subst hx
              clear s2
              go_wp2_with fail
              go_ret
              exact ⟨rfl, B1.out⟩
            | true =>
              have S2 := Lib.hid s2
              clear s2
              go_wp2_with fail
              refine (rBetween_any j.accel 1 1048576 _).mono ?_
              rintro e w2 ⟨rfl, rfl⟩
              cases s3 : (decide (1 ≤ j.accel) && decide (j.accel ≤ 1048576)) with
              | false =>
                have hx := HR7.out.symm.trans (by unfold errI costOk; rw [s3, if_pos (by simp)])
                subst hx
                clear s3
                go_wp2_with fail
                go_ret
                exact ⟨rfl, B1.out⟩
              | true =>
                have S3 := Lib.hid s3
                clear s3
                go_wp2_with fail
                refine (rBetween_any j.torque 1 1099511627776 _).mono ?_
                rintro e w2 ⟨rfl, rfl⟩
                cases s4 : (decide (1 ≤ j.torque) && decide (j.torque ≤ 1099511627776)) with
                | false =>
                  have hx := HR7.out.symm.trans (by unfold errI costOk; rw [s4, if_pos (by simp)])
                  subst hx
                  clear s4
                  go_wp2_with fail
                  go_ret
                  exact ⟨rfl, B1.out⟩
                | true =>
                  have hx := HR7.out.symm.trans (by unfold errI costOk; rw [S1.out, S2.out, S3.out, s4, if_neg (by simp)])
                  subst hx
                  clear s4
                  go_wp2_with fail
                  go_ret
                  exact ⟨rfl, B1.out⟩
end Go.Proofs.YtpaiapcnoifpmaaDoor
namespace Go.Proofs.YtpaiapcnoifpmaaDoor
open Go.RowKit

theorem one_error {js : List JointD} {i : Nat} : errJ js i = 0 ∨ (802 ≤ errJ js i ∧ errJ js i ≤ 807) := by
  unfold errJ
  repeat' split
  all_goals decide
set_option linter.unusedSimpArgs false in
set_option linter.unusedVariables false in
set_option maxRecDepth 100000 in
set_option maxHeartbeats 6400000 in
theorem rCheckRobot_all (js : List JointD) (ms : List MassD) (vj vm : Value) (w : World) (hr : RobD w vj vm js ms) :
    Calls Tryd.prog 13 #[ .agg #[vj, vm] ] w fun e w' => e = .returned (.int .i64 (checkR js ms)) ∧ Below w.heap.size w w' := by
  have HR := Lib.hid hr
  obtain ⟨Aj, cj, rfl, hcj, _⟩ := hr.rj.joint
  obtain ⟨Am, cm, rfl, hcm, _⟩ := hr.rm.mass
  have lj := hr.lj
  have lm := hr.lm
  clear hr
  obtain ⟨res, hres⟩ : ∃ r, checkR js ms = r := ⟨_, rfl⟩
  have HX := Lib.hid hres
  rw [hres]
  clear hres
  have hR0 := RobAt.box (V := w) (vj := .slice Aj js.length cj) (vm := .slice Am ms.length cm) rfl
  have B0 := Lib.hid ((Below.refl w.heap.size w).alloc (Nat.le_refl _) (.cells #[.slice Aj js.length cj, .slice Am ms.length cm] 25))
  have R0 := Lib.hid hR0
  clear hR0
  by_cases n1 : js.length < 1
  · have hx := HX.out.symm.trans (check_joints (.inl n1))
    subst hx
    go_enter Tryd.func13, Tryd.ntmps13
    go_wp2_with fail
    go_ret
    exact ⟨rfl, B0.out⟩
  by_cases n10 : 10 < js.length
  · have hx := HX.out.symm.trans (check_joints (.inr n10))
    subst hx
    go_enter Tryd.func13, Tryd.ntmps13
    go_wp2_with fail
    go_ret
    exact ⟨rfl, B0.out⟩
  have NN := Lib.hid (show ¬ (js.length < 1 ∨ 10 < js.length) by omega)
  go_enter Tryd.func13, Tryd.ntmps13
  go_wp2_with fail
  go_loopw [3] (fun i wr => ∃ k : Nat, k ≤ js.length ∧ i = .int .i64 k ∧ (∀ t, t < k → errJ js t = 0) ∧ RobAt wr w.heap.size (.slice Aj js.length cj) (.slice Am ms.length cm) ∧ Below w.heap.size w wr) (fun i _ => js.length - (intOf i).toNat)
  case atStart => exact ⟨0, Nat.zero_le _, rfl, fun t h => absurd h (Nat.not_lt_zero _), R0.out, B0.out⟩
  case round =>
    obtain ⟨k, hk, rfl, hz, hR, hB⟩ := hrel
    have HZ := Lib.hid hz
    have RR := Lib.hid hR
    have BR := Lib.hid hB
    have r0 := hR.c0
    have r1 := hR.c1
    clear R0 B0 hz
    by_cases hlt : k < js.length
    · have HJ := Lib.hid (HR.out.rj.below hB (Nat.le_refl _))
      have hq := hR.lt'
      clear hR hB
      go_wp2_with fail
      refine (rCheckJoint_all js _ k _ HJ.out hlt lj (HR.out.ij k hlt)).mono ?_
      rintro e w1 ⟨rfl, hb⟩
      have RR1 := Lib.hid (RR.out.below hb hq)
      have BR1 := Lib.hid (bl_next hb BR.out)
      clear hb r0 r1
      obtain ⟨er, her⟩ : ∃ x, errJ js k = x := ⟨_, rfl⟩
      have HE := Lib.hid her
      have hoe := @one_error js k
      rw [her] at hoe ⊢
      clear her
      by_cases e0 : er = 0
      · subst e0
        clear hoe
        go_wp2_with fail
        go_roundw
        case rel => exact ⟨k + 1, by omega, by go_num, fun t ht => by rcases Nat.lt_or_ge t k with h3 | h3; exact HZ.out t h3; have e : t = k := (by omega); subst e; exact HE.out, RR1.out, BR1.out⟩
        case measure => simp [intOf]; omega
      · have hx := HX.out.symm.trans (check_joint NN.out hlt HZ.out (by rw [HE.out]; exact e0))
        rw [HE.out] at hx
        subst hx
        have e1 : 802 ≤ res := by omega
        have e2 : res ≤ 807 := by omega
        clear hoe
        go_wp2_with fail
        go_ret
        exact ⟨rfl, BR1.out⟩
    · have HZ2 : Hid (∀ t, t < js.length → errJ js t = 0) := Lib.hid (fun t ht => HZ.out t (by omega))
      clear hR hB HZ
      by_cases m32 : 32 < ms.length
      · have hx := HX.out.symm.trans (check_many NN.out HZ2.out m32)
        subst hx
        go_wp2_with fail
        go_ret
        exact ⟨rfl, BR.out⟩
      go_wp2_with fail
      clear r0 r1
      obtain ⟨wo, hwo⟩ : ∃ wo, wo = wr := ⟨_, rfl⟩
      subst hwo
      go_loopw [5] (fun i wr => ∃ k : Nat, k ≤ ms.length ∧ i = .int .i64 k ∧ (∀ t (h : t < ms.length), t < k → massOk js.length ms[t] = true) ∧ RobAt wr w.heap.size (.slice Aj js.length cj) (.slice Am ms.length cm) ∧ Below w.heap.size w wr) (fun i _ => ms.length - (intOf i).toNat)
      case atStart => exact ⟨0, Nat.zero_le _, rfl, fun t _ h => absurd h (Nat.not_lt_zero _), RR.out, BR.out⟩
      case round =>
        obtain ⟨k, hk, rfl, hz, hR, hB⟩ := hrel
        clear RR BR
        have HZ := Lib.hid hz
        have RR := Lib.hid hR
        have BR := Lib.hid hB
        have r0 := hR.c0
        have r1 := hR.c1
        have hq := hR.lt'
        clear hz
        by_cases hlt : k < ms.length
        · obtain ⟨_, _, ea, _, hm⟩ := (HR.out.rm.below hB (Nat.le_refl _)).mass
          injection ea with ea _ ec
          subst ea ec
          obtain ⟨g, o, rfl, hg, c0, c1, c2, c3, c4⟩ := hm k hlt
          have him := HR.out.im k hlt
          obtain ⟨x, hx⟩ : ∃ x, ms[k] = x := ⟨_, rfl⟩
          have HXK := Lib.hid hx
          rw [hx] at him c0 c1 c2 c3 c4
          have HIM := Lib.hid him
          have i0 : I64 x.link := him.link
          have i1 : I64 x.mass := him.mass
          unfold I64 at i0 i1
          have RA := Lib.hid ((Below.heap_alloc wr (.cells #[.int .i64 x.link, .int .i64 x.mass, .int .i64 x.x, .int .i64 x.y, .int .i64 x.z] 74) _ hq).trans hR)
          have HBA := Lib.hid (hB.alloc hB.size (.cells #[.int .i64 x.link, .int .i64 x.mass, .int .i64 x.x, .int .i64 x.y, .int .i64 x.z] 74))
          clear hR hB hm hx him
          have BAD : Hid (massOk js.length x = false → res = 808) := Lib.hid (fun h => HX.out.symm.trans (check_mass NN.out HZ2.out hlt (by rw [HXK.out]; exact h)))
          by_cases l0 : x.link < 0
          · have hx := BAD.out (by unfold massOk; rw [decide_eq_false (by omega)]; rfl)
            subst hx
            go_wp2_with fail
            go_ret
            exact ⟨rfl, HBA.out⟩
          by_cases l1 : (js.length : Int) ≤ x.link
          · have hx := BAD.out (by unfold massOk; rw [decide_eq_false (by omega)]; rfl)
            subst hx
            go_wp2_with fail
            go_ret
            exact ⟨rfl, HBA.out⟩
          have LK := Lib.hid (show decide (0 ≤ x.link ∧ x.link < js.length) = true from decide_eq_true (by omega))
          go_wp2_with fail
          refine (rBetween_any x.mass 1 65536 _).mono ?_
          rintro e w2 ⟨rfl, rfl⟩
          cases s1 : (decide (1 ≤ x.mass) && decide (x.mass ≤ 65536)) with
          | false =>
            have hx := BAD.out (by unfold massOk; rw [s1, LK.out]; rfl)
            subst hx
            clear s1
            go_wp2_with fail
            go_ret
            exact ⟨rfl, HBA.out⟩
          | true =>
            have S1 := Lib.hid s1
            clear s1
            go_wp2_with fail
            refine (rNear_all ⟨x.x, x.y, x.z⟩ 4194304 _ (by decide) (by decide) HIM.out.x HIM.out.y HIM.out.z).mono ?_
            rintro e w1 ⟨rfl, hb⟩
            have RR1 := Lib.hid (RobAt.below RA.out hb (by simp; omega))
            have BR1 := Lib.hid (bl_next hb HBA.out)
            clear hb r0 r1
            cases n3 : near3 ⟨x.x, x.y, x.z⟩ 4194304 with
            | false =>
              have hx := BAD.out (by unfold massOk; rw [LK.out, S1.out, n3]; rfl)
              subst hx
              clear n3
              go_wp2_with fail
              go_ret
              exact ⟨rfl, BR1.out⟩
            | true =>
              have OK : Hid (massOk js.length x = true) := Lib.hid (by unfold massOk; rw [LK.out, S1.out, n3]; rfl)
              clear n3
              go_wp2_with fail
              go_roundw
              case rel => exact ⟨k + 1, by omega, by go_num, fun t h2 ht => by rcases Nat.lt_or_ge t k with h3 | h3; exact HZ.out t h2 h3; have e : t = k := (by omega); subst e; rw [HXK.out]; exact OK.out, RR1.out, BR1.out⟩
              case measure => simp [intOf]; omega
        · have hx := HX.out.symm.trans (check_fine NN.out HZ2.out m32 (fun t h => HZ.out t h (by omega)))
          subst hx
          clear hR hB
          go_wp2_with fail
          go_ret
          exact ⟨rfl, BR.out⟩
end Go.Proofs.YtpaiapcnoifpmaaDoor
