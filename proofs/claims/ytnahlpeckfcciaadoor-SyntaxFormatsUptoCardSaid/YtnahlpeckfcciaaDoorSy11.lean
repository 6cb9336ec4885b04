/- Proved: the reference's CheckRobot and CheckScene accept what the makers make. Conditions: as each theorem states. -/
import Derived.Test.YtnahlpeckfcciaaDoorSy10
namespace Go.Proofs.YtnahlpeckfcciaaDoor
open Go.RowKit

theorem RobAt.below {W V : World} {b B : Nat} {vj vm : Value} (h : RobAt W b vj vm) (hb : Below B W V) (hB : b < B) : RobAt V b vj vm := (hb.block b hB).trans h
theorem RobAt.lt' {W : World} {q : Nat} {vj vm : Value} (h : RobAt W q vj vm) : q < W.heap.size := lt_of_block h
theorem RobAt.box {V : World} {q : Nat} {vj vm : Value} (hb : V.heap.size = q) : RobAt (V.alloc (.cells #[vj, vm] 37)) q vj vm := by subst hb; exact heap_alloc_new _ _
theorem RdC.mass {W : World} {v : Value} {ms : List MassD} (h : RdC W v ms.length 5 (mcells ms)) : ∃ (A : Option Addr) (c : Nat), v = .slice A ms.length c ∧ ms.length ≤ c ∧
    ∀ (k : Nat) (hk : k < ms.length), ∃ g, A = some ⟨g, 0, none⟩ ∧ g < W.heap.size ∧ W.cell? ⟨g, k * 5, none⟩ = some (.int .i64 ms[k].link) ∧ W.cell? ⟨g, k * 5 + 1, none⟩ = some (.int .i64 ms[k].mass) ∧ W.cell? ⟨g, k * 5 + 2, none⟩ = some (.int .i64 ms[k].x) ∧
      W.cell? ⟨g, k * 5 + 3, none⟩ = some (.int .i64 ms[k].y) ∧ W.cell? ⟨g, k * 5 + 4, none⟩ = some (.int .i64 ms[k].z) := by
  obtain ⟨A, c, hv, hc, hat⟩ := RdC.at h (fun j => by rfl) (by decide)
  refine ⟨A, c, hv, hc, fun k hk => ?_⟩
  obtain ⟨g, hA, hg, hi⟩ := hat k hk
  exact ⟨g, hA, hg, hi 0 (by decide), hi 1 (by decide), hi 2 (by decide), hi 3 (by decide), hi 4 (by decide)⟩
/-- A robot that the makers made. -/
structure RobM (W : World) (vj vm : Value) (js : List JointD) (ms : List MassD) : Prop where
  rj : RdC W vj js.length 12 (jcells js)
  rm : RdC W vm ms.length 5 (mcells ms)
  l1 : 1 ≤ js.length
  l3 : js.length ≤ 3
  m2 : ms.length ≤ 2
  mj : ∀ k (h : k < js.length), MadeJ k js[k]
  mm : ∀ k (h : k < ms.length), MadeM js.length ms[k]
theorem RobM.below {W V : World} {vj vm : Value} {js : List JointD} {ms : List MassD} {B : Nat} (h : RobM W vj vm js ms) (hb : Below B W V) (hB : W.heap.size ≤ B) : RobM V vj vm js ms :=
  ⟨h.rj.below hb hB, h.rm.below hb hB, h.l1, h.l3, h.m2, h.mj, h.mm⟩
set_option linter.unusedSimpArgs false in
set_option linter.unusedVariables false in
set_option maxRecDepth 100000 in
set_option maxHeartbeats 6400000 in
theorem rCheckRobot_any (js : List JointD) (ms : List MassD) (vj vm : Value) (w : World) (hr : RobM w vj vm js ms) :
    Calls Tryd.prog 45 #[ .agg #[vj, vm] ] w fun e w' => e = .returned (.int .i64 0) ∧ Below w.heap.size w w' := by
  have HR := Lib.hid hr
  obtain ⟨Aj, cj, rfl, hcj, _⟩ := hr.rj.joint
  obtain ⟨Am, cm, rfl, hcm, _⟩ := hr.rm.mass
  have l1 := hr.l1
  have l3 := hr.l3
  have m2 := hr.m2
  clear hr
  have hR0 := RobAt.box (V := w) (vj := .slice Aj js.length cj) (vm := .slice Am ms.length cm) rfl
  have B0 := Lib.hid ((Below.refl w.heap.size w).alloc (Nat.le_refl _) (.cells #[.slice Aj js.length cj, .slice Am ms.length cm] 37))
  have R0 := Lib.hid hR0
  clear hR0
  go_enter Tryd.func45, Tryd.ntmps45
  go_wp2_with fail
  go_loopw [3] (fun i wr => ∃ k : Nat, k ≤ js.length ∧ i = .int .i64 k ∧ RobAt wr w.heap.size (.slice Aj js.length cj) (.slice Am ms.length cm) ∧ Below w.heap.size w wr) (fun i _ => js.length - (intOf i).toNat)
  case atStart => exact ⟨0, Nat.zero_le _, rfl, R0.out, B0.out⟩
  case round =>
    obtain ⟨k, hk, rfl, hR, hB⟩ := hrel
    have RR := Lib.hid hR
    have BR := Lib.hid hB
    have r0 := hR.c0
    have r1 := hR.c1
    clear R0 B0
    by_cases hlt : k < js.length
    · have HJ := Lib.hid (HR.out.rj.below hB (Nat.le_refl _))
      have hq := hR.lt'
      clear hR hB
      go_wp2_with fail
      refine (rCheckJoint_any js _ k _ HJ.out hlt l3 HR.out.mj).mono ?_
      rintro e w1 ⟨rfl, hb⟩
      have RR1 := Lib.hid (RR.out.below hb hq)
      have BR1 := Lib.hid (bl_next hb BR.out)
      clear hb r0 r1
      go_wp2_with fail
      go_roundw
      case rel => exact ⟨k + 1, by omega, by go_num, RR1.out, BR1.out⟩
      case measure => simp [intOf]; omega
    · clear hR hB
      go_wp2_with fail
      clear r0 r1
      obtain ⟨wo, hwo⟩ : ∃ wo, wo = wr := ⟨_, rfl⟩
      subst hwo
      go_loopw [5] (fun i wr => ∃ k : Nat, k ≤ ms.length ∧ i = .int .i64 k ∧ RobAt wr w.heap.size (.slice Aj js.length cj) (.slice Am ms.length cm) ∧ Below w.heap.size w wr) (fun i _ => ms.length - (intOf i).toNat)
      case atStart => exact ⟨0, Nat.zero_le _, rfl, RR.out, BR.out⟩
      case round =>
        obtain ⟨k, hk, rfl, hR, hB⟩ := hrel
        clear RR BR
        have RR := Lib.hid hR
        have BR := Lib.hid hB
        have r0 := hR.c0
        have r1 := hR.c1
        have hq := hR.lt'
        by_cases hlt : k < ms.length
        · obtain ⟨_, _, ea, _, hm⟩ := (HR.out.rm.below hB (Nat.le_refl _)).mass
          injection ea with ea _ ec
          subst ea ec
          obtain ⟨g, rfl, hg, c0, c1, c2, c3, c4⟩ := hm k hlt
          have hmm := HR.out.mm k hlt
          obtain ⟨x, hx⟩ : ∃ x, ms[k] = x := ⟨_, rfl⟩
          rw [hx] at hmm c0 c1 c2 c3 c4
          obtain ⟨⟨m1, m1'⟩, m2', m3, m4, m5⟩ := hmm
          have m6 : -4194304 ≤ x.y ∧ x.y ≤ 4194304 := by omega
          clear m4
          have RA := Lib.hid ((Below.heap_alloc wr (.cells #[.int .i64 x.link, .int .i64 x.mass, .int .i64 x.x, .int .i64 x.y, .int .i64 x.z] 110) _ hq).trans hR)
          have HBA := Lib.hid (hB.alloc hB.size (.cells #[.int .i64 x.link, .int .i64 x.mass, .int .i64 x.x, .int .i64 x.y, .int .i64 x.z] 110))
          clear hR hB hm hx
          go_wp2_with fail
          refine (rBetween_any x.mass 1 65536 _).mono ?_
          rintro e w2 ⟨rfl, rfl⟩
          rw [show (decide (1 ≤ x.mass) && decide (x.mass ≤ 65536)) = true by simp; omega]
          go_wp2_with fail
          refine (rNear_any ⟨x.x, x.y, x.z⟩ 4194304 _ (by decide) (by decide) (by dsimp only; omega) (by dsimp only; omega) (by dsimp only; omega)).mono ?_
          rintro e w1 ⟨rfl, hb⟩
          have RR1 := Lib.hid (RobAt.below RA.out hb (by simp; omega))
          have BR1 := Lib.hid (bl_next hb HBA.out)
          clear hb r0 r1
          go_wp2_with fail
          go_roundw
          case rel => exact ⟨k + 1, by omega, by go_num, RR1.out, BR1.out⟩
          case measure => simp [intOf]; omega
        · clear hR hB
          go_wp2_with fail
          go_ret
          exact ⟨rfl, BR.out⟩
end Go.Proofs.YtnahlpeckfcciaaDoor
