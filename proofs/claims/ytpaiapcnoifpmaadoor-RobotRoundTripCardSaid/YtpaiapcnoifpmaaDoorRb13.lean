/- Proved: Same and SameRobot of equal robots return true. Conditions: as each theorem states. -/
import Derived.Test.YtpaiapcnoifpmaaDoorRb11
import Derived.ChangeKeysEq
namespace Go.Proofs.YtpaiapcnoifpmaaDoor
open Go.RowKit

theorem under_v3 : Tryd.prog.underlying 58 = some (.array 3 2) := by kernel_rfl
theorem under_mass1 : Tryd.prog.underlying 74 = some (.struct (Tryd.prog.fieldsOf 74)) := by kernel_rfl
set_option maxRecDepth 100000 in
set_option maxHeartbeats 3200000 in
theorem eql_in_v3 (d : Nat) (x y z : Int) (w : World) : (Op.equalIn (d + 3) 58 (.agg #[.int .i64 x, .int .i64 y, .int .i64 z]) (.agg #[.int .i64 x, .int .i64 y, .int .i64 z])).run Tryd.prog w = .ok true w := by
  obtain ⟨i, hi⟩ : ∃ i, Tryd.prog.info? 2 = some i := ⟨_, rfl⟩
  rw [run_equalIn_array w (d + 2) _ _ under_v3 hi, show Tryd.prog.cellsOf 2 = 1 from rfl]
  simp [Op.eqItems, part, go_sem, List.range, List.range.loop]
set_option maxRecDepth 100000 in
set_option maxHeartbeats 3200000 in
theorem eql_joint (nm : ByteArray) (kd pa x y z lo hi wt sp ac tq : Int) (w : World) : (Op.equalIn 10000 60 (.agg #[.string nm, .int .i64 kd, .int .i64 pa, .int .i64 x, .int .i64 y, .int .i64 z, .int .i64 lo, .int .i64 hi, .int .i64 wt, .int .i64 sp, .int .i64 ac, .int .i64 tq]) (.agg #[.string nm, .int .i64 kd, .int .i64 pa, .int .i64 x, .int .i64 y, .int .i64 z, .int .i64 lo, .int .i64 hi, .int .i64 wt, .int .i64 sp, .int .i64 ac, .int .i64 tq])).run Tryd.prog w = .ok true w := by
  have F1 := fun x0 x1 x2 w => eql_in_v3 9996 x0 x1 x2 w
  simp only [Nat.reduceAdd] at F1
  rw [show (10000 : Nat) = 9999 + 1 from rfl, run_equalIn_agg w 9999 60 _ _ under_joint (by kernel_rfl)]
  simp [Op.eqFields, part, go_sem, F1]
set_option maxRecDepth 100000 in
set_option maxHeartbeats 3200000 in
theorem eql_mass (lk ma x y z : Int) (w : World) : (Op.equalIn 10000 74 (.agg #[.int .i64 lk, .int .i64 ma, .int .i64 x, .int .i64 y, .int .i64 z]) (.agg #[.int .i64 lk, .int .i64 ma, .int .i64 x, .int .i64 y, .int .i64 z])).run Tryd.prog w = .ok true w := by
  have F1 := fun x0 x1 x2 w => eql_in_v3 9996 x0 x1 x2 w
  simp only [Nat.reduceAdd] at F1
  rw [show (10000 : Nat) = 9999 + 1 from rfl, run_equalIn_agg w 9999 74 _ _ under_mass1 (by kernel_rfl)]
  simp [Op.eqFields, part, go_sem, F1]
set_option linter.unusedSimpArgs false in
set_option linter.unusedVariables false in
set_option maxRecDepth 100000 in
set_option maxHeartbeats 6400000 in
theorem sameJ_any (u v : Value) (js : List JointD) (w : World) (hl : js.length ≤ 8796093022208) (hu : RdO w u js.length 12 (jcells js)) (hv : RdO w v js.length 12 (jcells js)) :
    Calls Tryd.prog 50 #[ u, v ] w fun e w' => e = .returned (.bool true) ∧ ∃ q, w' = w.drewN q := by
  obtain ⟨A, c, rfl, _, hu⟩ := hu.joint
  obtain ⟨A', c', rfl, _, hv⟩ := hv.joint
  have HU := Lib.hid hu
  have HV := Lib.hid hv
  clear hu hv
  have eqJ := eql_joint
  go_enter Tryd.func50, Tryd.ntmps50
  go_wp2_with fail
  go_loopw [5] (fun i wr => ∃ k : Nat, k ≤ js.length ∧ i = .int .i64 k ∧ ∃ q, wr = w.drewN q) (fun i _ => js.length - (intOf i).toNat)
  case atStart => exact ⟨0, Nat.zero_le _, rfl, 0, rfl⟩
  case round =>
    obtain ⟨k, hk, rfl, q, rfl⟩ := hrel
    by_cases hlt : k < js.length
    · obtain ⟨g, o, rfl, hg, a0, a1, a2, a3, a4, a5, a6, a7, a8, a9, a10, a11⟩ := HU.out k hlt
      obtain ⟨g', o', rfl, hg', b0, b1, b2, b3, b4, b5, b6, b7, b8, b9, b10, b11⟩ := HV.out k hlt
      go_wp2_with fail
      go_quiet (fail)
      go_wp2_with fail
      go_roundw
      case rel => exact ⟨k + 1, by omega, by go_num, _, by first | rfl | assumption⟩
      case measure => simp [intOf]; omega
    · go_wp2_with fail
      go_ret
      exact ⟨rfl, q, rfl⟩
set_option linter.unusedSimpArgs false in
set_option linter.unusedVariables false in
set_option maxRecDepth 100000 in
set_option maxHeartbeats 6400000 in
theorem sameM_any (u v : Value) (ms : List MassD) (w : World) (hl : ms.length ≤ 8796093022208) (hu : RdO w u ms.length 5 (mcells ms)) (hv : RdO w v ms.length 5 (mcells ms)) :
    Calls Tryd.prog 51 #[ u, v ] w fun e w' => e = .returned (.bool true) ∧ ∃ q, w' = w.drewN q := by
  obtain ⟨A, c, rfl, _, hu⟩ := hu.mass
  obtain ⟨A', c', rfl, _, hv⟩ := hv.mass
  have HU := Lib.hid hu
  have HV := Lib.hid hv
  clear hu hv
  have eqM := eql_mass
  go_enter Tryd.func51, Tryd.ntmps51
  go_wp2_with fail
  go_loopw [5] (fun i wr => ∃ k : Nat, k ≤ ms.length ∧ i = .int .i64 k ∧ ∃ q, wr = w.drewN q) (fun i _ => ms.length - (intOf i).toNat)
  case atStart => exact ⟨0, Nat.zero_le _, rfl, 0, rfl⟩
  case round =>
    obtain ⟨k, hk, rfl, q, rfl⟩ := hrel
    by_cases hlt : k < ms.length
    · obtain ⟨g, o, rfl, hg, a0, a1, a2, a3, a4⟩ := HU.out k hlt
      obtain ⟨g', o', rfl, hg', b0, b1, b2, b3, b4⟩ := HV.out k hlt
      go_wp2_with fail
      go_quiet (fail)
      go_wp2_with fail
      go_roundw
      case rel => exact ⟨k + 1, by omega, by go_num, _, by first | rfl | assumption⟩
      case measure => simp [intOf]; omega
    · go_wp2_with fail
      go_ret
      exact ⟨rfl, q, rfl⟩
set_option linter.unusedSimpArgs false in
set_option linter.unusedVariables false in
set_option maxRecDepth 100000 in
set_option maxHeartbeats 6400000 in
theorem sameRobot_any (uj um vj vm : Value) (js : List JointD) (ms : List MassD) (w : World) (hu : RobD w uj um js ms) (hv : RobD w vj vm js ms) :
    Calls Tryd.prog 20 #[ .agg #[uj, um], .agg #[vj, vm] ] w fun e w' => e = .returned (.bool true) ∧ Below w.heap.size w w' := by
  have HU := Lib.hid hu
  have HV := Lib.hid hv
  obtain ⟨Aj, cj, rfl, _, _⟩ := hu.rj.joint
  obtain ⟨Am, cm, rfl, _, _⟩ := hu.rm.mass
  obtain ⟨Bj, dj, rfl, _, _⟩ := hv.rj.joint
  obtain ⟨Bm, dm, rfl, _, _⟩ := hv.rm.mass
  have hB := (((Below.refl w.heap.size w).alloc (Nat.le_refl _) (.cells #[.slice Aj js.length cj, .slice Am ms.length cm] 25)).alloc (by simp) (.cells #[.slice Bj js.length dj, .slice Bm ms.length dm] 25))
  have HB := Lib.hid hB
  clear hu hv hB
  go_enter Tryd.func20, Tryd.ntmps20
  go_wp2_with fail
  refine (sameJ_any _ _ js _ HU.out.lj (HU.out.rj.below HB.out (Nat.le_refl _)) (HV.out.rj.below HB.out (Nat.le_refl _))).mono ?_
  rintro e w1 ⟨rfl, q, rfl⟩
  have HB2 := Lib.hid (bl_drewN (n := q) HB.out)
  go_wp2_with fail
  refine (sameM_any _ _ ms _ HU.out.lm (HU.out.rm.below HB2.out (Nat.le_refl _)) (HV.out.rm.below HB2.out (Nat.le_refl _))).mono ?_
  rintro e w1 ⟨rfl, q2, rfl⟩
  have HB3 := Lib.hid (bl_drewN (n := q + q2) HB.out)
  go_wp2_with fail
  go_ret
  exact ⟨rfl, HB3.out⟩
end Go.Proofs.YtpaiapcnoifpmaaDoor
