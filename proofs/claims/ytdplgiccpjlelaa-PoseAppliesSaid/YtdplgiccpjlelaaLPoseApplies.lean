/- Proved: for every input the function PoseApplies of the statements returns true, and its arguments read afterwards as they did before. Conditions: none but that each argument is a value of its type. -/
import Derived.Test.YtdplgiccpjlelaaRows
import Derived.WalkKit
import Derived.ProofKit
import Derived.OpenShut
import Derived.Lib.SmallJoins
import Derived.Carry
import Derived.Test.YtdplgiccpjlelaaPoL3
import Derived.Test.YtdplgiccpjlelaaOpeP
namespace Go.Proofs.Ytdplgiccpjlelaa.poseApplies
open Go.ChangeShapes Go.WideShapes Go.ChangeAt Go.RowKit Go.Joins
set_option linter.unusedVariables false
set_option linter.unusedSimpArgs false
theorem own : ownKnob Try.prog.godebug = none := by kernel_rfl
theorem cells3 : Try.prog.cellsOf 3 = 1 := by kernel_rfl
theorem laid : laidOutB Try.prog = true := by kernel_rfl
theorem walk (a0 : Mo) (a1 : Mo) (a2 : V3) (a3 : Option Addr) (n3 : Nat) (c3 : Nat)  (w : World) (l3 : ListAt w a3 n3) :
    Calls Try.prog 4 #[.agg #[.int .i64 a0.r.x.x.lo, .int .i64 a0.r.x.x.hi, .int .i64 a0.r.x.y.lo, .int .i64 a0.r.x.y.hi, .int .i64 a0.r.x.z.lo, .int .i64 a0.r.x.z.hi, .int .i64 a0.r.y.x.lo, .int .i64 a0.r.y.x.hi, .int .i64 a0.r.y.y.lo, .int .i64 a0.r.y.y.hi, .int .i64 a0.r.y.z.lo, .int .i64 a0.r.y.z.hi, .int .i64 a0.r.z.x.lo, .int .i64 a0.r.z.x.hi, .int .i64 a0.r.z.y.lo, .int .i64 a0.r.z.y.hi, .int .i64 a0.r.z.z.lo, .int .i64 a0.r.z.z.hi, .int .i64 a0.t.x.lo, .int .i64 a0.t.x.hi, .int .i64 a0.t.y.lo, .int .i64 a0.t.y.hi, .int .i64 a0.t.z.lo, .int .i64 a0.t.z.hi], .agg #[.int .i64 a1.r.x.x.lo, .int .i64 a1.r.x.x.hi, .int .i64 a1.r.x.y.lo, .int .i64 a1.r.x.y.hi, .int .i64 a1.r.x.z.lo, .int .i64 a1.r.x.z.hi, .int .i64 a1.r.y.x.lo, .int .i64 a1.r.y.x.hi, .int .i64 a1.r.y.y.lo, .int .i64 a1.r.y.y.hi, .int .i64 a1.r.y.z.lo, .int .i64 a1.r.y.z.hi, .int .i64 a1.r.z.x.lo, .int .i64 a1.r.z.x.hi, .int .i64 a1.r.z.y.lo, .int .i64 a1.r.z.y.hi, .int .i64 a1.r.z.z.lo, .int .i64 a1.r.z.z.hi, .int .i64 a1.t.x.lo, .int .i64 a1.t.x.hi, .int .i64 a1.t.y.lo, .int .i64 a1.t.y.hi, .int .i64 a1.t.z.lo, .int .i64 a1.t.z.hi], .agg #[.int .i64 a2.x.lo, .int .i64 a2.x.hi, .int .i64 a2.y.lo, .int .i64 a2.y.hi, .int .i64 a2.z.lo, .int .i64 a2.z.hi], .slice a3 n3 c3] w fun e w' => e = .returned (.bool true) ∧ Below w.heap.size w w' := by
  exact (PoseApplies_any a0 a1 a2 a3 n3 c3 w l3)
set_option maxRecDepth 100000 in
theorem lifted (os : Os) (started : os.Started) (H : Type) (enc : TypeId × Value → H) :
    ReturnsInHanded {} Try.checked os 4 .any (Rows.poseAppliesSpec.pre6 enc Try.prog Try.f4 Rows.poseAppliesRow.domain false) (Rows.poseAppliesSpec.post enc Try.prog Try.f4 false true false false) := by
  refine returnsInHanded_of_change (C := Try.checked) own started (by kernel_rfl) Try.func4
    (ChangeSpec.witness6 (enc := enc) (C := Try.checked) false ⟨#[], #[.agg #[.int .i64 0, .int .i64 0, .int .i64 0, .int .i64 0, .int .i64 0, .int .i64 0, .int .i64 0, .int .i64 0, .int .i64 0, .int .i64 0, .int .i64 0, .int .i64 0, .int .i64 0, .int .i64 0, .int .i64 0, .int .i64 0, .int .i64 0, .int .i64 0, .int .i64 0, .int .i64 0, .int .i64 0, .int .i64 0, .int .i64 0, .int .i64 0], .agg #[.int .i64 0, .int .i64 0, .int .i64 0, .int .i64 0, .int .i64 0, .int .i64 0, .int .i64 0, .int .i64 0, .int .i64 0, .int .i64 0, .int .i64 0, .int .i64 0, .int .i64 0, .int .i64 0, .int .i64 0, .int .i64 0, .int .i64 0, .int .i64 0, .int .i64 0, .int .i64 0, .int .i64 0, .int .i64 0, .int .i64 0, .int .i64 0], .agg #[.int .i64 0, .int .i64 0, .int .i64 0, .int .i64 0, .int .i64 0, .int .i64 0], .slice none 0 0], []⟩ 8 (by kernel_rfl) (by kernel_rfl) (by kernel_rfl) (by kernel_rfl)) ?_
  intro W base args ds gs before hval0 hW hcnd _
  have hval : ∀ (j : Nat) t v, Try.f4.params[j]? = some t → args[j]? = some v → Value.okWide Try.prog W .any base t v := hval0
  have hW' := hW
  obtain ⟨p, q, hA0, hV, rfl, hfz, hnd⟩ := hW
  have hA : DataW.TrodAll enc Try.prog W 0 (fun _ => true) true Try.f4.params.toList args.toList ds p := hA0
  rw [Try.params4] at hA hval
  obtain ⟨v0, vs0, d0, ds0, p0, q0, hargs, rfl, rfl, h0, r0⟩ := trodAll_cons hA
  obtain ⟨v1, vs1, d1, ds1, p1, q1, rfl, rfl, rfl, h1, r1⟩ := trodAll_cons r0
  obtain ⟨v2, vs2, d2, ds2, p2, q2, rfl, rfl, rfl, h2, r2⟩ := trodAll_cons r1
  obtain ⟨v3, vs3, d3, ds3, p3, q3, rfl, rfl, rfl, h3, r3⟩ := trodAll_cons r2
  obtain ⟨rfl, rfl, rfl⟩ := trodAll_nil r3
  obtain rfl : args = #[v0, v1, v2, v3] := by cases args; simp_all
  obtain ⟨rfl, rfl⟩ := trodVars_none hV
  obtain ⟨a0, rfl⟩ := open_pose (hval 0 29 v0 rfl rfl) h0
  obtain ⟨a1, rfl⟩ := open_pose (hval 1 29 v1 rfl rfl) h1
  obtain ⟨a2, rfl⟩ := open_vec (hval 2 27 v2 rfl rfl) h2
  obtain ⟨a3, n3, c3, rfl⟩ := okWide_slice Try.underlying30 (hval 3 30 v3 rfl rfl)
  have l3 : ListAt W a3 n3 := list_of Try.underlying30 Try.underlying3 cells3 h3
  clear hA0 hval0
  simp only [List.append_nil] at hW'
  refine (walk a0 a1 a2 a3 n3 c3  W l3).mono fun e W' ⟨he, hg⟩ => ?_
  subst he
  exact ⟨_, rfl, ⟨_, _, _, [], _, [], hW', (trodAll_cons_mk (shut_bool Try.underlying4 _) trodAll_mk0), (trodAll_cons_mk (Below.trod laid (by kernel_rfl) (of_decide_eq_true (by kernel_rfl)) h0 hg (fun x hx => by have := hW'.lt x (by simp [hx]); simpa using this)) (trodAll_cons_mk (Below.trod laid (by kernel_rfl) (of_decide_eq_true (by kernel_rfl)) h1 hg (fun x hx => by have := hW'.lt x (by simp [hx]); simpa using this)) (trodAll_cons_mk (Below.trod laid (by kernel_rfl) (of_decide_eq_true (by kernel_rfl)) h2 hg (fun x hx => by have := hW'.lt x (by simp [hx]); simpa using this)) (trodAll_cons_mk (Below.trod laid (by kernel_rfl) (of_decide_eq_true (by kernel_rfl)) h3 hg (fun x hx => by have := hW'.lt x (by simp [hx]); simpa using this)) trodAll_mk0)))), rfl, hg.frame _, fun h => (by cases h)⟩⟩
theorem over : Rows.poseAppliesRow.holds Try.pinned (OpenSpec.ofChange Rows.poseAppliesSpec) :=
  OpenClaim.holds_of_wide 4 Try.f4 rfl rfl rfl rfl rfl rfl rfl ⟨rfl, rfl, rfl, rfl, rfl⟩ rfl rfl rfl rfl rfl (by kernel_rfl) Try.func4 (by kernel_rfl)
    (of_decide_eq_true (by kernel_rfl)) (by unfold Func.isWrapper; first | (rw [if_pos (by decide +kernel)]; kernel_rfl) | (rw [if_neg (by decide +kernel)]; exact ⟨rfl, rfl⟩))
    (fun os started H enc _ => lifted os started H enc)
theorem proved : Rows.PoseAppliesSaid :=
  over
#print axioms proved
end Go.Proofs.Ytdplgiccpjlelaa.poseApplies
