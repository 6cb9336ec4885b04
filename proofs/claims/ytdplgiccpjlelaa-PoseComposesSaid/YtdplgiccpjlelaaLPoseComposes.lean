/- Proved: for every input the function PoseComposes of the statements returns true, and its arguments read afterwards as they did before. Conditions: none but that each argument is a value of its type. -/
import Derived.Test.YtdplgiccpjlelaaRows
import Derived.WalkKit
import Derived.ProofKit
import Derived.OpenShut
import Derived.Lib.SmallJoins
import Derived.Carry
import Derived.Test.YtdplgiccpjlelaaPoL4
import Derived.Test.YtdplgiccpjlelaaOpeP
namespace Go.Proofs.Ytdplgiccpjlelaa.poseComposes
open Go.ChangeShapes Go.WideShapes Go.ChangeAt Go.RowKit Go.Joins
set_option linter.unusedVariables false
set_option linter.unusedSimpArgs false
theorem own : ownKnob Try.prog.godebug = none := by kernel_rfl
theorem cells23 : Try.prog.cellsOf 23 = 2 := by kernel_rfl
theorem cells3 : Try.prog.cellsOf 3 = 1 := by kernel_rfl
theorem laid : laidOutB Try.prog = true := by kernel_rfl
theorem walk (a0 : Mo) (a1 : Mo) (a2 : V3) (a3 : Int) (a4_0 : Int) (a4_1 : Int) (a5 : Option Addr) (n5 : Nat) (c5 : Nat) (w3 : (Lit.int .i64 a3).wf = true) (w4_0 : (Lit.int .i64 a4_0).wf = true) (w4_1 : (Lit.int .i64 a4_1).wf = true) (w : World) (l5 : ListAt w a5 n5) :
    Calls Try.prog 3 #[.agg #[.int .i64 a0.r.x.x.lo, .int .i64 a0.r.x.x.hi, .int .i64 a0.r.x.y.lo, .int .i64 a0.r.x.y.hi, .int .i64 a0.r.x.z.lo, .int .i64 a0.r.x.z.hi, .int .i64 a0.r.y.x.lo, .int .i64 a0.r.y.x.hi, .int .i64 a0.r.y.y.lo, .int .i64 a0.r.y.y.hi, .int .i64 a0.r.y.z.lo, .int .i64 a0.r.y.z.hi, .int .i64 a0.r.z.x.lo, .int .i64 a0.r.z.x.hi, .int .i64 a0.r.z.y.lo, .int .i64 a0.r.z.y.hi, .int .i64 a0.r.z.z.lo, .int .i64 a0.r.z.z.hi, .int .i64 a0.t.x.lo, .int .i64 a0.t.x.hi, .int .i64 a0.t.y.lo, .int .i64 a0.t.y.hi, .int .i64 a0.t.z.lo, .int .i64 a0.t.z.hi], .agg #[.int .i64 a1.r.x.x.lo, .int .i64 a1.r.x.x.hi, .int .i64 a1.r.x.y.lo, .int .i64 a1.r.x.y.hi, .int .i64 a1.r.x.z.lo, .int .i64 a1.r.x.z.hi, .int .i64 a1.r.y.x.lo, .int .i64 a1.r.y.x.hi, .int .i64 a1.r.y.y.lo, .int .i64 a1.r.y.y.hi, .int .i64 a1.r.y.z.lo, .int .i64 a1.r.y.z.hi, .int .i64 a1.r.z.x.lo, .int .i64 a1.r.z.x.hi, .int .i64 a1.r.z.y.lo, .int .i64 a1.r.z.y.hi, .int .i64 a1.r.z.z.lo, .int .i64 a1.r.z.z.hi, .int .i64 a1.t.x.lo, .int .i64 a1.t.x.hi, .int .i64 a1.t.y.lo, .int .i64 a1.t.y.hi, .int .i64 a1.t.z.lo, .int .i64 a1.t.z.hi], .agg #[.int .i64 a2.x.lo, .int .i64 a2.x.hi, .int .i64 a2.y.lo, .int .i64 a2.y.hi, .int .i64 a2.z.lo, .int .i64 a2.z.hi], .int .i64 a3, .agg #[.int .i64 a4_0, .int .i64 a4_1], .slice a5 n5 c5] w fun e w' => e = .returned (.bool true) ∧ Below w.heap.size w w' := by
  obtain ⟨p3, q3⟩ := bounds_i64 w3
  exact (PoseComposes_any a0 a1 a2 a3 ⟨a4_0, a4_1⟩ a5 n5 c5 w p3 q3 l5)
set_option maxRecDepth 100000 in
theorem lifted (os : Os) (started : os.Started) (H : Type) (enc : TypeId × Value → H) :
    ReturnsInHanded {} Try.checked os 3 .any (Rows.poseComposesSpec.pre6 enc Try.prog Try.f3 Rows.poseComposesRow.domain false) (Rows.poseComposesSpec.post enc Try.prog Try.f3 false true false false) := by
  refine returnsInHanded_of_change (C := Try.checked) own started (by kernel_rfl) Try.func3
    (ChangeSpec.witness6 (enc := enc) (C := Try.checked) false ⟨#[], #[.agg #[.int .i64 0, .int .i64 0, .int .i64 0, .int .i64 0, .int .i64 0, .int .i64 0, .int .i64 0, .int .i64 0, .int .i64 0, .int .i64 0, .int .i64 0, .int .i64 0, .int .i64 0, .int .i64 0, .int .i64 0, .int .i64 0, .int .i64 0, .int .i64 0, .int .i64 0, .int .i64 0, .int .i64 0, .int .i64 0, .int .i64 0, .int .i64 0], .agg #[.int .i64 0, .int .i64 0, .int .i64 0, .int .i64 0, .int .i64 0, .int .i64 0, .int .i64 0, .int .i64 0, .int .i64 0, .int .i64 0, .int .i64 0, .int .i64 0, .int .i64 0, .int .i64 0, .int .i64 0, .int .i64 0, .int .i64 0, .int .i64 0, .int .i64 0, .int .i64 0, .int .i64 0, .int .i64 0, .int .i64 0, .int .i64 0], .agg #[.int .i64 0, .int .i64 0, .int .i64 0, .int .i64 0, .int .i64 0, .int .i64 0], .int .i64 0, .agg #[.int .i64 0, .int .i64 0], .slice none 0 0], []⟩ 8 (by kernel_rfl) (by kernel_rfl) (by kernel_rfl) (by kernel_rfl)) ?_
  intro W base args ds gs before hval0 hW hcnd _
  have hval : ∀ (j : Nat) t v, Try.f3.params[j]? = some t → args[j]? = some v → Value.okWide Try.prog W .any base t v := hval0
  have hW' := hW
  obtain ⟨p, q, hA0, hV, rfl, hfz, hnd⟩ := hW
  have hA : DataW.TrodAll enc Try.prog W 0 (fun _ => true) true Try.f3.params.toList args.toList ds p := hA0
  rw [Try.params3] at hA hval
  obtain ⟨v0, vs0, d0, ds0, p0, q0, hargs, rfl, rfl, h0, r0⟩ := trodAll_cons hA
  obtain ⟨v1, vs1, d1, ds1, p1, q1, rfl, rfl, rfl, h1, r1⟩ := trodAll_cons r0
  obtain ⟨v2, vs2, d2, ds2, p2, q2, rfl, rfl, rfl, h2, r2⟩ := trodAll_cons r1
  obtain ⟨v3, vs3, d3, ds3, p3, q3, rfl, rfl, rfl, h3, r3⟩ := trodAll_cons r2
  obtain ⟨v4, vs4, d4, ds4, p4, q4, rfl, rfl, rfl, h4, r4⟩ := trodAll_cons r3
  obtain ⟨v5, vs5, d5, ds5, p5, q5, rfl, rfl, rfl, h5, r5⟩ := trodAll_cons r4
  obtain ⟨rfl, rfl, rfl⟩ := trodAll_nil r5
  obtain rfl : args = #[v0, v1, v2, v3, v4, v5] := by cases args; simp_all
  obtain ⟨rfl, rfl⟩ := trodVars_none hV
  obtain ⟨a0, rfl⟩ := open_pose (hval 0 29 v0 rfl rfl) h0
  obtain ⟨a1, rfl⟩ := open_pose (hval 1 29 v1 rfl rfl) h1
  obtain ⟨a2, rfl⟩ := open_vec (hval 2 27 v2 rfl rfl) h2
  obtain ⟨a3, rfl, rfl, rfl, w3⟩ := open_int Try.underlying3 (hval 3 3 v3 rfl rfl) h3
  obtain ⟨c4_0, c4_1, y4_0, y4_1, m4, rfl, rfl, rfl, hy4_0, hy4_1⟩ := open_agg2 Try.underlying23 (by kernel_rfl) cells23 (hval 4 23 v4 rfl rfl) h4
  obtain ⟨a4_0, e4_0, rfl, w4_0⟩ := DataW.trod_int Try.underlying2 hy4_0
  obtain ⟨a4_1, e4_1, rfl, w4_1⟩ := DataW.trod_int Try.underlying2 hy4_1
  simp at e4_0 e4_1
  subst e4_0 e4_1
  have sr4 : ∀ (W' : World) (sp : Nat → Bool), DataW.Trod enc Try.prog W' 0 sp true 23 (.agg #[.int .i64 a4_0, .int .i64 a4_1]) (.agg [.lit (.int .i64 a4_0), .lit (.int .i64 a4_1)]) [] := fun W' sp =>
    shut_agg2 (y0 := (.lit (.int .i64 a4_0), [])) (y1 := (.lit (.int .i64 a4_1), [])) Try.underlying23 (by kernel_rfl) cells23 ⟨1, by simp [DataW.trod, Try.underlying2, w4_0]⟩ ⟨1, by simp [DataW.trod, Try.underlying2, w4_1]⟩
  obtain ⟨a5, n5, c5, rfl⟩ := okWide_slice Try.underlying30 (hval 5 30 v5 rfl rfl)
  have l5 : ListAt W a5 n5 := list_of Try.underlying30 Try.underlying3 cells3 h5
  clear hA0 hval0
  simp only [List.append_nil] at hW'
  refine (walk a0 a1 a2 a3 a4_0 a4_1 a5 n5 c5 w3 w4_0 w4_1 W l5).mono fun e W' ⟨he, hg⟩ => ?_
  subst he
  exact ⟨_, rfl, ⟨_, _, _, [], _, [], hW', (trodAll_cons_mk (shut_bool Try.underlying4 _) trodAll_mk0), (trodAll_cons_mk (Below.trod laid (by kernel_rfl) (of_decide_eq_true (by kernel_rfl)) h0 hg (fun x hx => by have := hW'.lt x (by simp [hx]); simpa using this)) (trodAll_cons_mk (Below.trod laid (by kernel_rfl) (of_decide_eq_true (by kernel_rfl)) h1 hg (fun x hx => by have := hW'.lt x (by simp [hx]); simpa using this)) (trodAll_cons_mk (Below.trod laid (by kernel_rfl) (of_decide_eq_true (by kernel_rfl)) h2 hg (fun x hx => by have := hW'.lt x (by simp [hx]); simpa using this)) (trodAll_cons_mk (shut_int Try.underlying3 w3) (trodAll_cons_mk (sr4 _ _) (trodAll_cons_mk (Below.trod laid (by kernel_rfl) (of_decide_eq_true (by kernel_rfl)) h5 hg (fun x hx => by have := hW'.lt x (by simp [hx]); simpa using this)) trodAll_mk0)))))), rfl, hg.frame _, fun h => (by cases h)⟩⟩
theorem over : Rows.poseComposesRow.holds Try.pinned (OpenSpec.ofChange Rows.poseComposesSpec) :=
  OpenClaim.holds_of_wide 3 Try.f3 rfl rfl rfl rfl rfl rfl rfl ⟨rfl, rfl, rfl, rfl, rfl⟩ rfl rfl rfl rfl rfl (by kernel_rfl) Try.func3 (by kernel_rfl)
    (of_decide_eq_true (by kernel_rfl)) (by unfold Func.isWrapper; first | (rw [if_pos (by decide +kernel)]; kernel_rfl) | (rw [if_neg (by decide +kernel)]; exact ⟨rfl, rfl⟩))
    (fun os started H enc _ => lifted os started H enc)
theorem proved : Rows.PoseComposesSaid :=
  over
#print axioms proved
end Go.Proofs.Ytdplgiccpjlelaa.poseComposes
