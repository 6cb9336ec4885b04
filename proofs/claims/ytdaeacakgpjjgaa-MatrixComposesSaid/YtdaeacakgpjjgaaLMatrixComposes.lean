/- Proved: for every input the function MatrixComposes of the statements returns true, and its arguments read afterwards as they did before. Conditions: none but that each argument is a value of its type. -/
import Derived.Test.YtdaeacakgpjjgaaRows
import Derived.WalkKit
import Derived.ProofKit
import Derived.OpenShut
import Derived.Lib.SmallJoins
import Derived.Carry
import Derived.Test.YtdaeacakgpjjgaaMtL3
import Derived.Test.YtdaeacakgpjjgaaOpen
namespace Go.Proofs.Ytdaeacakgpjjgaa.matrixComposes
open Go.ChangeShapes Go.WideShapes Go.ChangeAt Go.RowKit Go.Joins
set_option linter.unusedVariables false
set_option linter.unusedSimpArgs false
theorem own : ownKnob Try.prog.godebug = none := by kernel_rfl
theorem cells3 : Try.prog.cellsOf 3 = 1 := by kernel_rfl
theorem laid : laidOutB Try.prog = true := by kernel_rfl
theorem walk (a0 : M3) (a1 : M3) (a2 : Option Addr) (n2 : Nat) (c2 : Nat)  (w : World) (l2 : ListAt w a2 n2) :
    Calls Try.prog 5 #[.agg #[.int .i64 a0.x.x.lo, .int .i64 a0.x.x.hi, .int .i64 a0.x.y.lo, .int .i64 a0.x.y.hi, .int .i64 a0.x.z.lo, .int .i64 a0.x.z.hi, .int .i64 a0.y.x.lo, .int .i64 a0.y.x.hi, .int .i64 a0.y.y.lo, .int .i64 a0.y.y.hi, .int .i64 a0.y.z.lo, .int .i64 a0.y.z.hi, .int .i64 a0.z.x.lo, .int .i64 a0.z.x.hi, .int .i64 a0.z.y.lo, .int .i64 a0.z.y.hi, .int .i64 a0.z.z.lo, .int .i64 a0.z.z.hi], .agg #[.int .i64 a1.x.x.lo, .int .i64 a1.x.x.hi, .int .i64 a1.x.y.lo, .int .i64 a1.x.y.hi, .int .i64 a1.x.z.lo, .int .i64 a1.x.z.hi, .int .i64 a1.y.x.lo, .int .i64 a1.y.x.hi, .int .i64 a1.y.y.lo, .int .i64 a1.y.y.hi, .int .i64 a1.y.z.lo, .int .i64 a1.y.z.hi, .int .i64 a1.z.x.lo, .int .i64 a1.z.x.hi, .int .i64 a1.z.y.lo, .int .i64 a1.z.y.hi, .int .i64 a1.z.z.lo, .int .i64 a1.z.z.hi], .slice a2 n2 c2] w fun e w' => e = .returned (.bool true) ∧ Below w.heap.size w w' := by
  exact (MatrixComposes_any a0 a1 a2 n2 c2 w l2)
set_option maxRecDepth 100000 in
theorem lifted (os : Os) (started : os.Started) (H : Type) (enc : TypeId × Value → H) :
    ReturnsInHanded {} Try.checked os 5 .any (Rows.matrixComposesSpec.pre6 enc Try.prog Try.f5 Rows.matrixComposesRow.domain false) (Rows.matrixComposesSpec.post enc Try.prog Try.f5 false true false false) := by
  refine returnsInHanded_of_change (C := Try.checked) own started (by kernel_rfl) Try.func5
    (ChangeSpec.witness6 (enc := enc) (C := Try.checked) false ⟨#[], #[.agg #[.int .i64 0, .int .i64 0, .int .i64 0, .int .i64 0, .int .i64 0, .int .i64 0, .int .i64 0, .int .i64 0, .int .i64 0, .int .i64 0, .int .i64 0, .int .i64 0, .int .i64 0, .int .i64 0, .int .i64 0, .int .i64 0, .int .i64 0, .int .i64 0], .agg #[.int .i64 0, .int .i64 0, .int .i64 0, .int .i64 0, .int .i64 0, .int .i64 0, .int .i64 0, .int .i64 0, .int .i64 0, .int .i64 0, .int .i64 0, .int .i64 0, .int .i64 0, .int .i64 0, .int .i64 0, .int .i64 0, .int .i64 0, .int .i64 0], .slice none 0 0], []⟩ 8 (by kernel_rfl) (by kernel_rfl) (by kernel_rfl) (by kernel_rfl)) ?_
  intro W base args ds gs before hval0 hW hcnd _
  have hval : ∀ (j : Nat) t v, Try.f5.params[j]? = some t → args[j]? = some v → Value.okWide Try.prog W .any base t v := hval0
  have hW' := hW
  obtain ⟨p, q, hA0, hV, rfl, hfz, hnd⟩ := hW
  have hA : DataW.TrodAll enc Try.prog W 0 (fun _ => true) true Try.f5.params.toList args.toList ds p := hA0
  rw [Try.params5] at hA hval
  obtain ⟨v0, vs0, d0, ds0, p0, q0, hargs, rfl, rfl, h0, r0⟩ := trodAll_cons hA
  obtain ⟨v1, vs1, d1, ds1, p1, q1, rfl, rfl, rfl, h1, r1⟩ := trodAll_cons r0
  obtain ⟨v2, vs2, d2, ds2, p2, q2, rfl, rfl, rfl, h2, r2⟩ := trodAll_cons r1
  obtain ⟨rfl, rfl, rfl⟩ := trodAll_nil r2
  obtain rfl : args = #[v0, v1, v2] := by cases args; simp_all
  obtain ⟨rfl, rfl⟩ := trodVars_none hV
  obtain ⟨a0, rfl⟩ := open_mat (hval 0 28 v0 rfl rfl) h0
  obtain ⟨a1, rfl⟩ := open_mat (hval 1 28 v1 rfl rfl) h1
  obtain ⟨a2, n2, c2, rfl⟩ := okWide_slice Try.underlying34 (hval 2 34 v2 rfl rfl)
  have l2 : ListAt W a2 n2 := list_of Try.underlying34 Try.underlying3 cells3 h2
  clear hA0 hval0
  simp only [List.append_nil] at hW'
  refine (walk a0 a1 a2 n2 c2  W l2).mono fun e W' ⟨he, hg⟩ => ?_
  subst he
  exact ⟨_, rfl, ⟨_, _, _, [], _, [], hW', (trodAll_cons_mk (shut_bool Try.underlying4 _) trodAll_mk0), (trodAll_cons_mk (Below.trod laid (by kernel_rfl) (of_decide_eq_true (by kernel_rfl)) h0 hg (fun x hx => by have := hW'.lt x (by simp [hx]); simpa using this)) (trodAll_cons_mk (Below.trod laid (by kernel_rfl) (of_decide_eq_true (by kernel_rfl)) h1 hg (fun x hx => by have := hW'.lt x (by simp [hx]); simpa using this)) (trodAll_cons_mk (Below.trod laid (by kernel_rfl) (of_decide_eq_true (by kernel_rfl)) h2 hg (fun x hx => by have := hW'.lt x (by simp [hx]); simpa using this)) trodAll_mk0))), rfl, hg.frame _, fun h => (by cases h)⟩⟩
theorem over : Rows.matrixComposesRow.holds Try.pinned (OpenSpec.ofChange Rows.matrixComposesSpec) :=
  OpenClaim.holds_of_wide 5 Try.f5 rfl rfl rfl rfl rfl rfl rfl ⟨rfl, rfl, rfl, rfl, rfl⟩ rfl rfl rfl rfl rfl (by kernel_rfl) Try.func5 (by kernel_rfl)
    (of_decide_eq_true (by kernel_rfl)) (by unfold Func.isWrapper; first | (rw [if_pos (by decide +kernel)]; kernel_rfl) | (rw [if_neg (by decide +kernel)]; exact ⟨rfl, rfl⟩))
    (fun os started H enc _ => lifted os started H enc)
theorem proved : Rows.MatrixComposesSaid :=
  over
#print axioms proved
end Go.Proofs.Ytdaeacakgpjjgaa.matrixComposes
