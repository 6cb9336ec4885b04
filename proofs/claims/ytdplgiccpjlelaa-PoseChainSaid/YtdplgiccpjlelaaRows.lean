/-
  No cell of these rows narrows 'for every input' (looked for: loops, veiled, ifaces, maps, wideKeys, modest, calm, conditions, laid).
  DERIVED. THE GIVEN ROWS OF THIS SEAT. 7 by the template 'for every input the law returns true; each argument reads behind the call as it read before'; 0 by the template 'total and deterministic' (their statements: YtdplgiccpjlelaaTotals.lean).
  GIVEN WITH THE SEED: the statements are not yours to turn. If you find one false, say at which input.
  Laid BY PROGRAM, IN A SANDBOX (cutbox-rows.mjs): the forced cells as the released guide's own fill.sh prints them over the translation aae5115e72165413… (all of the seat's roots in one cut). By AI agents, Wed Nov 11 2026. No macro, syntax, notation, axiom, sorry.
-/
import Derived.Test.YtdplgiccpjlelaaChecked
import GoSem.Claim
import GoSem.ClaimJoined
import GoSem.ClaimMapViews
import Derived.JoinedTies
import Derived.KernelRfl
namespace Go.Proofs.Ytdplgiccpjlelaa
/- THE CELL 'sum', in the pinned program and in every row, IS THE sha256 OF THE DUMP (.gsa) THAT YtdplgiccpjlelaaProg.lean LOADS. Nothing in Lean hashes anything: it is a label: what it is worth is what the hold of that sum in a sandbox is worth. -/
noncomputable def Try.pinned : Pinned := { name := "ytdplgiccpjlelaa", sum := "aae5115e72165413c3c815a3bd8ac9de369d64eebd345b4f1e260f797c9d8fa1", checked := Try.checked }
namespace Rows
def none {H : Type} : Left H := { results := [], args := [] }

/-- 'armplanlaw5.PoseComposes': WHATEVER THE INPUT: true; the input reads as it did. -/
def poseComposesSpec : ChangeSpec := { name := "poseComposes", fn := fun _ => fun
  | [d1, d2, d3, d4, d5, d6] => { results := [.lit (.bool true)], args := [d1, d2, d3, d4, d5, d6] }
  | _ => none }
def poseComposesRow : OpenClaim := { program := "ytdplgiccpjlelaa", sum := "aae5115e72165413c3c815a3bd8ac9de369d64eebd345b4f1e260f797c9d8fa1", func := "armplan/armplanlaw5.PoseComposes", spec := "poseComposes", unfollowed := true, recurses := true, apart := false }
def PoseComposesSaid : Prop := poseComposesRow.holds Try.pinned (OpenSpec.ofChange poseComposesSpec)

/-- ITS FALSE NEIGHBOUR: 'it returns false'. Refute it at one input. -/
def poseComposesWrong : ChangeSpec := { name := "poseComposes", fn := fun _ => fun
  | [d1, d2, d3, d4, d5, d6] => { results := [.lit (.bool false)], args := [d1, d2, d3, d4, d5, d6] }
  | _ => none }
def PoseComposesWrongFalsely : Prop := poseComposesRow.holds Try.pinned (OpenSpec.ofChange poseComposesWrong)

/-- 'armplanlaw5.PoseApplies': WHATEVER THE INPUT: true; the input reads as it did. -/
def poseAppliesSpec : ChangeSpec := { name := "poseApplies", fn := fun _ => fun
  | [d1, d2, d3, d4] => { results := [.lit (.bool true)], args := [d1, d2, d3, d4] }
  | _ => none }
def poseAppliesRow : OpenClaim := { program := "ytdplgiccpjlelaa", sum := "aae5115e72165413c3c815a3bd8ac9de369d64eebd345b4f1e260f797c9d8fa1", func := "armplan/armplanlaw5.PoseApplies", spec := "poseApplies", unfollowed := true, recurses := true, apart := false }
def PoseAppliesSaid : Prop := poseAppliesRow.holds Try.pinned (OpenSpec.ofChange poseAppliesSpec)

/-- ITS FALSE NEIGHBOUR: 'it returns false'. Refute it at one input. -/
def poseAppliesWrong : ChangeSpec := { name := "poseApplies", fn := fun _ => fun
  | [d1, d2, d3, d4] => { results := [.lit (.bool false)], args := [d1, d2, d3, d4] }
  | _ => none }
def PoseAppliesWrongFalsely : Prop := poseAppliesRow.holds Try.pinned (OpenSpec.ofChange poseAppliesWrong)

/-- 'armplanlaw5.PoseNeutral': WHATEVER THE INPUT: true; the input reads as it did. -/
def poseNeutralSpec : ChangeSpec := { name := "poseNeutral", fn := fun _ => fun
  | [d1, d2] => { results := [.lit (.bool true)], args := [d1, d2] }
  | _ => none }
def poseNeutralRow : OpenClaim := { program := "ytdplgiccpjlelaa", sum := "aae5115e72165413c3c815a3bd8ac9de369d64eebd345b4f1e260f797c9d8fa1", func := "armplan/armplanlaw5.PoseNeutral", spec := "poseNeutral", unfollowed := true, recurses := true, apart := false }
def PoseNeutralSaid : Prop := poseNeutralRow.holds Try.pinned (OpenSpec.ofChange poseNeutralSpec)

/-- ITS FALSE NEIGHBOUR: 'it returns false'. Refute it at one input. -/
def poseNeutralWrong : ChangeSpec := { name := "poseNeutral", fn := fun _ => fun
  | [d1, d2] => { results := [.lit (.bool false)], args := [d1, d2] }
  | _ => none }
def PoseNeutralWrongFalsely : Prop := poseNeutralRow.holds Try.pinned (OpenSpec.ofChange poseNeutralWrong)

/-- 'armplanlaw5.PoseMonotone': WHATEVER THE INPUT: true; the input reads as it did. -/
def poseMonotoneSpec : ChangeSpec := { name := "poseMonotone", fn := fun _ => fun
  | [d1, d2] => { results := [.lit (.bool true)], args := [d1, d2] }
  | _ => none }
def poseMonotoneRow : OpenClaim := { program := "ytdplgiccpjlelaa", sum := "aae5115e72165413c3c815a3bd8ac9de369d64eebd345b4f1e260f797c9d8fa1", func := "armplan/armplanlaw5.PoseMonotone", spec := "poseMonotone", unfollowed := true, recurses := true, apart := false }
def PoseMonotoneSaid : Prop := poseMonotoneRow.holds Try.pinned (OpenSpec.ofChange poseMonotoneSpec)

/-- ITS FALSE NEIGHBOUR: 'it returns false'. Refute it at one input. -/
def poseMonotoneWrong : ChangeSpec := { name := "poseMonotone", fn := fun _ => fun
  | [d1, d2] => { results := [.lit (.bool false)], args := [d1, d2] }
  | _ => none }
def PoseMonotoneWrongFalsely : Prop := poseMonotoneRow.holds Try.pinned (OpenSpec.ofChange poseMonotoneWrong)

/-- 'armplanlaw5.PoseInverse': WHATEVER THE INPUT: true; the input reads as it did. -/
def poseInverseSpec : ChangeSpec := { name := "poseInverse", fn := fun _ => fun
  | [d1, d2] => { results := [.lit (.bool true)], args := [d1, d2] }
  | _ => none }
def poseInverseRow : OpenClaim := { program := "ytdplgiccpjlelaa", sum := "aae5115e72165413c3c815a3bd8ac9de369d64eebd345b4f1e260f797c9d8fa1", func := "armplan/armplanlaw5.PoseInverse", spec := "poseInverse", unfollowed := true, recurses := true, apart := false }
def PoseInverseSaid : Prop := poseInverseRow.holds Try.pinned (OpenSpec.ofChange poseInverseSpec)

/-- ITS FALSE NEIGHBOUR: 'it returns false'. Refute it at one input. -/
def poseInverseWrong : ChangeSpec := { name := "poseInverse", fn := fun _ => fun
  | [d1, d2] => { results := [.lit (.bool false)], args := [d1, d2] }
  | _ => none }
def PoseInverseWrongFalsely : Prop := poseInverseRow.holds Try.pinned (OpenSpec.ofChange poseInverseWrong)

/-- 'armplanlaw5.PoseChain': WHATEVER THE INPUT: true; the input reads as it did. -/
def poseChainSpec : ChangeSpec := { name := "poseChain", fn := fun _ => fun
  | [d] => { results := [.lit (.bool true)], args := [d] }
  | _ => none }
def poseChainRow : OpenClaim := { program := "ytdplgiccpjlelaa", sum := "aae5115e72165413c3c815a3bd8ac9de369d64eebd345b4f1e260f797c9d8fa1", func := "armplan/armplanlaw5.PoseChain", spec := "poseChain", unfollowed := true, recurses := true, apart := false }
def PoseChainSaid : Prop := poseChainRow.holds Try.pinned (OpenSpec.ofChange poseChainSpec)

/-- ITS FALSE NEIGHBOUR: 'it returns false'. Refute it at one input. -/
def poseChainWrong : ChangeSpec := { name := "poseChain", fn := fun _ => fun
  | [d] => { results := [.lit (.bool false)], args := [d] }
  | _ => none }
def PoseChainWrongFalsely : Prop := poseChainRow.holds Try.pinned (OpenSpec.ofChange poseChainWrong)

/-- 'armplanlaw5.PoseShifts': WHATEVER THE INPUT: true; the input reads as it did. -/
def poseShiftsSpec : ChangeSpec := { name := "poseShifts", fn := fun _ => fun
  | [d1, d2, d3] => { results := [.lit (.bool true)], args := [d1, d2, d3] }
  | _ => none }
def poseShiftsRow : OpenClaim := { program := "ytdplgiccpjlelaa", sum := "aae5115e72165413c3c815a3bd8ac9de369d64eebd345b4f1e260f797c9d8fa1", func := "armplan/armplanlaw5.PoseShifts", spec := "poseShifts", unfollowed := true, recurses := true, apart := false }
def PoseShiftsSaid : Prop := poseShiftsRow.holds Try.pinned (OpenSpec.ofChange poseShiftsSpec)

/-- ITS FALSE NEIGHBOUR: 'it returns false'. Refute it at one input. -/
def poseShiftsWrong : ChangeSpec := { name := "poseShifts", fn := fun _ => fun
  | [d1, d2, d3] => { results := [.lit (.bool false)], args := [d1, d2, d3] }
  | _ => none }
def PoseShiftsWrongFalsely : Prop := poseShiftsRow.holds Try.pinned (OpenSpec.ofChange poseShiftsWrong)

/- THE SECOND FORM. 'bulk': how many values and letters a reading holds, each counted each time it is reached (what is shared counts as often as it is met; a slice's spare places count too). A statement '..UptoSaid' is the law's where the arguments, and the package variables that the reading takes, are together of bulk at most 1048576: NARROWER than '..Said'. Prove '..Said' where nothing that the law and all that it calls make is longer than what came in: it says more and counts as full. Else prove '..UptoSaid'. A law counts once. -/
mutual
def uptoBulk {H : Type} : DataW H → Nat
  | .lit (.string bytes) => bytes.length + 1
  | .lit _ => 1
  | .nil => 1
  | .ptr d => uptoBulk d + 1
  | .slice elems spare => uptoBulkAll elems + uptoBulkAll spare + 1
  | .agg parts => uptoBulkAll parts + 1
  | .iface _ d => uptoBulk d + 1
  | .map entries => uptoBulkEntries entries + 1
  | .held _ => 1
def uptoBulkAll {H : Type} : List (DataW H) → Nat
  | [] => 0
  | d :: r => uptoBulk d + uptoBulkAll r
def uptoBulkEntries {H : Type} : List (Lit × DataW H) → Nat
  | [] => 0
  | x :: r => uptoBulkEntry x + uptoBulkEntries r
def uptoBulkEntry {H : Type} : Lit × DataW H → Nat
  | (.string bytes, d) => bytes.length + uptoBulk d + 1
  | (_, d) => uptoBulk d + 1
 end
def uptoSmall : (H : Type) → List (DataW H) → Bool := fun _ ds => decide (uptoBulkAll ds ≤ 1048576)
def OpenSpec.upto (s : _root_.Go.ChangeSpec) : _root_.Go.OpenSpec := { _root_.Go.OpenSpec.ofChange s with cond := some uptoSmall }

/-- 'armplanlaw5.PoseComposes', WHERE WHAT IT READS IS OF BULK AT MOST 1048576: true; the input reads as it did. -/
def poseComposesUptoRow : OpenClaim := { program := "ytdplgiccpjlelaa", sum := "aae5115e72165413c3c815a3bd8ac9de369d64eebd345b4f1e260f797c9d8fa1", func := "armplan/armplanlaw5.PoseComposes", spec := "poseComposes", unfollowed := true, recurses := true, apart := false, narrowed := true }
def PoseComposesUptoSaid : Prop := poseComposesUptoRow.holds Try.pinned (OpenSpec.upto poseComposesSpec)

/-- 'armplanlaw5.PoseApplies', WHERE WHAT IT READS IS OF BULK AT MOST 1048576: true; the input reads as it did. -/
def poseAppliesUptoRow : OpenClaim := { program := "ytdplgiccpjlelaa", sum := "aae5115e72165413c3c815a3bd8ac9de369d64eebd345b4f1e260f797c9d8fa1", func := "armplan/armplanlaw5.PoseApplies", spec := "poseApplies", unfollowed := true, recurses := true, apart := false, narrowed := true }
def PoseAppliesUptoSaid : Prop := poseAppliesUptoRow.holds Try.pinned (OpenSpec.upto poseAppliesSpec)

/-- 'armplanlaw5.PoseNeutral', WHERE WHAT IT READS IS OF BULK AT MOST 1048576: true; the input reads as it did. -/
def poseNeutralUptoRow : OpenClaim := { program := "ytdplgiccpjlelaa", sum := "aae5115e72165413c3c815a3bd8ac9de369d64eebd345b4f1e260f797c9d8fa1", func := "armplan/armplanlaw5.PoseNeutral", spec := "poseNeutral", unfollowed := true, recurses := true, apart := false, narrowed := true }
def PoseNeutralUptoSaid : Prop := poseNeutralUptoRow.holds Try.pinned (OpenSpec.upto poseNeutralSpec)

/-- 'armplanlaw5.PoseMonotone', WHERE WHAT IT READS IS OF BULK AT MOST 1048576: true; the input reads as it did. -/
def poseMonotoneUptoRow : OpenClaim := { program := "ytdplgiccpjlelaa", sum := "aae5115e72165413c3c815a3bd8ac9de369d64eebd345b4f1e260f797c9d8fa1", func := "armplan/armplanlaw5.PoseMonotone", spec := "poseMonotone", unfollowed := true, recurses := true, apart := false, narrowed := true }
def PoseMonotoneUptoSaid : Prop := poseMonotoneUptoRow.holds Try.pinned (OpenSpec.upto poseMonotoneSpec)

/-- 'armplanlaw5.PoseInverse', WHERE WHAT IT READS IS OF BULK AT MOST 1048576: true; the input reads as it did. -/
def poseInverseUptoRow : OpenClaim := { program := "ytdplgiccpjlelaa", sum := "aae5115e72165413c3c815a3bd8ac9de369d64eebd345b4f1e260f797c9d8fa1", func := "armplan/armplanlaw5.PoseInverse", spec := "poseInverse", unfollowed := true, recurses := true, apart := false, narrowed := true }
def PoseInverseUptoSaid : Prop := poseInverseUptoRow.holds Try.pinned (OpenSpec.upto poseInverseSpec)

/-- 'armplanlaw5.PoseChain', WHERE WHAT IT READS IS OF BULK AT MOST 1048576: true; the input reads as it did. -/
def poseChainUptoRow : OpenClaim := { program := "ytdplgiccpjlelaa", sum := "aae5115e72165413c3c815a3bd8ac9de369d64eebd345b4f1e260f797c9d8fa1", func := "armplan/armplanlaw5.PoseChain", spec := "poseChain", unfollowed := true, recurses := true, apart := false, narrowed := true }
def PoseChainUptoSaid : Prop := poseChainUptoRow.holds Try.pinned (OpenSpec.upto poseChainSpec)

/-- 'armplanlaw5.PoseShifts', WHERE WHAT IT READS IS OF BULK AT MOST 1048576: true; the input reads as it did. -/
def poseShiftsUptoRow : OpenClaim := { program := "ytdplgiccpjlelaa", sum := "aae5115e72165413c3c815a3bd8ac9de369d64eebd345b4f1e260f797c9d8fa1", func := "armplan/armplanlaw5.PoseShifts", spec := "poseShifts", unfollowed := true, recurses := true, apart := false, narrowed := true }
def PoseShiftsUptoSaid : Prop := poseShiftsUptoRow.holds Try.pinned (OpenSpec.upto poseShiftsSpec)

end Rows
end Go.Proofs.Ytdplgiccpjlelaa
