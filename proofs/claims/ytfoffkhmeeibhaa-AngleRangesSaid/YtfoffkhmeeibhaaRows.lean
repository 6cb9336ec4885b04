/-
  No cell of these rows narrows 'for every input' (looked for: loops, veiled, ifaces, maps, wideKeys, modest, calm, conditions, laid).
  DERIVED. THE GIVEN ROWS OF THIS SEAT. 9 by the template 'for every input the law returns true; each argument reads behind the call as it read before'; 0 by the template 'total and deterministic' (their statements: YtfoffkhmeeibhaaTotals.lean).
  GIVEN WITH THE SEED: the statements are not yours to turn. If you find one false, say at which input.
  Laid BY PROGRAM, IN A SANDBOX (cutbox-rows.mjs): the forced cells as the released guide's own fill.sh prints them over the translation cc0b32f6ccc47943… (all of the seat's roots in one cut). By AI agents, Wed Nov 11 2026. No macro, syntax, notation, axiom, sorry.
-/
import Derived.Test.YtfoffkhmeeibhaaChecked
import GoSem.Claim
import GoSem.ClaimJoined
import GoSem.ClaimMapViews
import Derived.JoinedTies
import Derived.KernelRfl
namespace Go.Proofs.Ytfoffkhmeeibhaa
/- THE CELL 'sum', in the pinned program and in every row, IS THE sha256 OF THE DUMP (.gsa) THAT YtfoffkhmeeibhaaProg.lean LOADS. Nothing in Lean hashes anything: it is a label: what it is worth is what the hold of that sum in a sandbox is worth. -/
noncomputable def Try.pinned : Pinned := { name := "ytfoffkhmeeibhaa", sum := "cc0b32f6ccc47943febb5f7af8e2f130a8516d0c8cd33383bc925791568b2565", checked := Try.checked }
namespace Rows
def none {H : Type} : Left H := { results := [], args := [] }

/-- 'armplanlaw3.AngleValues': WHATEVER THE INPUT: true; the input reads as it did. -/
def angleValuesSpec : ChangeSpec := { name := "angleValues", fn := fun _ => fun
  | [d1, d2] => { results := [.lit (.bool true)], args := [d1, d2] }
  | _ => none }
def angleValuesRow : OpenClaim := { program := "ytfoffkhmeeibhaa", sum := "cc0b32f6ccc47943febb5f7af8e2f130a8516d0c8cd33383bc925791568b2565", func := "armplan/armplanlaw3.AngleValues", spec := "angleValues", apart := false }
def AngleValuesSaid : Prop := angleValuesRow.holds Try.pinned (OpenSpec.ofChange angleValuesSpec)

/-- ITS FALSE NEIGHBOUR: 'it returns false'. Refute it at one input. -/
def angleValuesWrong : ChangeSpec := { name := "angleValues", fn := fun _ => fun
  | [d1, d2] => { results := [.lit (.bool false)], args := [d1, d2] }
  | _ => none }
def AngleValuesWrongFalsely : Prop := angleValuesRow.holds Try.pinned (OpenSpec.ofChange angleValuesWrong)

/-- 'armplanlaw3.AngleRanges': WHATEVER THE INPUT: true; the input reads as it did. -/
def angleRangesSpec : ChangeSpec := { name := "angleRanges", fn := fun _ => fun
  | [d1, d2, d3] => { results := [.lit (.bool true)], args := [d1, d2, d3] }
  | _ => none }
def angleRangesRow : OpenClaim := { program := "ytfoffkhmeeibhaa", sum := "cc0b32f6ccc47943febb5f7af8e2f130a8516d0c8cd33383bc925791568b2565", func := "armplan/armplanlaw3.AngleRanges", spec := "angleRanges", unfollowed := true, recurses := true, apart := false }
def AngleRangesSaid : Prop := angleRangesRow.holds Try.pinned (OpenSpec.ofChange angleRangesSpec)

/-- ITS FALSE NEIGHBOUR: 'it returns false'. Refute it at one input. -/
def angleRangesWrong : ChangeSpec := { name := "angleRanges", fn := fun _ => fun
  | [d1, d2, d3] => { results := [.lit (.bool false)], args := [d1, d2, d3] }
  | _ => none }
def AngleRangesWrongFalsely : Prop := angleRangesRow.holds Try.pinned (OpenSpec.ofChange angleRangesWrong)

/-- 'armplanlaw3.AngleSymmetry': WHATEVER THE INPUT: true; the input reads as it did. -/
def angleSymmetrySpec : ChangeSpec := { name := "angleSymmetry", fn := fun _ => fun
  | [d] => { results := [.lit (.bool true)], args := [d] }
  | _ => none }
def angleSymmetryRow : OpenClaim := { program := "ytfoffkhmeeibhaa", sum := "cc0b32f6ccc47943febb5f7af8e2f130a8516d0c8cd33383bc925791568b2565", func := "armplan/armplanlaw3.AngleSymmetry", spec := "angleSymmetry", apart := false }
def AngleSymmetrySaid : Prop := angleSymmetryRow.holds Try.pinned (OpenSpec.ofChange angleSymmetrySpec)

/-- ITS FALSE NEIGHBOUR: 'it returns false'. Refute it at one input. -/
def angleSymmetryWrong : ChangeSpec := { name := "angleSymmetry", fn := fun _ => fun
  | [d] => { results := [.lit (.bool false)], args := [d] }
  | _ => none }
def AngleSymmetryWrongFalsely : Prop := angleSymmetryRow.holds Try.pinned (OpenSpec.ofChange angleSymmetryWrong)

/-- 'armplanlaw3.AngleCircle': WHATEVER THE INPUT: true; the input reads as it did. -/
def angleCircleSpec : ChangeSpec := { name := "angleCircle", fn := fun _ => fun
  | [d] => { results := [.lit (.bool true)], args := [d] }
  | _ => none }
def angleCircleRow : OpenClaim := { program := "ytfoffkhmeeibhaa", sum := "cc0b32f6ccc47943febb5f7af8e2f130a8516d0c8cd33383bc925791568b2565", func := "armplan/armplanlaw3.AngleCircle", spec := "angleCircle", apart := false }
def AngleCircleSaid : Prop := angleCircleRow.holds Try.pinned (OpenSpec.ofChange angleCircleSpec)

/-- ITS FALSE NEIGHBOUR: 'it returns false'. Refute it at one input. -/
def angleCircleWrong : ChangeSpec := { name := "angleCircle", fn := fun _ => fun
  | [d] => { results := [.lit (.bool false)], args := [d] }
  | _ => none }
def AngleCircleWrongFalsely : Prop := angleCircleRow.holds Try.pinned (OpenSpec.ofChange angleCircleWrong)

/-- 'armplanlaw3.AngleRises': WHATEVER THE INPUT: true; the input reads as it did. -/
def angleRisesSpec : ChangeSpec := { name := "angleRises", fn := fun _ => fun
  | [d] => { results := [.lit (.bool true)], args := [d] }
  | _ => none }
def angleRisesRow : OpenClaim := { program := "ytfoffkhmeeibhaa", sum := "cc0b32f6ccc47943febb5f7af8e2f130a8516d0c8cd33383bc925791568b2565", func := "armplan/armplanlaw3.AngleRises", spec := "angleRises", apart := false }
def AngleRisesSaid : Prop := angleRisesRow.holds Try.pinned (OpenSpec.ofChange angleRisesSpec)

/-- ITS FALSE NEIGHBOUR: 'it returns false'. Refute it at one input. -/
def angleRisesWrong : ChangeSpec := { name := "angleRises", fn := fun _ => fun
  | [d] => { results := [.lit (.bool false)], args := [d] }
  | _ => none }
def AngleRisesWrongFalsely : Prop := angleRisesRow.holds Try.pinned (OpenSpec.ofChange angleRisesWrong)

/-- 'armplanlaw3.AngleAdds': WHATEVER THE INPUT: true; the input reads as it did. -/
def angleAddsSpec : ChangeSpec := { name := "angleAdds", fn := fun _ => fun
  | [d1, d2] => { results := [.lit (.bool true)], args := [d1, d2] }
  | _ => none }
def angleAddsRow : OpenClaim := { program := "ytfoffkhmeeibhaa", sum := "cc0b32f6ccc47943febb5f7af8e2f130a8516d0c8cd33383bc925791568b2565", func := "armplan/armplanlaw3.AngleAdds", spec := "angleAdds", apart := false }
def AngleAddsSaid : Prop := angleAddsRow.holds Try.pinned (OpenSpec.ofChange angleAddsSpec)

/-- ITS FALSE NEIGHBOUR: 'it returns false'. Refute it at one input. -/
def angleAddsWrong : ChangeSpec := { name := "angleAdds", fn := fun _ => fun
  | [d1, d2] => { results := [.lit (.bool false)], args := [d1, d2] }
  | _ => none }
def AngleAddsWrongFalsely : Prop := angleAddsRow.holds Try.pinned (OpenSpec.ofChange angleAddsWrong)

/-- 'armplanlaw3.AngleContains': WHATEVER THE INPUT: true; the input reads as it did. -/
def angleContainsSpec : ChangeSpec := { name := "angleContains", fn := fun _ => fun
  | [d1, d2, d3] => { results := [.lit (.bool true)], args := [d1, d2, d3] }
  | _ => none }
def angleContainsRow : OpenClaim := { program := "ytfoffkhmeeibhaa", sum := "cc0b32f6ccc47943febb5f7af8e2f130a8516d0c8cd33383bc925791568b2565", func := "armplan/armplanlaw3.AngleContains", spec := "angleContains", unfollowed := true, recurses := true, apart := false }
def AngleContainsSaid : Prop := angleContainsRow.holds Try.pinned (OpenSpec.ofChange angleContainsSpec)

/-- ITS FALSE NEIGHBOUR: 'it returns false'. Refute it at one input. -/
def angleContainsWrong : ChangeSpec := { name := "angleContains", fn := fun _ => fun
  | [d1, d2, d3] => { results := [.lit (.bool false)], args := [d1, d2, d3] }
  | _ => none }
def AngleContainsWrongFalsely : Prop := angleContainsRow.holds Try.pinned (OpenSpec.ofChange angleContainsWrong)

/-- 'armplanlaw3.AngleNested': WHATEVER THE INPUT: true; the input reads as it did. -/
def angleNestedSpec : ChangeSpec := { name := "angleNested", fn := fun _ => fun
  | [d1, d2, d3, d4] => { results := [.lit (.bool true)], args := [d1, d2, d3, d4] }
  | _ => none }
def angleNestedRow : OpenClaim := { program := "ytfoffkhmeeibhaa", sum := "cc0b32f6ccc47943febb5f7af8e2f130a8516d0c8cd33383bc925791568b2565", func := "armplan/armplanlaw3.AngleNested", spec := "angleNested", unfollowed := true, recurses := true, apart := false }
def AngleNestedSaid : Prop := angleNestedRow.holds Try.pinned (OpenSpec.ofChange angleNestedSpec)

/-- ITS FALSE NEIGHBOUR: 'it returns false'. Refute it at one input. -/
def angleNestedWrong : ChangeSpec := { name := "angleNested", fn := fun _ => fun
  | [d1, d2, d3, d4] => { results := [.lit (.bool false)], args := [d1, d2, d3, d4] }
  | _ => none }
def AngleNestedWrongFalsely : Prop := angleNestedRow.holds Try.pinned (OpenSpec.ofChange angleNestedWrong)

/-- 'armplanlaw3.AngleChord': WHATEVER THE INPUT: true; the input reads as it did. -/
def angleChordSpec : ChangeSpec := { name := "angleChord", fn := fun _ => fun
  | [d] => { results := [.lit (.bool true)], args := [d] }
  | _ => none }
def angleChordRow : OpenClaim := { program := "ytfoffkhmeeibhaa", sum := "cc0b32f6ccc47943febb5f7af8e2f130a8516d0c8cd33383bc925791568b2565", func := "armplan/armplanlaw3.AngleChord", spec := "angleChord", apart := false }
def AngleChordSaid : Prop := angleChordRow.holds Try.pinned (OpenSpec.ofChange angleChordSpec)

/-- ITS FALSE NEIGHBOUR: 'it returns false'. Refute it at one input. -/
def angleChordWrong : ChangeSpec := { name := "angleChord", fn := fun _ => fun
  | [d] => { results := [.lit (.bool false)], args := [d] }
  | _ => none }
def AngleChordWrongFalsely : Prop := angleChordRow.holds Try.pinned (OpenSpec.ofChange angleChordWrong)

/- THE SECOND FORM. 'bulk': how many values and letters a reading holds, each counted each time it is reached (what is shared counts as often as it is met; a slice's spare places count too). A statement '..UptoSaid' is the law's where the arguments, and the package variables that the reading takes, are together of bulk at most 1048576: NARROWER than '..Said'. Prove '..Said' where nothing that the law and all that it calls make is longer than what came in: it says more and counts as full. Else prove '..UptoSaid'. A law counts once. -/
mutual
def uptoBulk {H : Type} : DataW H → Nat
  | .lit (.string bytes) => bytes.length + 1
  | .lit _ => 1
  | .nil => 1
  | .ptr d => uptoBulk d + 1
  | .slice elems spare => uptoBulkAll elems + uptoBulkAll spare + 1
  | .agg parts => uptoBulkAll parts + 1
  | .iface _ d => uptoBulk d + 1
  | .map entries => uptoBulkEntries entries + 1
  | .held _ => 1
def uptoBulkAll {H : Type} : List (DataW H) → Nat
  | [] => 0
  | d :: r => uptoBulk d + uptoBulkAll r
def uptoBulkEntries {H : Type} : List (Lit × DataW H) → Nat
  | [] => 0
  | x :: r => uptoBulkEntry x + uptoBulkEntries r
def uptoBulkEntry {H : Type} : Lit × DataW H → Nat
  | (.string bytes, d) => bytes.length + uptoBulk d + 1
  | (_, d) => uptoBulk d + 1
 end
def uptoSmall : (H : Type) → List (DataW H) → Bool := fun _ ds => decide (uptoBulkAll ds ≤ 1048576)
def OpenSpec.upto (s : _root_.Go.ChangeSpec) : _root_.Go.OpenSpec := { _root_.Go.OpenSpec.ofChange s with cond := some uptoSmall }

/-- 'armplanlaw3.AngleValues', WHERE WHAT IT READS IS OF BULK AT MOST 1048576: true; the input reads as it did. -/
def angleValuesUptoRow : OpenClaim := { program := "ytfoffkhmeeibhaa", sum := "cc0b32f6ccc47943febb5f7af8e2f130a8516d0c8cd33383bc925791568b2565", func := "armplan/armplanlaw3.AngleValues", spec := "angleValues", apart := false, narrowed := true }
def AngleValuesUptoSaid : Prop := angleValuesUptoRow.holds Try.pinned (OpenSpec.upto angleValuesSpec)

/-- 'armplanlaw3.AngleRanges', WHERE WHAT IT READS IS OF BULK AT MOST 1048576: true; the input reads as it did. -/
def angleRangesUptoRow : OpenClaim := { program := "ytfoffkhmeeibhaa", sum := "cc0b32f6ccc47943febb5f7af8e2f130a8516d0c8cd33383bc925791568b2565", func := "armplan/armplanlaw3.AngleRanges", spec := "angleRanges", unfollowed := true, recurses := true, apart := false, narrowed := true }
def AngleRangesUptoSaid : Prop := angleRangesUptoRow.holds Try.pinned (OpenSpec.upto angleRangesSpec)

/-- 'armplanlaw3.AngleSymmetry', WHERE WHAT IT READS IS OF BULK AT MOST 1048576: true; the input reads as it did. -/
def angleSymmetryUptoRow : OpenClaim := { program := "ytfoffkhmeeibhaa", sum := "cc0b32f6ccc47943febb5f7af8e2f130a8516d0c8cd33383bc925791568b2565", func := "armplan/armplanlaw3.AngleSymmetry", spec := "angleSymmetry", apart := false, narrowed := true }
def AngleSymmetryUptoSaid : Prop := angleSymmetryUptoRow.holds Try.pinned (OpenSpec.upto angleSymmetrySpec)

/-- 'armplanlaw3.AngleCircle', WHERE WHAT IT READS IS OF BULK AT MOST 1048576: true; the input reads as it did. -/
def angleCircleUptoRow : OpenClaim := { program := "ytfoffkhmeeibhaa", sum := "cc0b32f6ccc47943febb5f7af8e2f130a8516d0c8cd33383bc925791568b2565", func := "armplan/armplanlaw3.AngleCircle", spec := "angleCircle", apart := false, narrowed := true }
def AngleCircleUptoSaid : Prop := angleCircleUptoRow.holds Try.pinned (OpenSpec.upto angleCircleSpec)

/-- 'armplanlaw3.AngleRises', WHERE WHAT IT READS IS OF BULK AT MOST 1048576: true; the input reads as it did. -/
def angleRisesUptoRow : OpenClaim := { program := "ytfoffkhmeeibhaa", sum := "cc0b32f6ccc47943febb5f7af8e2f130a8516d0c8cd33383bc925791568b2565", func := "armplan/armplanlaw3.AngleRises", spec := "angleRises", apart := false, narrowed := true }
def AngleRisesUptoSaid : Prop := angleRisesUptoRow.holds Try.pinned (OpenSpec.upto angleRisesSpec)

/-- 'armplanlaw3.AngleAdds', WHERE WHAT IT READS IS OF BULK AT MOST 1048576: true; the input reads as it did. -/
def angleAddsUptoRow : OpenClaim := { program := "ytfoffkhmeeibhaa", sum := "cc0b32f6ccc47943febb5f7af8e2f130a8516d0c8cd33383bc925791568b2565", func := "armplan/armplanlaw3.AngleAdds", spec := "angleAdds", apart := false, narrowed := true }
def AngleAddsUptoSaid : Prop := angleAddsUptoRow.holds Try.pinned (OpenSpec.upto angleAddsSpec)

/-- 'armplanlaw3.AngleContains', WHERE WHAT IT READS IS OF BULK AT MOST 1048576: true; the input reads as it did. -/
def angleContainsUptoRow : OpenClaim := { program := "ytfoffkhmeeibhaa", sum := "cc0b32f6ccc47943febb5f7af8e2f130a8516d0c8cd33383bc925791568b2565", func := "armplan/armplanlaw3.AngleContains", spec := "angleContains", unfollowed := true, recurses := true, apart := false, narrowed := true }
def AngleContainsUptoSaid : Prop := angleContainsUptoRow.holds Try.pinned (OpenSpec.upto angleContainsSpec)

/-- 'armplanlaw3.AngleNested', WHERE WHAT IT READS IS OF BULK AT MOST 1048576: true; the input reads as it did. -/
def angleNestedUptoRow : OpenClaim := { program := "ytfoffkhmeeibhaa", sum := "cc0b32f6ccc47943febb5f7af8e2f130a8516d0c8cd33383bc925791568b2565", func := "armplan/armplanlaw3.AngleNested", spec := "angleNested", unfollowed := true, recurses := true, apart := false, narrowed := true }
def AngleNestedUptoSaid : Prop := angleNestedUptoRow.holds Try.pinned (OpenSpec.upto angleNestedSpec)

/-- 'armplanlaw3.AngleChord', WHERE WHAT IT READS IS OF BULK AT MOST 1048576: true; the input reads as it did. -/
def angleChordUptoRow : OpenClaim := { program := "ytfoffkhmeeibhaa", sum := "cc0b32f6ccc47943febb5f7af8e2f130a8516d0c8cd33383bc925791568b2565", func := "armplan/armplanlaw3.AngleChord", spec := "angleChord", apart := false, narrowed := true }
def AngleChordUptoSaid : Prop := angleChordUptoRow.holds Try.pinned (OpenSpec.upto angleChordSpec)

end Rows
end Go.Proofs.Ytfoffkhmeeibhaa
