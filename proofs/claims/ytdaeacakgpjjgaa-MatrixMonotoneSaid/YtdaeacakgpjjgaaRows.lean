/-
  No cell of these rows narrows 'for every input' (looked for: loops, veiled, ifaces, maps, wideKeys, modest, calm, conditions, laid).
  DERIVED. THE GIVEN ROWS OF THIS SEAT. 8 by the template 'for every input the law returns true; each argument reads behind the call as it read before'; 0 by the template 'total and deterministic' (their statements: YtdaeacakgpjjgaaTotals.lean).
  GIVEN WITH THE SEED: the statements are not yours to turn. If you find one false, say at which input.
  Laid BY PROGRAM, IN A SANDBOX (cutbox-rows.mjs): the forced cells as the released guide's own fill.sh prints them over the translation 646abcc6aa060e6f… (all of the seat's roots in one cut). By AI agents, Wed Nov 11 2026. No macro, syntax, notation, axiom, sorry.
-/
import Derived.Test.YtdaeacakgpjjgaaChecked
import GoSem.Claim
import GoSem.ClaimJoined
import GoSem.ClaimMapViews
import Derived.JoinedTies
import Derived.KernelRfl
namespace Go.Proofs.Ytdaeacakgpjjgaa
/- THE CELL 'sum', in the pinned program and in every row, IS THE sha256 OF THE DUMP (.gsa) THAT YtdaeacakgpjjgaaProg.lean LOADS. Nothing in Lean hashes anything: it is a label: what it is worth is what the hold of that sum in a sandbox is worth. -/
noncomputable def Try.pinned : Pinned := { name := "ytdaeacakgpjjgaa", sum := "646abcc6aa060e6ff7a1bfce68ccbc532626bcdf3e55d17796e0595df09c4108", checked := Try.checked }
namespace Rows
def none {H : Type} : Left H := { results := [], args := [] }

/-- 'armplanlaw4.MatrixTurns': WHATEVER THE INPUT: true; the input reads as it did. -/
def matrixTurnsSpec : ChangeSpec := { name := "matrixTurns", fn := fun _ => fun
  | [d1, d2, d3, d4] => { results := [.lit (.bool true)], args := [d1, d2, d3, d4] }
  | _ => none }
def matrixTurnsRow : OpenClaim := { program := "ytdaeacakgpjjgaa", sum := "646abcc6aa060e6ff7a1bfce68ccbc532626bcdf3e55d17796e0595df09c4108", func := "armplan/armplanlaw4.MatrixTurns", spec := "matrixTurns", unfollowed := true, recurses := true, apart := false }
def MatrixTurnsSaid : Prop := matrixTurnsRow.holds Try.pinned (OpenSpec.ofChange matrixTurnsSpec)

/-- ITS FALSE NEIGHBOUR: 'it returns false'. Refute it at one input. -/
def matrixTurnsWrong : ChangeSpec := { name := "matrixTurns", fn := fun _ => fun
  | [d1, d2, d3, d4] => { results := [.lit (.bool false)], args := [d1, d2, d3, d4] }
  | _ => none }
def MatrixTurnsWrongFalsely : Prop := matrixTurnsRow.holds Try.pinned (OpenSpec.ofChange matrixTurnsWrong)

/-- 'armplanlaw4.MatrixApplies': WHATEVER THE INPUT: true; the input reads as it did. -/
def matrixAppliesSpec : ChangeSpec := { name := "matrixApplies", fn := fun _ => fun
  | [d1, d2, d3, d4, d5] => { results := [.lit (.bool true)], args := [d1, d2, d3, d4, d5] }
  | _ => none }
def matrixAppliesRow : OpenClaim := { program := "ytdaeacakgpjjgaa", sum := "646abcc6aa060e6ff7a1bfce68ccbc532626bcdf3e55d17796e0595df09c4108", func := "armplan/armplanlaw4.MatrixApplies", spec := "matrixApplies", unfollowed := true, recurses := true, apart := false }
def MatrixAppliesSaid : Prop := matrixAppliesRow.holds Try.pinned (OpenSpec.ofChange matrixAppliesSpec)

/-- ITS FALSE NEIGHBOUR: 'it returns false'. Refute it at one input. -/
def matrixAppliesWrong : ChangeSpec := { name := "matrixApplies", fn := fun _ => fun
  | [d1, d2, d3, d4, d5] => { results := [.lit (.bool false)], args := [d1, d2, d3, d4, d5] }
  | _ => none }
def MatrixAppliesWrongFalsely : Prop := matrixAppliesRow.holds Try.pinned (OpenSpec.ofChange matrixAppliesWrong)

/-- 'armplanlaw4.MatrixComposes': WHATEVER THE INPUT: true; the input reads as it did. -/
def matrixComposesSpec : ChangeSpec := { name := "matrixComposes", fn := fun _ => fun
  | [d1, d2, d3] => { results := [.lit (.bool true)], args := [d1, d2, d3] }
  | _ => none }
def matrixComposesRow : OpenClaim := { program := "ytdaeacakgpjjgaa", sum := "646abcc6aa060e6ff7a1bfce68ccbc532626bcdf3e55d17796e0595df09c4108", func := "armplan/armplanlaw4.MatrixComposes", spec := "matrixComposes", unfollowed := true, recurses := true, apart := false }
def MatrixComposesSaid : Prop := matrixComposesRow.holds Try.pinned (OpenSpec.ofChange matrixComposesSpec)

/-- ITS FALSE NEIGHBOUR: 'it returns false'. Refute it at one input. -/
def matrixComposesWrong : ChangeSpec := { name := "matrixComposes", fn := fun _ => fun
  | [d1, d2, d3] => { results := [.lit (.bool false)], args := [d1, d2, d3] }
  | _ => none }
def MatrixComposesWrongFalsely : Prop := matrixComposesRow.holds Try.pinned (OpenSpec.ofChange matrixComposesWrong)

/-- 'armplanlaw4.MatrixMonotone': WHATEVER THE INPUT: true; the input reads as it did. -/
def matrixMonotoneSpec : ChangeSpec := { name := "matrixMonotone", fn := fun _ => fun
  | [d1, d2] => { results := [.lit (.bool true)], args := [d1, d2] }
  | _ => none }
def matrixMonotoneRow : OpenClaim := { program := "ytdaeacakgpjjgaa", sum := "646abcc6aa060e6ff7a1bfce68ccbc532626bcdf3e55d17796e0595df09c4108", func := "armplan/armplanlaw4.MatrixMonotone", spec := "matrixMonotone", unfollowed := true, recurses := true, apart := false }
def MatrixMonotoneSaid : Prop := matrixMonotoneRow.holds Try.pinned (OpenSpec.ofChange matrixMonotoneSpec)

/-- ITS FALSE NEIGHBOUR: 'it returns false'. Refute it at one input. -/
def matrixMonotoneWrong : ChangeSpec := { name := "matrixMonotone", fn := fun _ => fun
  | [d1, d2] => { results := [.lit (.bool false)], args := [d1, d2] }
  | _ => none }
def MatrixMonotoneWrongFalsely : Prop := matrixMonotoneRow.holds Try.pinned (OpenSpec.ofChange matrixMonotoneWrong)

/-- 'armplanlaw4.MatrixQuarters': WHATEVER THE INPUT: true; the input reads as it did. -/
def matrixQuartersSpec : ChangeSpec := { name := "matrixQuarters", fn := fun _ => fun
  | [d1, d2] => { results := [.lit (.bool true)], args := [d1, d2] }
  | _ => none }
def matrixQuartersRow : OpenClaim := { program := "ytdaeacakgpjjgaa", sum := "646abcc6aa060e6ff7a1bfce68ccbc532626bcdf3e55d17796e0595df09c4108", func := "armplan/armplanlaw4.MatrixQuarters", spec := "matrixQuarters", unfollowed := true, recurses := true, apart := false }
def MatrixQuartersSaid : Prop := matrixQuartersRow.holds Try.pinned (OpenSpec.ofChange matrixQuartersSpec)

/-- ITS FALSE NEIGHBOUR: 'it returns false'. Refute it at one input. -/
def matrixQuartersWrong : ChangeSpec := { name := "matrixQuarters", fn := fun _ => fun
  | [d1, d2] => { results := [.lit (.bool false)], args := [d1, d2] }
  | _ => none }
def MatrixQuartersWrongFalsely : Prop := matrixQuartersRow.holds Try.pinned (OpenSpec.ofChange matrixQuartersWrong)

/-- 'armplanlaw4.MatrixOrthogonal': WHATEVER THE INPUT: true; the input reads as it did. -/
def matrixOrthogonalSpec : ChangeSpec := { name := "matrixOrthogonal", fn := fun _ => fun
  | [d] => { results := [.lit (.bool true)], args := [d] }
  | _ => none }
def matrixOrthogonalRow : OpenClaim := { program := "ytdaeacakgpjjgaa", sum := "646abcc6aa060e6ff7a1bfce68ccbc532626bcdf3e55d17796e0595df09c4108", func := "armplan/armplanlaw4.MatrixOrthogonal", spec := "matrixOrthogonal", unfollowed := true, recurses := true, apart := false }
def MatrixOrthogonalSaid : Prop := matrixOrthogonalRow.holds Try.pinned (OpenSpec.ofChange matrixOrthogonalSpec)

/-- ITS FALSE NEIGHBOUR: 'it returns false'. Refute it at one input. -/
def matrixOrthogonalWrong : ChangeSpec := { name := "matrixOrthogonal", fn := fun _ => fun
  | [d] => { results := [.lit (.bool false)], args := [d] }
  | _ => none }
def MatrixOrthogonalWrongFalsely : Prop := matrixOrthogonalRow.holds Try.pinned (OpenSpec.ofChange matrixOrthogonalWrong)

/-- 'armplanlaw4.MatrixLength': WHATEVER THE INPUT: true; the input reads as it did. -/
def matrixLengthSpec : ChangeSpec := { name := "matrixLength", fn := fun _ => fun
  | [d] => { results := [.lit (.bool true)], args := [d] }
  | _ => none }
def matrixLengthRow : OpenClaim := { program := "ytdaeacakgpjjgaa", sum := "646abcc6aa060e6ff7a1bfce68ccbc532626bcdf3e55d17796e0595df09c4108", func := "armplan/armplanlaw4.MatrixLength", spec := "matrixLength", unfollowed := true, recurses := true, apart := false }
def MatrixLengthSaid : Prop := matrixLengthRow.holds Try.pinned (OpenSpec.ofChange matrixLengthSpec)

/-- ITS FALSE NEIGHBOUR: 'it returns false'. Refute it at one input. -/
def matrixLengthWrong : ChangeSpec := { name := "matrixLength", fn := fun _ => fun
  | [d] => { results := [.lit (.bool false)], args := [d] }
  | _ => none }
def MatrixLengthWrongFalsely : Prop := matrixLengthRow.holds Try.pinned (OpenSpec.ofChange matrixLengthWrong)

/-- 'armplanlaw4.MatrixAdds': WHATEVER THE INPUT: true; the input reads as it did. -/
def matrixAddsSpec : ChangeSpec := { name := "matrixAdds", fn := fun _ => fun
  | [d1, d2, d3] => { results := [.lit (.bool true)], args := [d1, d2, d3] }
  | _ => none }
def matrixAddsRow : OpenClaim := { program := "ytdaeacakgpjjgaa", sum := "646abcc6aa060e6ff7a1bfce68ccbc532626bcdf3e55d17796e0595df09c4108", func := "armplan/armplanlaw4.MatrixAdds", spec := "matrixAdds", unfollowed := true, recurses := true, apart := false }
def MatrixAddsSaid : Prop := matrixAddsRow.holds Try.pinned (OpenSpec.ofChange matrixAddsSpec)

/-- ITS FALSE NEIGHBOUR: 'it returns false'. Refute it at one input. -/
def matrixAddsWrong : ChangeSpec := { name := "matrixAdds", fn := fun _ => fun
  | [d1, d2, d3] => { results := [.lit (.bool false)], args := [d1, d2, d3] }
  | _ => none }
def MatrixAddsWrongFalsely : Prop := matrixAddsRow.holds Try.pinned (OpenSpec.ofChange matrixAddsWrong)

/- THE SECOND FORM. 'bulk': how many values and letters a reading holds, each counted each time it is reached (what is shared counts as often as it is met; a slice's spare places count too). A statement '..UptoSaid' is the law's where the arguments, and the package variables that the reading takes, are together of bulk at most 1048576: NARROWER than '..Said'. Prove '..Said' where nothing that the law and all that it calls make is longer than what came in: it says more and counts as full. Else prove '..UptoSaid'. A law counts once. -/
mutual
def uptoBulk {H : Type} : DataW H → Nat
  | .lit (.string bytes) => bytes.length + 1
  | .lit _ => 1
  | .nil => 1
  | .ptr d => uptoBulk d + 1
  | .slice elems spare => uptoBulkAll elems + uptoBulkAll spare + 1
  | .agg parts => uptoBulkAll parts + 1
  | .iface _ d => uptoBulk d + 1
  | .map entries => uptoBulkEntries entries + 1
  | .held _ => 1
def uptoBulkAll {H : Type} : List (DataW H) → Nat
  | [] => 0
  | d :: r => uptoBulk d + uptoBulkAll r
def uptoBulkEntries {H : Type} : List (Lit × DataW H) → Nat
  | [] => 0
  | x :: r => uptoBulkEntry x + uptoBulkEntries r
def uptoBulkEntry {H : Type} : Lit × DataW H → Nat
  | (.string bytes, d) => bytes.length + uptoBulk d + 1
  | (_, d) => uptoBulk d + 1
 end
def uptoSmall : (H : Type) → List (DataW H) → Bool := fun _ ds => decide (uptoBulkAll ds ≤ 1048576)
def OpenSpec.upto (s : _root_.Go.ChangeSpec) : _root_.Go.OpenSpec := { _root_.Go.OpenSpec.ofChange s with cond := some uptoSmall }

/-- 'armplanlaw4.MatrixTurns', WHERE WHAT IT READS IS OF BULK AT MOST 1048576: true; the input reads as it did. -/
def matrixTurnsUptoRow : OpenClaim := { program := "ytdaeacakgpjjgaa", sum := "646abcc6aa060e6ff7a1bfce68ccbc532626bcdf3e55d17796e0595df09c4108", func := "armplan/armplanlaw4.MatrixTurns", spec := "matrixTurns", unfollowed := true, recurses := true, apart := false, narrowed := true }
def MatrixTurnsUptoSaid : Prop := matrixTurnsUptoRow.holds Try.pinned (OpenSpec.upto matrixTurnsSpec)

/-- 'armplanlaw4.MatrixApplies', WHERE WHAT IT READS IS OF BULK AT MOST 1048576: true; the input reads as it did. -/
def matrixAppliesUptoRow : OpenClaim := { program := "ytdaeacakgpjjgaa", sum := "646abcc6aa060e6ff7a1bfce68ccbc532626bcdf3e55d17796e0595df09c4108", func := "armplan/armplanlaw4.MatrixApplies", spec := "matrixApplies", unfollowed := true, recurses := true, apart := false, narrowed := true }
def MatrixAppliesUptoSaid : Prop := matrixAppliesUptoRow.holds Try.pinned (OpenSpec.upto matrixAppliesSpec)

/-- 'armplanlaw4.MatrixComposes', WHERE WHAT IT READS IS OF BULK AT MOST 1048576: true; the input reads as it did. -/
def matrixComposesUptoRow : OpenClaim := { program := "ytdaeacakgpjjgaa", sum := "646abcc6aa060e6ff7a1bfce68ccbc532626bcdf3e55d17796e0595df09c4108", func := "armplan/armplanlaw4.MatrixComposes", spec := "matrixComposes", unfollowed := true, recurses := true, apart := false, narrowed := true }
def MatrixComposesUptoSaid : Prop := matrixComposesUptoRow.holds Try.pinned (OpenSpec.upto matrixComposesSpec)

/-- 'armplanlaw4.MatrixMonotone', WHERE WHAT IT READS IS OF BULK AT MOST 1048576: true; the input reads as it did. -/
def matrixMonotoneUptoRow : OpenClaim := { program := "ytdaeacakgpjjgaa", sum := "646abcc6aa060e6ff7a1bfce68ccbc532626bcdf3e55d17796e0595df09c4108", func := "armplan/armplanlaw4.MatrixMonotone", spec := "matrixMonotone", unfollowed := true, recurses := true, apart := false, narrowed := true }
def MatrixMonotoneUptoSaid : Prop := matrixMonotoneUptoRow.holds Try.pinned (OpenSpec.upto matrixMonotoneSpec)

/-- 'armplanlaw4.MatrixQuarters', WHERE WHAT IT READS IS OF BULK AT MOST 1048576: true; the input reads as it did. -/
def matrixQuartersUptoRow : OpenClaim := { program := "ytdaeacakgpjjgaa", sum := "646abcc6aa060e6ff7a1bfce68ccbc532626bcdf3e55d17796e0595df09c4108", func := "armplan/armplanlaw4.MatrixQuarters", spec := "matrixQuarters", unfollowed := true, recurses := true, apart := false, narrowed := true }
def MatrixQuartersUptoSaid : Prop := matrixQuartersUptoRow.holds Try.pinned (OpenSpec.upto matrixQuartersSpec)

/-- 'armplanlaw4.MatrixOrthogonal', WHERE WHAT IT READS IS OF BULK AT MOST 1048576: true; the input reads as it did. -/
def matrixOrthogonalUptoRow : OpenClaim := { program := "ytdaeacakgpjjgaa", sum := "646abcc6aa060e6ff7a1bfce68ccbc532626bcdf3e55d17796e0595df09c4108", func := "armplan/armplanlaw4.MatrixOrthogonal", spec := "matrixOrthogonal", unfollowed := true, recurses := true, apart := false, narrowed := true }
def MatrixOrthogonalUptoSaid : Prop := matrixOrthogonalUptoRow.holds Try.pinned (OpenSpec.upto matrixOrthogonalSpec)

/-- 'armplanlaw4.MatrixLength', WHERE WHAT IT READS IS OF BULK AT MOST 1048576: true; the input reads as it did. -/
def matrixLengthUptoRow : OpenClaim := { program := "ytdaeacakgpjjgaa", sum := "646abcc6aa060e6ff7a1bfce68ccbc532626bcdf3e55d17796e0595df09c4108", func := "armplan/armplanlaw4.MatrixLength", spec := "matrixLength", unfollowed := true, recurses := true, apart := false, narrowed := true }
def MatrixLengthUptoSaid : Prop := matrixLengthUptoRow.holds Try.pinned (OpenSpec.upto matrixLengthSpec)

/-- 'armplanlaw4.MatrixAdds', WHERE WHAT IT READS IS OF BULK AT MOST 1048576: true; the input reads as it did. -/
def matrixAddsUptoRow : OpenClaim := { program := "ytdaeacakgpjjgaa", sum := "646abcc6aa060e6ff7a1bfce68ccbc532626bcdf3e55d17796e0595df09c4108", func := "armplan/armplanlaw4.MatrixAdds", spec := "matrixAdds", unfollowed := true, recurses := true, apart := false, narrowed := true }
def MatrixAddsUptoSaid : Prop := matrixAddsUptoRow.holds Try.pinned (OpenSpec.upto matrixAddsSpec)

end Rows
end Go.Proofs.Ytdaeacakgpjjgaa
