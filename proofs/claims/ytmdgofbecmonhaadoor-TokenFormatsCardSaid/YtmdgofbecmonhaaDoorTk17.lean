/- Proved: where the variables that the row of TokenFormats lists read as it says, the library's table of powers of ten does. Conditions: as the theorem states. -/
import Derived.Test.YtmdgofbecmonhaaDoorRows
import Derived.Test.YtmdgofbecmonhaaDoorTkI
import Derived.Lib.LaidTab
import Derived.MakeChecks
import Derived.Stop.LaidErr
namespace Go.Proofs.YtmdgofbecmonhaaDoor
open Go.RowKit
theorem pow10_of {W : World} (h : laidMetH Tryd.prog Rows.tokenFormatsRow.laid W) : Pow10 W := by
  rw [MakeChecks.laidMetH_plain _ _ _ (by kernel_rfl)] at h
  refine Lib.tabBelow_of_tabIs (Lib.tabIs_of_head (rest := Rows.tokenFormatsRow.laid.drop 3) (g := 0) (t := 88) (e := 76) (n := 20) (by kernel_rfl) (by kernel_rfl) Tryd.underlying88 Tryd.underlying76 (by kernel_rfl) (by kernel_rfl) ?_)
  have h2 : laidMet Tryd.prog (Rows.tokenFormatsRow.laid.drop 2) W := (show laidMet Tryd.prog (_ :: _ :: Rows.tokenFormatsRow.laid.drop 2) W from h).tail.tail
  exact h2
end Go.Proofs.YtmdgofbecmonhaaDoor
