/- Proved: where the variables that the row of RobotRoundTrip lists read as it says, the library's powers of ten and the program's words of kinds do. Conditions: as the theorems state. -/
import Derived.Test.YtpaiapcnoifpmaaDoorRows
import Derived.Test.YtpaiapcnoifpmaaDoorTkI
import Derived.Test.YtpaiapcnoifpmaaDoorRcK
import Derived.Lib.LaidTab
import Derived.MakeChecks
import Derived.Stop.LaidErr
namespace Go.Proofs.YtpaiapcnoifpmaaDoor
open Go.RowKit
theorem pow10_rt {W : World} (h : laidMetH Tryd.prog Rows.robotRoundTripRow.laid W) : Pow10 W := by
  rw [MakeChecks.laidMetH_plain _ _ _ (by kernel_rfl)] at h
  refine Lib.tabBelow_of_tabIs (Lib.tabIs_of_head (rest := Rows.robotRoundTripRow.laid.drop 3) (g := 1) (t := 172) (e := 160) (n := 20) (by kernel_rfl) (by kernel_rfl) Tryd.underlying172 Tryd.underlying160 (by kernel_rfl) (by kernel_rfl) ?_)
  have h2 : laidMet Tryd.prog (Rows.robotRoundTripRow.laid.drop 2) W := (show laidMet Tryd.prog (_ :: _ :: Rows.robotRoundTripRow.laid.drop 2) W from h).tail.tail
  exact h2
theorem kind_rt {W : World} (h : laidMetH Tryd.prog Rows.robotRoundTripRow.laid W) : KindT W := by
  rw [MakeChecks.laidMetH_plain _ _ _ (by kernel_rfl)] at h
  exact kind_laid (rest := Rows.robotRoundTripRow.laid.drop 5) (show laidMet Tryd.prog (_ :: _ :: _ :: _ :: Rows.robotRoundTripRow.laid.drop 4) W from h).tail.tail.tail.tail
end Go.Proofs.YtpaiapcnoifpmaaDoor
