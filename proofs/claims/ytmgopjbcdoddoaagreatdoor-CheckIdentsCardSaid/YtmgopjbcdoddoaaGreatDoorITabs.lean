/- A world that meets what the row's condition says of the library's tables. -/
import Derived.Test.YtmgopjbcdoddoaaGreatDoorRows
import Derived.Test.YtmgopjbcdoddoaaGreatDoorGTabs
import Derived.LaidMore
import Derived.LaidLaws
import Derived.ProofKit
import Derived.OpenShut
import Derived.Stop.Joined
import Derived.MakeChecks
import Derived.Lay
set_option linter.unusedSimpArgs false
set_option linter.unusedVariables false
namespace Go.Proofs.YtmgopjbcdoddoaaGreatDoor
open Go.Joins Go.ChangeShapes Go.WideShapes Go.RowKit M
def laidV : List (String × DataW Unit) := Rows.checkIdentsRow.laid
theorem laid_met (os : Os) (args : Array Value) : laidMetH Tryz.prog laidV ((World.laidAll Tryz.prog os laidV).forCall (fun _ _ => 0) ⟨#[], args, []⟩).memory := by
  rw [MakeChecks.laidMetH_plain _ _ _ (by kernel_rfl)]
  exact laidMet_laidAll _ (by kernel_rfl) (by kernel_rfl)
end Go.Proofs.YtmgopjbcdoddoaaGreatDoor
