/- What the proof of a row without tables wants. -/
import Derived.Test.YtmgopjbcdoddoaaGreatDoorRows
import Derived.Test.YtmgopjbcdoddoaaGreatDoorGArgs
import Derived.WalkKit
import Derived.ProofKit
import Derived.OpenShut
import Derived.ShutString
import Derived.ChangeOld
import Derived.Below
import Derived.Lib.SmallJoins
set_option linter.unusedSimpArgs false
set_option linter.unusedVariables false
namespace Go.Proofs.YtmgopjbcdoddoaaGreatDoor
open Go.Joins Go.ChangeShapes Go.WideShapes Go.RowKit M

theorem own : ownKnob Tryz.prog.godebug = none := by kernel_rfl
theorem laidOut : laidOutB Tryz.prog = true := by kernel_rfl
end Go.Proofs.YtmgopjbcdoddoaaGreatDoor
