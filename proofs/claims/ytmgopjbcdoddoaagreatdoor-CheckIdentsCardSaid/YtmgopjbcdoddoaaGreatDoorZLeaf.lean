/- Symbols: which byte is what, both sides. -/
import Derived.Test.YtmgopjbcdoddoaaGreatDoorZMath
import Derived.Test.YtmgopjbcdoddoaaGreatDoorVRow
import Derived.Outline
set_option linter.unusedSimpArgs false
set_option linter.unusedVariables false
namespace Go.Proofs.YtmgopjbcdoddoaaGreatDoor
open Go.RowKit M

theorem retB {a b : Bool} (h : a = b) : Ending.returned (.bool a) = .returned (.bool b) := by rw [h]
end Go.Proofs.YtmgopjbcdoddoaaGreatDoor
