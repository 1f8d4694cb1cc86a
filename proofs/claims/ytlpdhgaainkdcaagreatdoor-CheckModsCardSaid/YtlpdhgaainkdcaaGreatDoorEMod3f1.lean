/- CheckMods at use % 4 = 3, imports = false: masks 4 to 7. -/
import Derived.Test.YtlpdhgaainkdcaaGreatDoorEModOne
set_option linter.unusedSimpArgs false
set_option linter.unusedVariables false
namespace Go.Proofs.YtlpdhgaainkdcaaGreatDoor
open Go.VE

theorem modOne_3f_4 (m : Int) (val : Nat → Int) : modOne m val 4 3 false = true := by kernel_rfl
theorem modOne_3f_5 (m : Int) (val : Nat → Int) : modOne m val 5 3 false = true := by kernel_rfl
theorem modOne_3f_6 (m : Int) (val : Nat → Int) : modOne m val 6 3 false = true := by kernel_rfl
theorem modOne_3f_7 (m : Int) (val : Nat → Int) : modOne m val 7 3 false = true := by kernel_rfl
end Go.Proofs.YtlpdhgaainkdcaaGreatDoor
