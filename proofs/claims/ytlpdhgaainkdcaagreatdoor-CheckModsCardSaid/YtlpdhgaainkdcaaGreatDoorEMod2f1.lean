/- CheckMods at use % 4 = 2, imports = false: masks 4 to 7. -/
import Derived.Test.YtlpdhgaainkdcaaGreatDoorEModOne
set_option linter.unusedSimpArgs false
set_option linter.unusedVariables false
namespace Go.Proofs.YtlpdhgaainkdcaaGreatDoor
open Go.VE

theorem modOne_2f_4 (m : Int) (val : Nat → Int) : modOne m val 4 2 false = true := by kernel_rfl
theorem modOne_2f_5 (m : Int) (val : Nat → Int) : modOne m val 5 2 false = true := by kernel_rfl
theorem modOne_2f_6 (m : Int) (val : Nat → Int) : modOne m val 6 2 false = true := by kernel_rfl
theorem modOne_2f_7 (m : Int) (val : Nat → Int) : modOne m val 7 2 false = true := by kernel_rfl
end Go.Proofs.YtlpdhgaainkdcaaGreatDoor
