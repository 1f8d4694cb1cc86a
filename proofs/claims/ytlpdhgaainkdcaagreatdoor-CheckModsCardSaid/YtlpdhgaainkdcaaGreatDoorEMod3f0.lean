/- CheckMods at use % 4 = 3, imports = false: masks 0 to 3. -/
import Derived.Test.YtlpdhgaainkdcaaGreatDoorEModOne
set_option linter.unusedSimpArgs false
set_option linter.unusedVariables false
namespace Go.Proofs.YtlpdhgaainkdcaaGreatDoor
open Go.VE

theorem modOne_3f_0 (m : Int) (val : Nat → Int) : modOne m val 0 3 false = true := by kernel_rfl
theorem modOne_3f_1 (m : Int) (val : Nat → Int) : modOne m val 1 3 false = true := by kernel_rfl
theorem modOne_3f_2 (m : Int) (val : Nat → Int) : modOne m val 2 3 false = true := by kernel_rfl
theorem modOne_3f_3 (m : Int) (val : Nat → Int) : modOne m val 3 3 false = true := by kernel_rfl
end Go.Proofs.YtlpdhgaainkdcaaGreatDoor
