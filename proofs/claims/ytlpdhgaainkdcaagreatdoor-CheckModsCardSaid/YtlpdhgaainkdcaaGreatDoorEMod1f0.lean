/- CheckMods at use % 4 = 1, imports = false: masks 0 to 3. -/
import Derived.Test.YtlpdhgaainkdcaaGreatDoorEModOne
set_option linter.unusedSimpArgs false
set_option linter.unusedVariables false
namespace Go.Proofs.YtlpdhgaainkdcaaGreatDoor
open Go.VE

theorem modOne_1f_0 (m : Int) (val : Nat → Int) : modOne m val 0 1 false = true := by kernel_rfl
theorem modOne_1f_1 (m : Int) (val : Nat → Int) : modOne m val 1 1 false = true := by kernel_rfl
theorem modOne_1f_2 (m : Int) (val : Nat → Int) : modOne m val 2 1 false = true := by kernel_rfl
theorem modOne_1f_3 (m : Int) (val : Nat → Int) : modOne m val 3 1 false = true := by kernel_rfl
end Go.Proofs.YtlpdhgaainkdcaaGreatDoor
