/- CheckMods at use % 4 = 3, imports = true: masks 0 to 3. -/
import Derived.Test.YtlpdhgaainkdcaaGreatDoorEModOne
set_option linter.unusedSimpArgs false
set_option linter.unusedVariables false
namespace Go.Proofs.YtlpdhgaainkdcaaGreatDoor
open Go.VE

theorem modOne_3t_0 (m : Int) (val : Nat → Int) : modOne m val 0 3 true = true := by kernel_rfl
theorem modOne_3t_1 (m : Int) (val : Nat → Int) : modOne m val 1 3 true = true := by kernel_rfl
theorem modOne_3t_2 (m : Int) (val : Nat → Int) : modOne m val 2 3 true = true := by kernel_rfl
theorem modOne_3t_3 (m : Int) (val : Nat → Int) : modOne m val 3 3 true = true := by kernel_rfl
end Go.Proofs.YtlpdhgaainkdcaaGreatDoor
