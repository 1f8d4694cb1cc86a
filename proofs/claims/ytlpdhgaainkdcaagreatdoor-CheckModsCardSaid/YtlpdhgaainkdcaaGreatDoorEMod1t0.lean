/- CheckMods at use % 4 = 1, imports = true: masks 0 to 3. -/
import Derived.Test.YtlpdhgaainkdcaaGreatDoorEModOne
set_option linter.unusedSimpArgs false
set_option linter.unusedVariables false
namespace Go.Proofs.YtlpdhgaainkdcaaGreatDoor
open Go.VE

theorem modOne_1t_0 (m : Int) (val : Nat → Int) : modOne m val 0 1 true = true := by kernel_rfl
theorem modOne_1t_1 (m : Int) (val : Nat → Int) : modOne m val 1 1 true = true := by kernel_rfl
theorem modOne_1t_2 (m : Int) (val : Nat → Int) : modOne m val 2 1 true = true := by kernel_rfl
theorem modOne_1t_3 (m : Int) (val : Nat → Int) : modOne m val 3 1 true = true := by kernel_rfl
end Go.Proofs.YtlpdhgaainkdcaaGreatDoor
