/- CheckMods at use % 4 = 1, imports = true: masks 4 to 7. -/
import Derived.Test.YtlpdhgaainkdcaaGreatDoorEModOne
set_option linter.unusedSimpArgs false
set_option linter.unusedVariables false
namespace Go.Proofs.YtlpdhgaainkdcaaGreatDoor
open Go.VE

theorem modOne_1t_4 (m : Int) (val : Nat → Int) : modOne m val 4 1 true = true := by kernel_rfl
theorem modOne_1t_5 (m : Int) (val : Nat → Int) : modOne m val 5 1 true = true := by kernel_rfl
theorem modOne_1t_6 (m : Int) (val : Nat → Int) : modOne m val 6 1 true = true := by kernel_rfl
theorem modOne_1t_7 (m : Int) (val : Nat → Int) : modOne m val 7 1 true = true := by kernel_rfl
end Go.Proofs.YtlpdhgaainkdcaaGreatDoor
