/- CheckMods at use % 4 = 3, imports = true: masks 4 to 7. -/
import Derived.Test.YtlpdhgaainkdcaaGreatDoorEModOne
set_option linter.unusedSimpArgs false
set_option linter.unusedVariables false
namespace Go.Proofs.YtlpdhgaainkdcaaGreatDoor
open Go.VE

theorem modOne_3t_4 (m : Int) (val : Nat → Int) : modOne m val 4 3 true = true := by kernel_rfl
theorem modOne_3t_5 (m : Int) (val : Nat → Int) : modOne m val 5 3 true = true := by kernel_rfl
theorem modOne_3t_6 (m : Int) (val : Nat → Int) : modOne m val 6 3 true = true := by kernel_rfl
theorem modOne_3t_7 (m : Int) (val : Nat → Int) : modOne m val 7 3 true = true := by kernel_rfl
end Go.Proofs.YtlpdhgaainkdcaaGreatDoor
