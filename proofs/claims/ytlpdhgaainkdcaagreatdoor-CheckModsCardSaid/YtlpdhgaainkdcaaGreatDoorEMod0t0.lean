/- CheckMods at use % 4 = 0, imports = true: masks 0 to 3. -/
import Derived.Test.YtlpdhgaainkdcaaGreatDoorEModOne
set_option linter.unusedSimpArgs false
set_option linter.unusedVariables false
namespace Go.Proofs.YtlpdhgaainkdcaaGreatDoor
open Go.VE

theorem modOne_0t_0 (m : Int) (val : Nat → Int) : modOne m val 0 0 true = true := by kernel_rfl
theorem modOne_0t_1 (m : Int) (val : Nat → Int) : modOne m val 1 0 true = true := by kernel_rfl
theorem modOne_0t_2 (m : Int) (val : Nat → Int) : modOne m val 2 0 true = true := by kernel_rfl
theorem modOne_0t_3 (m : Int) (val : Nat → Int) : modOne m val 3 0 true = true := by kernel_rfl
end Go.Proofs.YtlpdhgaainkdcaaGreatDoor
