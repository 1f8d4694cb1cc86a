/- TreeLimits at what leaves 0 by 5. -/
import Derived.Test.YtlpdhgaainkdcaaETreOne
set_option linter.unusedSimpArgs false
set_option linter.unusedVariables false
namespace Go.Proofs.Ytlpdhgaainkdcaa
open Go.VE

theorem treOne_0_0 (val : Nat → Int) : treOne val 0 0 = true := by kernel_rfl
theorem treOne_0_1 (val : Nat → Int) : treOne val 0 1 = true := by kernel_rfl
theorem treOne_0_2 (val : Nat → Int) : treOne val 0 2 = true := by kernel_rfl
theorem treOne_0_3 (val : Nat → Int) : treOne val 0 3 = true := by kernel_rfl
theorem treOne_0_4 (val : Nat → Int) : treOne val 0 4 = true := by kernel_rfl
end Go.Proofs.Ytlpdhgaainkdcaa
