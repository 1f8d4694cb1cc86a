/- TreeLimits at what leaves 1 by 5. -/
import Derived.Test.YtlpdhgaainkdcaaETreOne
set_option linter.unusedSimpArgs false
set_option linter.unusedVariables false
namespace Go.Proofs.Ytlpdhgaainkdcaa
open Go.VE

theorem treOne_1_0 (val : Nat → Int) : treOne val 1 0 = true := by kernel_rfl
theorem treOne_1_1 (val : Nat → Int) : treOne val 1 1 = true := by kernel_rfl
theorem treOne_1_2 (val : Nat → Int) : treOne val 1 2 = true := by kernel_rfl
theorem treOne_1_3 (val : Nat → Int) : treOne val 1 3 = true := by kernel_rfl
theorem treOne_1_4 (val : Nat → Int) : treOne val 1 4 = true := by kernel_rfl
end Go.Proofs.Ytlpdhgaainkdcaa
