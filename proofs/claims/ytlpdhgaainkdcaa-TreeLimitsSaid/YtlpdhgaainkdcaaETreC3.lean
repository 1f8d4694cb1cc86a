/- TreeLimits at what leaves 3 by 5. -/
import Derived.Test.YtlpdhgaainkdcaaETreOne
set_option linter.unusedSimpArgs false
set_option linter.unusedVariables false
namespace Go.Proofs.Ytlpdhgaainkdcaa
open Go.VE

theorem treOne_3_0 (val : Nat → Int) : treOne val 3 0 = true := by kernel_rfl
theorem treOne_3_1 (val : Nat → Int) : treOne val 3 1 = true := by kernel_rfl
theorem treOne_3_2 (val : Nat → Int) : treOne val 3 2 = true := by kernel_rfl
theorem treOne_3_3 (val : Nat → Int) : treOne val 3 3 = true := by kernel_rfl
theorem treOne_3_4 (val : Nat → Int) : treOne val 3 4 = true := by kernel_rfl
end Go.Proofs.Ytlpdhgaainkdcaa
