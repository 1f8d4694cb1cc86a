/- TreeLimits at what leaves 2 by 5. -/
import Derived.Test.YtlpdhgaainkdcaaETreOne
set_option linter.unusedSimpArgs false
set_option linter.unusedVariables false
namespace Go.Proofs.Ytlpdhgaainkdcaa
open Go.VE

theorem treOne_2_0 (val : Nat → Int) : treOne val 2 0 = true := by kernel_rfl
theorem treOne_2_1 (val : Nat → Int) : treOne val 2 1 = true := by kernel_rfl
theorem treOne_2_2 (val : Nat → Int) : treOne val 2 2 = true := by kernel_rfl
theorem treOne_2_3 (val : Nat → Int) : treOne val 2 3 = true := by kernel_rfl
theorem treOne_2_4 (val : Nat → Int) : treOne val 2 4 = true := by kernel_rfl
end Go.Proofs.Ytlpdhgaainkdcaa
