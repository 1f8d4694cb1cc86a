/- TreeLimits at what leaves 4 by 5. -/
import Derived.Test.YtlpdhgaainkdcaaETreOne
set_option linter.unusedSimpArgs false
set_option linter.unusedVariables false
namespace Go.Proofs.Ytlpdhgaainkdcaa
open Go.VE

theorem treOne_4_0 (val : Nat → Int) : treOne val 4 0 = true := by kernel_rfl
theorem treOne_4_1 (val : Nat → Int) : treOne val 4 1 = true := by kernel_rfl
theorem treOne_4_2 (val : Nat → Int) : treOne val 4 2 = true := by kernel_rfl
theorem treOne_4_3 (val : Nat → Int) : treOne val 4 3 = true := by kernel_rfl
theorem treOne_4_4 (val : Nat → Int) : treOne val 4 4 = true := by kernel_rfl
end Go.Proofs.Ytlpdhgaainkdcaa
