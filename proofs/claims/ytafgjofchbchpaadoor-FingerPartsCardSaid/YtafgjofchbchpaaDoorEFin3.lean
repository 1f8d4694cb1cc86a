/- FingerParts, run by the evaluation: what leaves 3 by 6. -/
import Derived.Test.YtafgjofchbchpaaDoorEFin
set_option linter.unusedSimpArgs false
set_option linter.unusedVariables false
namespace Go.Proofs.YtafgjofchbchpaaDoor
theorem finAll_3 (val : Nat → Int) : finAll val 3 = true := by kernel_rfl
end Go.Proofs.YtafgjofchbchpaaDoor
