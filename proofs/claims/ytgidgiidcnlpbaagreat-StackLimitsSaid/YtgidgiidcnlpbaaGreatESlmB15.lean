/- StackLimits, run by the evaluation: told calls. -/
import Derived.Test.YtgidgiidcnlpbaaGreatESlm0
import Derived.Test.YtgidgiidcnlpbaaGreatESlmB14
set_option linter.unusedSimpArgs false
set_option linter.unusedVariables false
set_option maxRecDepth 100000
namespace Go.Proofs.YtgidgiidcnlpbaaGreat
open Go.VE

def slmo66 : Nat × List AV × AV := (6, [(.str slml7), .nils], (.tup [(.agg slml22), (.int .i64 (0))]))
theorem slmo66_run : evCall (slmEnv [slmo65]) 100000 3000 slmo66.1 slmo66.2.1 emptySt keep = some slmo66.2.2 := by kernel_rfl
theorem slmo66_ok : IsTold Tryz.prog noGlob slmo66 := told_of slm_names slm_mixed (c := slmCfg) (OrcsG.more slmo65_ok OrcsG.nil) slmo66 (fun vs w => Tryz.call6 vs w) slmo66_run (by kernel_rfl)
end Go.Proofs.YtgidgiidcnlpbaaGreat
