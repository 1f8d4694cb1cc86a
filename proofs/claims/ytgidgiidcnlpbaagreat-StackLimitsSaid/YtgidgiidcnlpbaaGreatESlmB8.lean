/- StackLimits, run by the evaluation: told calls. -/
import Derived.Test.YtgidgiidcnlpbaaGreatESlm0
import Derived.Test.YtgidgiidcnlpbaaGreatESlmB6
set_option linter.unusedSimpArgs false
set_option linter.unusedVariables false
set_option maxRecDepth 100000
namespace Go.Proofs.YtgidgiidcnlpbaaGreat
open Go.VE

def slmo43 : Nat × List AV × AV := (12, [(.lst 8 .full slml17), .nils, (.int .i64 (0)), (.int .i64 (0)), (.int .i64 (4))], (.tup [(.agg [(.lst 1 .unk [[(.int .u8 (49))], [(.int .u8 (49))]]), (.int .i64 (1)), (.int .i64 (0))]), (.bool true)]))
theorem slmo43_run : evCall (slmEnv [slmo39]) 100000 3000 slmo43.1 slmo43.2.1 emptySt keep = some slmo43.2.2 := by kernel_rfl
theorem slmo43_ok : IsTold Tryz.prog noGlob slmo43 := told_of slm_names slm_mixed (c := slmCfg) (OrcsG.more slmo39_ok OrcsG.nil) slmo43 (fun vs w => Tryz.call12 vs w) slmo43_run (by kernel_rfl)
end Go.Proofs.YtgidgiidcnlpbaaGreat
