/- StackLimits, run by the evaluation: told calls. -/
import Derived.Test.YtgidgiidcnlpbaaGreatESlm0
import Derived.Test.YtgidgiidcnlpbaaGreatESlmB3
set_option linter.unusedSimpArgs false
set_option linter.unusedVariables false
set_option maxRecDepth 100000
namespace Go.Proofs.YtgidgiidcnlpbaaGreat
open Go.VE

def slmo31 : Nat × List AV × AV := (12, [(.lst 8 .full slml14), .nils, (.int .i64 (0)), (.int .i64 (0)), (.int .i64 (4))], (.tup [(.agg [(.lst 1 .unk [[(.int .u8 (49))], [(.int .u8 (48))]]), (.int .i64 (1)), (.int .i64 (0))]), (.bool true)]))
theorem slmo31_run : evCall (slmEnv [slmo27]) 100000 3000 slmo31.1 slmo31.2.1 emptySt keep = some slmo31.2.2 := by kernel_rfl
theorem slmo31_ok : IsTold Tryz.prog noGlob slmo31 := told_of slm_names slm_mixed (c := slmCfg) (OrcsG.more slmo27_ok OrcsG.nil) slmo31 (fun vs w => Tryz.call12 vs w) slmo31_run (by kernel_rfl)
end Go.Proofs.YtgidgiidcnlpbaaGreat
