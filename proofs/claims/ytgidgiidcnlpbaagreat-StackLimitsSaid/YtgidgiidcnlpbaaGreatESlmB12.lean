/- StackLimits, run by the evaluation: told calls. -/
import Derived.Test.YtgidgiidcnlpbaaGreatESlm0
import Derived.Test.YtgidgiidcnlpbaaGreatESlmB10
set_option linter.unusedSimpArgs false
set_option linter.unusedVariables false
set_option maxRecDepth 100000
namespace Go.Proofs.YtgidgiidcnlpbaaGreat
open Go.VE

def slmo55 : Nat × List AV × AV := (12, [(.lst 8 .full slml19), .nils, (.int .i64 (0)), (.int .i64 (0)), (.int .i64 (4))], (.tup [(.agg [(.lst 1 .unk [[(.int .u8 (49))], [(.int .u8 (50))]]), (.int .i64 (1)), (.int .i64 (0))]), (.bool true)]))
theorem slmo55_run : evCall (slmEnv [slmo51]) 100000 3000 slmo55.1 slmo55.2.1 emptySt keep = some slmo55.2.2 := by kernel_rfl
theorem slmo55_ok : IsTold Tryz.prog noGlob slmo55 := told_of slm_names slm_mixed (c := slmCfg) (OrcsG.more slmo51_ok OrcsG.nil) slmo55 (fun vs w => Tryz.call12 vs w) slmo55_run (by kernel_rfl)
end Go.Proofs.YtgidgiidcnlpbaaGreat
