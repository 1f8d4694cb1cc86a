/- StackLimits, run by the evaluation: told calls. -/
import Derived.Test.YtgidgiidcnlpbaaGreatESlm0
import Derived.Test.YtgidgiidcnlpbaaGreatESlmB0
set_option linter.unusedSimpArgs false
set_option linter.unusedVariables false
set_option maxRecDepth 100000
namespace Go.Proofs.YtgidgiidcnlpbaaGreat
open Go.VE

def slmo22 : Nat × List AV × AV := (12, [(.lst 8 .full slml9), .nils, (.int .i64 (0)), (.int .i64 (0)), (.int .i64 (4))], (.tup [(.agg [(.lst 1 .unk [[(.int .u8 (51))]]), (.int .i64 (2)), (.int .i64 (5))]), (.bool true)]))
theorem slmo22_run : evCall (slmEnv [slmo21]) 100000 3000 slmo22.1 slmo22.2.1 emptySt keep = some slmo22.2.2 := by kernel_rfl
theorem slmo22_ok : IsTold Tryz.prog noGlob slmo22 := told_of slm_names slm_mixed (c := slmCfg) (OrcsG.more slmo21_ok OrcsG.nil) slmo22 (fun vs w => Tryz.call12 vs w) slmo22_run (by kernel_rfl)
def slmo23 : Nat × List AV × AV := (10, [], (.bool true))
theorem slmo23_run : evCall (slmEnv [slmo19, slmo22]) 100000 3000 slmo23.1 slmo23.2.1 emptySt keep = some slmo23.2.2 := by kernel_rfl
theorem slmo23_ok : IsTold Tryz.prog noGlob slmo23 := told_of slm_names slm_mixed (c := slmCfg) (OrcsG.more slmo19_ok (OrcsG.more slmo22_ok OrcsG.nil)) slmo23 (fun vs w => Tryz.call10 vs w) slmo23_run (by kernel_rfl)
end Go.Proofs.YtgidgiidcnlpbaaGreat
