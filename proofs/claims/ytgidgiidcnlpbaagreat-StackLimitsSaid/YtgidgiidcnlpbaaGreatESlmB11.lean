/- StackLimits, run by the evaluation: told calls. -/
import Derived.Test.YtgidgiidcnlpbaaGreatESlm0
set_option linter.unusedSimpArgs false
set_option linter.unusedVariables false
set_option maxRecDepth 100000
namespace Go.Proofs.YtgidgiidcnlpbaaGreat
open Go.VE

def slmo53 : Nat × List AV × AV := (20, [(.int .i64 (65535)), (.lst 8 .full slml19)], (.tup [(.lst 2 .unk slml26), (.int .i64 (65540)), (.int .i64 (65538)), (.int .i64 (0))]))
theorem slmo53_run : evCall (slmEnv [slmo50]) 100000 3000 slmo53.1 slmo53.2.1 emptySt keep = some slmo53.2.2 := by kernel_rfl
theorem slmo53_ok : IsTold Tryz.prog noGlob slmo53 := told_of slm_names slm_mixed (c := slmCfg) (OrcsG.more slmo50_ok OrcsG.nil) slmo53 (fun vs w => Tryz.call20 vs w) slmo53_run (by kernel_rfl)
def slmo54 : Nat × List AV × AV := (11, [(.lst 8 .full slml19), (.int .i64 (65535))], (.int .i64 (0)))
theorem slmo54_run : evCall (slmEnv [slmo53]) 100000 3000 slmo54.1 slmo54.2.1 emptySt keep = some slmo54.2.2 := by kernel_rfl
theorem slmo54_ok : IsTold Tryz.prog noGlob slmo54 := told_of slm_names slm_mixed (c := slmCfg) (OrcsG.more slmo53_ok OrcsG.nil) slmo54 (fun vs w => Tryz.call11 vs w) slmo54_run (by kernel_rfl)
end Go.Proofs.YtgidgiidcnlpbaaGreat
