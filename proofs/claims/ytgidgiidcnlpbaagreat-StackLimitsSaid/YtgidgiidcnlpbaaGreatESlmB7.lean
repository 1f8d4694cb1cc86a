/- StackLimits, run by the evaluation: told calls. -/
import Derived.Test.YtgidgiidcnlpbaaGreatESlm0
set_option linter.unusedSimpArgs false
set_option linter.unusedVariables false
set_option maxRecDepth 100000
namespace Go.Proofs.YtgidgiidcnlpbaaGreat
open Go.VE

def slmo41 : Nat × List AV × AV := (20, [(.int .i64 (65535)), (.lst 8 .full slml17)], (.tup [(.lst 2 .unk slml25), (.int .i64 (65540)), (.int .i64 (65538)), (.int .i64 (0))]))
theorem slmo41_run : evCall (slmEnv [slmo38]) 100000 3000 slmo41.1 slmo41.2.1 emptySt keep = some slmo41.2.2 := by kernel_rfl
theorem slmo41_ok : IsTold Tryz.prog noGlob slmo41 := told_of slm_names slm_mixed (c := slmCfg) (OrcsG.more slmo38_ok OrcsG.nil) slmo41 (fun vs w => Tryz.call20 vs w) slmo41_run (by kernel_rfl)
def slmo42 : Nat × List AV × AV := (11, [(.lst 8 .full slml17), (.int .i64 (65535))], (.int .i64 (0)))
theorem slmo42_run : evCall (slmEnv [slmo41]) 100000 3000 slmo42.1 slmo42.2.1 emptySt keep = some slmo42.2.2 := by kernel_rfl
theorem slmo42_ok : IsTold Tryz.prog noGlob slmo42 := told_of slm_names slm_mixed (c := slmCfg) (OrcsG.more slmo41_ok OrcsG.nil) slmo42 (fun vs w => Tryz.call11 vs w) slmo42_run (by kernel_rfl)
end Go.Proofs.YtgidgiidcnlpbaaGreat
