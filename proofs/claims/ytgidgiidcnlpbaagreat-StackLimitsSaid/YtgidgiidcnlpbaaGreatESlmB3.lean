/- StackLimits, run by the evaluation: told calls. -/
import Derived.Test.YtgidgiidcnlpbaaGreatESlm0
set_option linter.unusedSimpArgs false
set_option linter.unusedVariables false
set_option maxRecDepth 100000
namespace Go.Proofs.YtgidgiidcnlpbaaGreat
open Go.VE

def slmo27 : Nat × List AV × AV := (20, [(.int .i64 (0)), (.lst 8 .full slml14)], (.tup [(.lst 2 .unk slml24), (.int .i64 (5)), (.int .i64 (3)), (.int .i64 (0))]))
theorem slmo27_run : evCall (slmEnv [slmo26]) 100000 3000 slmo27.1 slmo27.2.1 emptySt keep = some slmo27.2.2 := by kernel_rfl
theorem slmo27_ok : IsTold Tryz.prog noGlob slmo27 := told_of slm_names slm_mixed (c := slmCfg) (OrcsG.more slmo26_ok OrcsG.nil) slmo27 (fun vs w => Tryz.call20 vs w) slmo27_run (by kernel_rfl)
def slmo28 : Nat × List AV × AV := (11, [(.lst 8 .full slml14), (.int .i64 (0))], (.int .i64 (0)))
theorem slmo28_run : evCall (slmEnv [slmo27]) 100000 3000 slmo28.1 slmo28.2.1 emptySt keep = some slmo28.2.2 := by kernel_rfl
theorem slmo28_ok : IsTold Tryz.prog noGlob slmo28 := told_of slm_names slm_mixed (c := slmCfg) (OrcsG.more slmo27_ok OrcsG.nil) slmo28 (fun vs w => Tryz.call11 vs w) slmo28_run (by kernel_rfl)
def slmo29 : Nat × List AV × AV := (20, [(.int .i64 (65535)), (.lst 8 .full slml14)], (.tup [(.lst 2 .unk slml24), (.int .i64 (65540)), (.int .i64 (65538)), (.int .i64 (0))]))
theorem slmo29_run : evCall (slmEnv [slmo26]) 100000 3000 slmo29.1 slmo29.2.1 emptySt keep = some slmo29.2.2 := by kernel_rfl
theorem slmo29_ok : IsTold Tryz.prog noGlob slmo29 := told_of slm_names slm_mixed (c := slmCfg) (OrcsG.more slmo26_ok OrcsG.nil) slmo29 (fun vs w => Tryz.call20 vs w) slmo29_run (by kernel_rfl)
def slmo30 : Nat × List AV × AV := (11, [(.lst 8 .full slml14), (.int .i64 (65535))], (.int .i64 (0)))
theorem slmo30_run : evCall (slmEnv [slmo29]) 100000 3000 slmo30.1 slmo30.2.1 emptySt keep = some slmo30.2.2 := by kernel_rfl
theorem slmo30_ok : IsTold Tryz.prog noGlob slmo30 := told_of slm_names slm_mixed (c := slmCfg) (OrcsG.more slmo29_ok OrcsG.nil) slmo30 (fun vs w => Tryz.call11 vs w) slmo30_run (by kernel_rfl)
end Go.Proofs.YtgidgiidcnlpbaaGreat
