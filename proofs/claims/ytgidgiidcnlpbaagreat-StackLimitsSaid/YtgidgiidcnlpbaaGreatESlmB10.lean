/- StackLimits, run by the evaluation: told calls. -/
import Derived.Test.YtgidgiidcnlpbaaGreatESlm0
import Derived.Test.YtgidgiidcnlpbaaGreatESlmB9
set_option linter.unusedSimpArgs false
set_option linter.unusedVariables false
set_option maxRecDepth 100000
namespace Go.Proofs.YtgidgiidcnlpbaaGreat
open Go.VE

def slmo49 : Nat × List AV × AV := (6, [(.str slml5), .nils], (.tup [(.agg slml18), (.int .i64 (0))]))
theorem slmo49_run : evCall (slmEnv [slmo48]) 100000 3000 slmo49.1 slmo49.2.1 emptySt keep = some slmo49.2.2 := by kernel_rfl
theorem slmo49_ok : IsTold Tryz.prog noGlob slmo49 := told_of slm_names slm_mixed (c := slmCfg) (OrcsG.more slmo48_ok OrcsG.nil) slmo49 (fun vs w => Tryz.call6 vs w) slmo49_run (by kernel_rfl)
def slmo51 : Nat × List AV × AV := (20, [(.int .i64 (0)), (.lst 8 .full slml19)], (.tup [(.lst 2 .unk slml26), (.int .i64 (5)), (.int .i64 (3)), (.int .i64 (0))]))
theorem slmo51_run : evCall (slmEnv [slmo50]) 100000 3000 slmo51.1 slmo51.2.1 emptySt keep = some slmo51.2.2 := by kernel_rfl
theorem slmo51_ok : IsTold Tryz.prog noGlob slmo51 := told_of slm_names slm_mixed (c := slmCfg) (OrcsG.more slmo50_ok OrcsG.nil) slmo51 (fun vs w => Tryz.call20 vs w) slmo51_run (by kernel_rfl)
def slmo52 : Nat × List AV × AV := (11, [(.lst 8 .full slml19), (.int .i64 (0))], (.int .i64 (0)))
theorem slmo52_run : evCall (slmEnv [slmo51]) 100000 3000 slmo52.1 slmo52.2.1 emptySt keep = some slmo52.2.2 := by kernel_rfl
theorem slmo52_ok : IsTold Tryz.prog noGlob slmo52 := told_of slm_names slm_mixed (c := slmCfg) (OrcsG.more slmo51_ok OrcsG.nil) slmo52 (fun vs w => Tryz.call11 vs w) slmo52_run (by kernel_rfl)
end Go.Proofs.YtgidgiidcnlpbaaGreat
