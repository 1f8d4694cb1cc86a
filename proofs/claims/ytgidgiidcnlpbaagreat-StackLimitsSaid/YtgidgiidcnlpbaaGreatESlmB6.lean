/- StackLimits, run by the evaluation: told calls. -/
import Derived.Test.YtgidgiidcnlpbaaGreatESlm0
import Derived.Test.YtgidgiidcnlpbaaGreatESlmB5
set_option linter.unusedSimpArgs false
set_option linter.unusedVariables false
set_option maxRecDepth 100000
namespace Go.Proofs.YtgidgiidcnlpbaaGreat
open Go.VE

def slmo37 : Nat × List AV × AV := (6, [(.str slml4), .nils], (.tup [(.agg slml16), (.int .i64 (0))]))
theorem slmo37_run : evCall (slmEnv [slmo36]) 100000 3000 slmo37.1 slmo37.2.1 emptySt keep = some slmo37.2.2 := by kernel_rfl
theorem slmo37_ok : IsTold Tryz.prog noGlob slmo37 := told_of slm_names slm_mixed (c := slmCfg) (OrcsG.more slmo36_ok OrcsG.nil) slmo37 (fun vs w => Tryz.call6 vs w) slmo37_run (by kernel_rfl)
def slmo39 : Nat × List AV × AV := (20, [(.int .i64 (0)), (.lst 8 .full slml17)], (.tup [(.lst 2 .unk slml25), (.int .i64 (5)), (.int .i64 (3)), (.int .i64 (0))]))
theorem slmo39_run : evCall (slmEnv [slmo38]) 100000 3000 slmo39.1 slmo39.2.1 emptySt keep = some slmo39.2.2 := by kernel_rfl
theorem slmo39_ok : IsTold Tryz.prog noGlob slmo39 := told_of slm_names slm_mixed (c := slmCfg) (OrcsG.more slmo38_ok OrcsG.nil) slmo39 (fun vs w => Tryz.call20 vs w) slmo39_run (by kernel_rfl)
def slmo40 : Nat × List AV × AV := (11, [(.lst 8 .full slml17), (.int .i64 (0))], (.int .i64 (0)))
theorem slmo40_run : evCall (slmEnv [slmo39]) 100000 3000 slmo40.1 slmo40.2.1 emptySt keep = some slmo40.2.2 := by kernel_rfl
theorem slmo40_ok : IsTold Tryz.prog noGlob slmo40 := told_of slm_names slm_mixed (c := slmCfg) (OrcsG.more slmo39_ok OrcsG.nil) slmo40 (fun vs w => Tryz.call11 vs w) slmo40_run (by kernel_rfl)
end Go.Proofs.YtgidgiidcnlpbaaGreat
