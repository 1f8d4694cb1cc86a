/- RiscLimits, run by the evaluation: told calls. -/
import Derived.Test.YtgidgiidcnlpbaaGreatERlm0
import Derived.Test.YtgidgiidcnlpbaaGreatERlmB0
set_option linter.unusedSimpArgs false
set_option linter.unusedVariables false
set_option maxRecDepth 100000
namespace Go.Proofs.YtgidgiidcnlpbaaGreat
open Go.VE

def rlmo63 : Nat × List AV × AV := (8, [(.lst 8 .full rlml9), .nils, (.int .i64 (0)), (.int .i64 (0)), (.int .i64 (4))], (.tup [(.agg [(.lst 1 .unk [[(.int .u8 (51))]]), (.int .i64 (2)), (.int .i64 (5))]), (.bool true)]))
theorem rlmo63_run : evCall (rlmEnv [rlmo20, rlmo21, rlmo22, rlmo23, rlmo24, rlmo25, rlmo26, rlmo27, rlmo28, rlmo29, rlmo30, rlmo31, rlmo32, rlmo33, rlmo34, rlmo35, rlmo36, rlmo37, rlmo38, rlmo39, rlmo40, rlmo41, rlmo42, rlmo43, rlmo44, rlmo45, rlmo46, rlmo47, rlmo48, rlmo49, rlmo50, rlmo51, rlmo52, rlmo53, rlmo54, rlmo55, rlmo56, rlmo57, rlmo58, rlmo59, rlmo60, rlmo61, rlmo62]) 100000 3000 rlmo63.1 rlmo63.2.1 emptySt keep = some rlmo63.2.2 := by kernel_rfl
theorem rlmo63_ok : IsTold Tryz.prog noGlob rlmo63 := told_of rlm_names rlm_mixed (c := rlmCfg) (OrcsG.more rlmo20_ok (OrcsG.more rlmo21_ok (OrcsG.more rlmo22_ok (OrcsG.more rlmo23_ok (OrcsG.more rlmo24_ok (OrcsG.more rlmo25_ok (OrcsG.more rlmo26_ok (OrcsG.more rlmo27_ok (OrcsG.more rlmo28_ok (OrcsG.more rlmo29_ok (OrcsG.more rlmo30_ok (OrcsG.more rlmo31_ok (OrcsG.more rlmo32_ok (OrcsG.more rlmo33_ok (OrcsG.more rlmo34_ok (OrcsG.more rlmo35_ok (OrcsG.more rlmo36_ok (OrcsG.more rlmo37_ok (OrcsG.more rlmo38_ok (OrcsG.more rlmo39_ok (OrcsG.more rlmo40_ok (OrcsG.more rlmo41_ok (OrcsG.more rlmo42_ok (OrcsG.more rlmo43_ok (OrcsG.more rlmo44_ok (OrcsG.more rlmo45_ok (OrcsG.more rlmo46_ok (OrcsG.more rlmo47_ok (OrcsG.more rlmo48_ok (OrcsG.more rlmo49_ok (OrcsG.more rlmo50_ok (OrcsG.more rlmo51_ok (OrcsG.more rlmo52_ok (OrcsG.more rlmo53_ok (OrcsG.more rlmo54_ok (OrcsG.more rlmo55_ok (OrcsG.more rlmo56_ok (OrcsG.more rlmo57_ok (OrcsG.more rlmo58_ok (OrcsG.more rlmo59_ok (OrcsG.more rlmo60_ok (OrcsG.more rlmo61_ok (OrcsG.more rlmo62_ok OrcsG.nil))))))))))))))))))))))))))))))))))))))))))) rlmo63 (fun vs w => Tryz.call8 vs w) rlmo63_run (by kernel_rfl)
def rlmo64 : Nat × List AV × AV := (5, [], (.bool true))
theorem rlmo64_run : evCall (rlmEnv [rlmo19, rlmo63]) 100000 3000 rlmo64.1 rlmo64.2.1 emptySt keep = some rlmo64.2.2 := by kernel_rfl
theorem rlmo64_ok : IsTold Tryz.prog noGlob rlmo64 := told_of rlm_names rlm_mixed (c := rlmCfg) (OrcsG.more rlmo19_ok (OrcsG.more rlmo63_ok OrcsG.nil)) rlmo64 (fun vs w => Tryz.call5 vs w) rlmo64_run (by kernel_rfl)
end Go.Proofs.YtgidgiidcnlpbaaGreat
