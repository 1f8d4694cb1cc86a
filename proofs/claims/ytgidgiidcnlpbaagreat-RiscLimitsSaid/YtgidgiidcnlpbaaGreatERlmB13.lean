/- RiscLimits, run by the evaluation: told calls. -/
import Derived.Test.YtgidgiidcnlpbaaGreatERlm0
import Derived.Test.YtgidgiidcnlpbaaGreatERlmB12
set_option linter.unusedSimpArgs false
set_option linter.unusedVariables false
set_option maxRecDepth 100000
namespace Go.Proofs.YtgidgiidcnlpbaaGreat
open Go.VE

def rlmo122 : Nat × List AV × AV := (6, [(.str rlml6), .nils], (.tup [(.agg rlml20), (.int .i64 (0))]))
theorem rlmo122_run : evCall (rlmEnv [rlmo121]) 100000 3000 rlmo122.1 rlmo122.2.1 emptySt keep = some rlmo122.2.2 := by kernel_rfl
theorem rlmo122_ok : IsTold Tryz.prog noGlob rlmo122 := told_of rlm_names rlm_mixed (c := rlmCfg) (OrcsG.more rlmo121_ok OrcsG.nil) rlmo122 (fun vs w => Tryz.call6 vs w) rlmo122_run (by kernel_rfl)
end Go.Proofs.YtgidgiidcnlpbaaGreat
