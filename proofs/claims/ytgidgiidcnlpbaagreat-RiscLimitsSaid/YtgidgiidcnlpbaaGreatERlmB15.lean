/- RiscLimits, run by the evaluation: told calls. -/
import Derived.Test.YtgidgiidcnlpbaaGreatERlm0
import Derived.Test.YtgidgiidcnlpbaaGreatERlmB14
set_option linter.unusedSimpArgs false
set_option linter.unusedVariables false
set_option maxRecDepth 100000
namespace Go.Proofs.YtgidgiidcnlpbaaGreat
open Go.VE

def rlmo126 : Nat × List AV × AV := (6, [(.str rlml7), .nils], (.tup [(.agg rlml22), (.int .i64 (0))]))
theorem rlmo126_run : evCall (rlmEnv [rlmo125]) 100000 3000 rlmo126.1 rlmo126.2.1 emptySt keep = some rlmo126.2.2 := by kernel_rfl
theorem rlmo126_ok : IsTold Tryz.prog noGlob rlmo126 := told_of rlm_names rlm_mixed (c := rlmCfg) (OrcsG.more rlmo125_ok OrcsG.nil) rlmo126 (fun vs w => Tryz.call6 vs w) rlmo126_run (by kernel_rfl)
end Go.Proofs.YtgidgiidcnlpbaaGreat
