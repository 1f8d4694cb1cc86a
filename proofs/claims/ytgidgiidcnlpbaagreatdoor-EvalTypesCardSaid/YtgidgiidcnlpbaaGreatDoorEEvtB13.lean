/- EvalTypes, run by the evaluation: told calls. -/
import Derived.Test.YtgidgiidcnlpbaaGreatDoorEEvt0
set_option linter.unusedSimpArgs false
set_option linter.unusedVariables false
set_option maxRecDepth 100000
namespace Go.Proofs.YtgidgiidcnlpbaaGreatDoor
open Go.VE

def evto50 : Nat × List AV × AV := (12, evtl27, (.agg evtl6))
theorem evto50_run : evCall (evtEnv []) 100000 3000 evto50.1 evto50.2.1 emptySt keep = some evto50.2.2 := by kernel_rfl
theorem evto50_ok : IsTold Tryz.prog noGlob evto50 := told_of evt_names evt_mixed (c := evtCfg) OrcsG.nil evto50 (fun vs w => Tryz.call12 vs w) evto50_run (by kernel_rfl)
end Go.Proofs.YtgidgiidcnlpbaaGreatDoor
