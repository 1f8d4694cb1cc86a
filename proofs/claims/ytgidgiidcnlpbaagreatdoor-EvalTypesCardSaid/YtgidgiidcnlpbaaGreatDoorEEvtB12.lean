/- EvalTypes, run by the evaluation: told calls. -/
import Derived.Test.YtgidgiidcnlpbaaGreatDoorEEvt0
set_option linter.unusedSimpArgs false
set_option linter.unusedVariables false
set_option maxRecDepth 100000
namespace Go.Proofs.YtgidgiidcnlpbaaGreatDoor
open Go.VE

def evto49 : Nat × List AV × AV := (10, evtl27, (.agg evtl6))
theorem evto49_run : evCall (evtEnv []) 100000 3000 evto49.1 evto49.2.1 emptySt keep = some evto49.2.2 := by kernel_rfl
theorem evto49_ok : IsTold Tryz.prog noGlob evto49 := told_of evt_names evt_mixed (c := evtCfg) OrcsG.nil evto49 (fun vs w => Tryz.call10 vs w) evto49_run (by kernel_rfl)
end Go.Proofs.YtgidgiidcnlpbaaGreatDoor
