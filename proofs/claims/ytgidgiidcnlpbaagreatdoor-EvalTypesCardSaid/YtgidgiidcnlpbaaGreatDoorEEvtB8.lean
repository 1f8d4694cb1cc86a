/- EvalTypes, run by the evaluation: told calls. -/
import Derived.Test.YtgidgiidcnlpbaaGreatDoorEEvt0
set_option linter.unusedSimpArgs false
set_option linter.unusedVariables false
set_option maxRecDepth 100000
namespace Go.Proofs.YtgidgiidcnlpbaaGreatDoor
open Go.VE

def evto45 : Nat × List AV × AV := (10, evtl26, (.agg evtl5))
theorem evto45_run : evCall (evtEnv []) 100000 3000 evto45.1 evto45.2.1 emptySt keep = some evto45.2.2 := by kernel_rfl
theorem evto45_ok : IsTold Tryz.prog noGlob evto45 := told_of evt_names evt_mixed (c := evtCfg) OrcsG.nil evto45 (fun vs w => Tryz.call10 vs w) evto45_run (by kernel_rfl)
end Go.Proofs.YtgidgiidcnlpbaaGreatDoor
