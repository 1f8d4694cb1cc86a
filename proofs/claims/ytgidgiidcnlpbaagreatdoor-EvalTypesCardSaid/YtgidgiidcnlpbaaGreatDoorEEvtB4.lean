/- EvalTypes, run by the evaluation: told calls. -/
import Derived.Test.YtgidgiidcnlpbaaGreatDoorEEvt0
set_option linter.unusedSimpArgs false
set_option linter.unusedVariables false
set_option maxRecDepth 100000
namespace Go.Proofs.YtgidgiidcnlpbaaGreatDoor
open Go.VE

def evto41 : Nat × List AV × AV := (10, evtl23, (.agg evtl4))
theorem evto41_run : evCall (evtEnv []) 100000 3000 evto41.1 evto41.2.1 emptySt keep = some evto41.2.2 := by kernel_rfl
theorem evto41_ok : IsTold Tryz.prog noGlob evto41 := told_of evt_names evt_mixed (c := evtCfg) OrcsG.nil evto41 (fun vs w => Tryz.call10 vs w) evto41_run (by kernel_rfl)
end Go.Proofs.YtgidgiidcnlpbaaGreatDoor
