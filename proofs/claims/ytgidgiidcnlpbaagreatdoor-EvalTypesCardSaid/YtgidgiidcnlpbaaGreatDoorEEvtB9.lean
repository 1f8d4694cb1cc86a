/- EvalTypes, run by the evaluation: told calls. -/
import Derived.Test.YtgidgiidcnlpbaaGreatDoorEEvt0
set_option linter.unusedSimpArgs false
set_option linter.unusedVariables false
set_option maxRecDepth 100000
namespace Go.Proofs.YtgidgiidcnlpbaaGreatDoor
open Go.VE

def evto46 : Nat × List AV × AV := (12, evtl26, (.agg evtl5))
theorem evto46_run : evCall (evtEnv []) 100000 3000 evto46.1 evto46.2.1 emptySt keep = some evto46.2.2 := by kernel_rfl
theorem evto46_ok : IsTold Tryz.prog noGlob evto46 := told_of evt_names evt_mixed (c := evtCfg) OrcsG.nil evto46 (fun vs w => Tryz.call12 vs w) evto46_run (by kernel_rfl)
end Go.Proofs.YtgidgiidcnlpbaaGreatDoor
