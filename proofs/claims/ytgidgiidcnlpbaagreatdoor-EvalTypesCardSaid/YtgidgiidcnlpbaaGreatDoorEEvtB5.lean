/- EvalTypes, run by the evaluation: told calls. -/
import Derived.Test.YtgidgiidcnlpbaaGreatDoorEEvt0
set_option linter.unusedSimpArgs false
set_option linter.unusedVariables false
set_option maxRecDepth 100000
namespace Go.Proofs.YtgidgiidcnlpbaaGreatDoor
open Go.VE

def evto42 : Nat × List AV × AV := (12, evtl23, (.agg evtl4))
theorem evto42_run : evCall (evtEnv []) 100000 3000 evto42.1 evto42.2.1 emptySt keep = some evto42.2.2 := by kernel_rfl
theorem evto42_ok : IsTold Tryz.prog noGlob evto42 := told_of evt_names evt_mixed (c := evtCfg) OrcsG.nil evto42 (fun vs w => Tryz.call12 vs w) evto42_run (by kernel_rfl)
end Go.Proofs.YtgidgiidcnlpbaaGreatDoor
