/- EvalTypes, run by the evaluation: told calls. -/
import Derived.Test.YtgidgiidcnlpbaaGreatDoorEEvt0
import Derived.Test.YtgidgiidcnlpbaaGreatDoorEEvtB10
set_option linter.unusedSimpArgs false
set_option linter.unusedVariables false
set_option maxRecDepth 100000
namespace Go.Proofs.YtgidgiidcnlpbaaGreatDoor
open Go.VE

def evto48 : Nat × List AV × AV := (9, [(.str evtl21), .nils], (.tup [(.agg evtl25), (.int .i64 (0))]))
theorem evto48_run : evCall (evtEnv [evto47]) 100000 3000 evto48.1 evto48.2.1 emptySt keep = some evto48.2.2 := by kernel_rfl
theorem evto48_ok : IsTold Tryz.prog noGlob evto48 := told_of evt_names evt_mixed (c := evtCfg) (OrcsG.more evto47_ok OrcsG.nil) evto48 (fun vs w => Tryz.call9 vs w) evto48_run (by kernel_rfl)
end Go.Proofs.YtgidgiidcnlpbaaGreatDoor
