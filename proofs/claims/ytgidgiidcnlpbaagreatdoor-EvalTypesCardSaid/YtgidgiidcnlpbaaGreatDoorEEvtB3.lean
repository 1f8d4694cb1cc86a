/- EvalTypes, run by the evaluation: told calls. -/
import Derived.Test.YtgidgiidcnlpbaaGreatDoorEEvt0
import Derived.Test.YtgidgiidcnlpbaaGreatDoorEEvtB2
set_option linter.unusedSimpArgs false
set_option linter.unusedVariables false
set_option maxRecDepth 100000
namespace Go.Proofs.YtgidgiidcnlpbaaGreatDoor
open Go.VE

def evto40 : Nat × List AV × AV := (9, [(.str evtl18), .nils], (.tup [(.agg evtl22), (.int .i64 (0))]))
theorem evto40_run : evCall (evtEnv [evto39]) 100000 3000 evto40.1 evto40.2.1 emptySt keep = some evto40.2.2 := by kernel_rfl
theorem evto40_ok : IsTold Tryz.prog noGlob evto40 := told_of evt_names evt_mixed (c := evtCfg) (OrcsG.more evto39_ok OrcsG.nil) evto40 (fun vs w => Tryz.call9 vs w) evto40_run (by kernel_rfl)
end Go.Proofs.YtgidgiidcnlpbaaGreatDoor
