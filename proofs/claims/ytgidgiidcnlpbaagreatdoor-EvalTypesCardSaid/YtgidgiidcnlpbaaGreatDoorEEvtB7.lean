/- EvalTypes, run by the evaluation: told calls. -/
import Derived.Test.YtgidgiidcnlpbaaGreatDoorEEvt0
import Derived.Test.YtgidgiidcnlpbaaGreatDoorEEvtB6
set_option linter.unusedSimpArgs false
set_option linter.unusedVariables false
set_option maxRecDepth 100000
namespace Go.Proofs.YtgidgiidcnlpbaaGreatDoor
open Go.VE

def evto44 : Nat × List AV × AV := (9, [(.str evtl20), .nils], (.tup [(.agg evtl24), (.int .i64 (0))]))
theorem evto44_run : evCall (evtEnv [evto43]) 100000 3000 evto44.1 evto44.2.1 emptySt keep = some evto44.2.2 := by kernel_rfl
theorem evto44_ok : IsTold Tryz.prog noGlob evto44 := told_of evt_names evt_mixed (c := evtCfg) (OrcsG.more evto43_ok OrcsG.nil) evto44 (fun vs w => Tryz.call9 vs w) evto44_run (by kernel_rfl)
end Go.Proofs.YtgidgiidcnlpbaaGreatDoor
