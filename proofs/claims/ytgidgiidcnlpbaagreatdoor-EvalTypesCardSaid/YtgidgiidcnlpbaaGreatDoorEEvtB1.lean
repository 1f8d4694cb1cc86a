/- EvalTypes, run by the evaluation: told calls. -/
import Derived.Test.YtgidgiidcnlpbaaGreatDoorEEvt0
import Derived.Test.YtgidgiidcnlpbaaGreatDoorEEvtB0
set_option linter.unusedSimpArgs false
set_option linter.unusedVariables false
set_option maxRecDepth 100000
namespace Go.Proofs.YtgidgiidcnlpbaaGreatDoor
open Go.VE

def evto19 : Nat × List AV × AV := (9, [(.str evtl13), .nils], (.tup [(.agg evtl19), (.int .i64 (0))]))
theorem evto19_run : evCall (evtEnv [evto18]) 100000 3000 evto19.1 evto19.2.1 emptySt keep = some evto19.2.2 := by kernel_rfl
theorem evto19_ok : IsTold Tryz.prog noGlob evto19 := told_of evt_names evt_mixed (c := evtCfg) (OrcsG.more evto18_ok OrcsG.nil) evto19 (fun vs w => Tryz.call9 vs w) evto19_run (by kernel_rfl)
def evto21 : Nat × List AV × AV := (5, [], (.bool true))
theorem evto21_run : evCall (evtEnv [evto19, evto20]) 100000 3000 evto21.1 evto21.2.1 emptySt keep = some evto21.2.2 := by kernel_rfl
theorem evto21_ok : IsTold Tryz.prog noGlob evto21 := told_of evt_names evt_mixed (c := evtCfg) (OrcsG.more evto19_ok (OrcsG.more evto20_ok OrcsG.nil)) evto21 (fun vs w => Tryz.call5 vs w) evto21_run (by kernel_rfl)
end Go.Proofs.YtgidgiidcnlpbaaGreatDoor
