/- EvalTypes: cases of it. -/
import Derived.Test.YtgidgiidcnlpbaaGreatDoorEEvt0
import Derived.Test.YtgidgiidcnlpbaaGreatDoorEEvtB1
import Derived.Test.YtgidgiidcnlpbaaGreatDoorEEvtB11
import Derived.Test.YtgidgiidcnlpbaaGreatDoorEEvtB12
import Derived.Test.YtgidgiidcnlpbaaGreatDoorEEvtB13
import Derived.Test.YtgidgiidcnlpbaaGreatDoorEEvtB3
import Derived.Test.YtgidgiidcnlpbaaGreatDoorEEvtB4
import Derived.Test.YtgidgiidcnlpbaaGreatDoorEEvtB5
import Derived.Test.YtgidgiidcnlpbaaGreatDoorEEvtB7
import Derived.Test.YtgidgiidcnlpbaaGreatDoorEEvtB8
import Derived.Test.YtgidgiidcnlpbaaGreatDoorEEvtB9
set_option linter.unusedSimpArgs false
set_option linter.unusedVariables false
set_option maxRecDepth 100000
namespace Go.Proofs.YtgidgiidcnlpbaaGreatDoor
open Go.VE

theorem evtCase_0 (val : Nat → Int) : evCall (envC Tryz.prog val (remsOf [(3, 0)]) (fun _ _ => none) noGlob evtCfg [evto21, evto40, evto41, evto42]) 100000 3000 3 [.sym .u8 0] emptySt toldTrue = some () := by kernel_rfl
theorem evtOk_0 : OrcsG Tryz.prog noGlob [evto21, evto40, evto41, evto42] := (OrcsG.more evto21_ok (OrcsG.more evto40_ok (OrcsG.more evto41_ok (OrcsG.more evto42_ok OrcsG.nil))))
theorem evtCase_1 (val : Nat → Int) : evCall (envC Tryz.prog val (remsOf [(3, 1)]) (fun _ _ => none) noGlob evtCfg [evto21, evto44, evto45, evto46]) 100000 3000 3 [.sym .u8 0] emptySt toldTrue = some () := by kernel_rfl
theorem evtOk_1 : OrcsG Tryz.prog noGlob [evto21, evto44, evto45, evto46] := (OrcsG.more evto21_ok (OrcsG.more evto44_ok (OrcsG.more evto45_ok (OrcsG.more evto46_ok OrcsG.nil))))
theorem evtCase_2 (val : Nat → Int) : evCall (envC Tryz.prog val (remsOf [(3, 2)]) (fun _ _ => none) noGlob evtCfg [evto21, evto48, evto49, evto50]) 100000 3000 3 [.sym .u8 0] emptySt toldTrue = some () := by kernel_rfl
theorem evtOk_2 : OrcsG Tryz.prog noGlob [evto21, evto48, evto49, evto50] := (OrcsG.more evto21_ok (OrcsG.more evto48_ok (OrcsG.more evto49_ok (OrcsG.more evto50_ok OrcsG.nil))))
end Go.Proofs.YtgidgiidcnlpbaaGreatDoor
