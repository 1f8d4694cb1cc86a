/- StackLimits: cases of it. -/
import Derived.Test.YtgidgiidcnlpbaaGreatESlm0
import Derived.Test.YtgidgiidcnlpbaaGreatESlmB1
import Derived.Test.YtgidgiidcnlpbaaGreatESlmB10
import Derived.Test.YtgidgiidcnlpbaaGreatESlmB11
import Derived.Test.YtgidgiidcnlpbaaGreatESlmB12
import Derived.Test.YtgidgiidcnlpbaaGreatESlmB13
import Derived.Test.YtgidgiidcnlpbaaGreatESlmB14
import Derived.Test.YtgidgiidcnlpbaaGreatESlmB15
import Derived.Test.YtgidgiidcnlpbaaGreatESlmB2
import Derived.Test.YtgidgiidcnlpbaaGreatESlmB3
import Derived.Test.YtgidgiidcnlpbaaGreatESlmB4
import Derived.Test.YtgidgiidcnlpbaaGreatESlmB5
import Derived.Test.YtgidgiidcnlpbaaGreatESlmB6
import Derived.Test.YtgidgiidcnlpbaaGreatESlmB7
import Derived.Test.YtgidgiidcnlpbaaGreatESlmB8
import Derived.Test.YtgidgiidcnlpbaaGreatESlmB9
set_option linter.unusedSimpArgs false
set_option linter.unusedVariables false
set_option maxRecDepth 100000
namespace Go.Proofs.YtgidgiidcnlpbaaGreat
open Go.VE

theorem slmCase_0_0 (val : Nat → Int) : evCall (envC Tryz.prog val (remsOf [(5, 0), (3, 0)]) (fun _ _ => none) noGlob slmCfg [slmo23, slmo25, slmo28, slmo30, slmo31]) 100000 3000 4 [.sym .u8 0, .sym .u8 1] emptySt toldTrue = some () := by kernel_rfl
theorem slmOk_0_0 : OrcsG Tryz.prog noGlob [slmo23, slmo25, slmo28, slmo30, slmo31] := (OrcsG.more slmo23_ok (OrcsG.more slmo25_ok (OrcsG.more slmo28_ok (OrcsG.more slmo30_ok (OrcsG.more slmo31_ok OrcsG.nil)))))
theorem slmCase_0_1 (val : Nat → Int) : evCall (envC Tryz.prog val (remsOf [(5, 0), (3, 1)]) (fun _ _ => none) noGlob slmCfg [slmo23, slmo25, slmo28, slmo31, slmo33]) 100000 3000 4 [.sym .u8 0, .sym .u8 1] emptySt toldTrue = some () := by kernel_rfl
theorem slmOk_0_1 : OrcsG Tryz.prog noGlob [slmo23, slmo25, slmo28, slmo31, slmo33] := (OrcsG.more slmo23_ok (OrcsG.more slmo25_ok (OrcsG.more slmo28_ok (OrcsG.more slmo31_ok (OrcsG.more slmo33_ok OrcsG.nil)))))
theorem slmCase_0_2 (val : Nat → Int) : evCall (envC Tryz.prog val (remsOf [(5, 0), (3, 2)]) (fun _ _ => none) noGlob slmCfg [slmo23, slmo25, slmo28, slmo31, slmo35]) 100000 3000 4 [.sym .u8 0, .sym .u8 1] emptySt toldTrue = some () := by kernel_rfl
theorem slmOk_0_2 : OrcsG Tryz.prog noGlob [slmo23, slmo25, slmo28, slmo31, slmo35] := (OrcsG.more slmo23_ok (OrcsG.more slmo25_ok (OrcsG.more slmo28_ok (OrcsG.more slmo31_ok (OrcsG.more slmo35_ok OrcsG.nil)))))
theorem slmCase_1_0 (val : Nat → Int) : evCall (envC Tryz.prog val (remsOf [(5, 1), (3, 0)]) (fun _ _ => none) noGlob slmCfg [slmo23, slmo37, slmo40, slmo42, slmo43]) 100000 3000 4 [.sym .u8 0, .sym .u8 1] emptySt toldTrue = some () := by kernel_rfl
theorem slmOk_1_0 : OrcsG Tryz.prog noGlob [slmo23, slmo37, slmo40, slmo42, slmo43] := (OrcsG.more slmo23_ok (OrcsG.more slmo37_ok (OrcsG.more slmo40_ok (OrcsG.more slmo42_ok (OrcsG.more slmo43_ok OrcsG.nil)))))
theorem slmCase_1_1 (val : Nat → Int) : evCall (envC Tryz.prog val (remsOf [(5, 1), (3, 1)]) (fun _ _ => none) noGlob slmCfg [slmo23, slmo37, slmo40, slmo43, slmo45]) 100000 3000 4 [.sym .u8 0, .sym .u8 1] emptySt toldTrue = some () := by kernel_rfl
theorem slmOk_1_1 : OrcsG Tryz.prog noGlob [slmo23, slmo37, slmo40, slmo43, slmo45] := (OrcsG.more slmo23_ok (OrcsG.more slmo37_ok (OrcsG.more slmo40_ok (OrcsG.more slmo43_ok (OrcsG.more slmo45_ok OrcsG.nil)))))
theorem slmCase_1_2 (val : Nat → Int) : evCall (envC Tryz.prog val (remsOf [(5, 1), (3, 2)]) (fun _ _ => none) noGlob slmCfg [slmo23, slmo37, slmo40, slmo43, slmo47]) 100000 3000 4 [.sym .u8 0, .sym .u8 1] emptySt toldTrue = some () := by kernel_rfl
theorem slmOk_1_2 : OrcsG Tryz.prog noGlob [slmo23, slmo37, slmo40, slmo43, slmo47] := (OrcsG.more slmo23_ok (OrcsG.more slmo37_ok (OrcsG.more slmo40_ok (OrcsG.more slmo43_ok (OrcsG.more slmo47_ok OrcsG.nil)))))
theorem slmCase_2_0 (val : Nat → Int) : evCall (envC Tryz.prog val (remsOf [(5, 2), (3, 0)]) (fun _ _ => none) noGlob slmCfg [slmo23, slmo49, slmo52, slmo54, slmo55]) 100000 3000 4 [.sym .u8 0, .sym .u8 1] emptySt toldTrue = some () := by kernel_rfl
theorem slmOk_2_0 : OrcsG Tryz.prog noGlob [slmo23, slmo49, slmo52, slmo54, slmo55] := (OrcsG.more slmo23_ok (OrcsG.more slmo49_ok (OrcsG.more slmo52_ok (OrcsG.more slmo54_ok (OrcsG.more slmo55_ok OrcsG.nil)))))
theorem slmCase_2_1 (val : Nat → Int) : evCall (envC Tryz.prog val (remsOf [(5, 2), (3, 1)]) (fun _ _ => none) noGlob slmCfg [slmo23, slmo49, slmo52, slmo55, slmo57]) 100000 3000 4 [.sym .u8 0, .sym .u8 1] emptySt toldTrue = some () := by kernel_rfl
theorem slmOk_2_1 : OrcsG Tryz.prog noGlob [slmo23, slmo49, slmo52, slmo55, slmo57] := (OrcsG.more slmo23_ok (OrcsG.more slmo49_ok (OrcsG.more slmo52_ok (OrcsG.more slmo55_ok (OrcsG.more slmo57_ok OrcsG.nil)))))
theorem slmCase_2_2 (val : Nat → Int) : evCall (envC Tryz.prog val (remsOf [(5, 2), (3, 2)]) (fun _ _ => none) noGlob slmCfg [slmo23, slmo49, slmo52, slmo55, slmo59]) 100000 3000 4 [.sym .u8 0, .sym .u8 1] emptySt toldTrue = some () := by kernel_rfl
theorem slmOk_2_2 : OrcsG Tryz.prog noGlob [slmo23, slmo49, slmo52, slmo55, slmo59] := (OrcsG.more slmo23_ok (OrcsG.more slmo49_ok (OrcsG.more slmo52_ok (OrcsG.more slmo55_ok (OrcsG.more slmo59_ok OrcsG.nil)))))
theorem slmCase_3_0 (val : Nat → Int) : evCall (envC Tryz.prog val (remsOf [(5, 3), (3, 0)]) (fun _ _ => none) noGlob slmCfg [slmo23, slmo61, slmo64]) 100000 3000 4 [.sym .u8 0, .sym .u8 1] emptySt toldTrue = some () := by kernel_rfl
theorem slmOk_3_0 : OrcsG Tryz.prog noGlob [slmo23, slmo61, slmo64] := (OrcsG.more slmo23_ok (OrcsG.more slmo61_ok (OrcsG.more slmo64_ok OrcsG.nil)))
theorem slmCase_3_1 (val : Nat → Int) : evCall (envC Tryz.prog val (remsOf [(5, 3), (3, 1)]) (fun _ _ => none) noGlob slmCfg [slmo23, slmo61, slmo64]) 100000 3000 4 [.sym .u8 0, .sym .u8 1] emptySt toldTrue = some () := by kernel_rfl
theorem slmOk_3_1 : OrcsG Tryz.prog noGlob [slmo23, slmo61, slmo64] := (OrcsG.more slmo23_ok (OrcsG.more slmo61_ok (OrcsG.more slmo64_ok OrcsG.nil)))
theorem slmCase_3_2 (val : Nat → Int) : evCall (envC Tryz.prog val (remsOf [(5, 3), (3, 2)]) (fun _ _ => none) noGlob slmCfg [slmo23, slmo61, slmo64]) 100000 3000 4 [.sym .u8 0, .sym .u8 1] emptySt toldTrue = some () := by kernel_rfl
theorem slmOk_3_2 : OrcsG Tryz.prog noGlob [slmo23, slmo61, slmo64] := (OrcsG.more slmo23_ok (OrcsG.more slmo61_ok (OrcsG.more slmo64_ok OrcsG.nil)))
theorem slmCase_4_0 (val : Nat → Int) : evCall (envC Tryz.prog val (remsOf [(5, 4), (3, 0)]) (fun _ _ => none) noGlob slmCfg [slmo23, slmo66, slmo69]) 100000 3000 4 [.sym .u8 0, .sym .u8 1] emptySt toldTrue = some () := by kernel_rfl
theorem slmOk_4_0 : OrcsG Tryz.prog noGlob [slmo23, slmo66, slmo69] := (OrcsG.more slmo23_ok (OrcsG.more slmo66_ok (OrcsG.more slmo69_ok OrcsG.nil)))
theorem slmCase_4_1 (val : Nat → Int) : evCall (envC Tryz.prog val (remsOf [(5, 4), (3, 1)]) (fun _ _ => none) noGlob slmCfg [slmo23, slmo66, slmo69]) 100000 3000 4 [.sym .u8 0, .sym .u8 1] emptySt toldTrue = some () := by kernel_rfl
theorem slmOk_4_1 : OrcsG Tryz.prog noGlob [slmo23, slmo66, slmo69] := (OrcsG.more slmo23_ok (OrcsG.more slmo66_ok (OrcsG.more slmo69_ok OrcsG.nil)))
theorem slmCase_4_2 (val : Nat → Int) : evCall (envC Tryz.prog val (remsOf [(5, 4), (3, 2)]) (fun _ _ => none) noGlob slmCfg [slmo23, slmo66, slmo69]) 100000 3000 4 [.sym .u8 0, .sym .u8 1] emptySt toldTrue = some () := by kernel_rfl
theorem slmOk_4_2 : OrcsG Tryz.prog noGlob [slmo23, slmo66, slmo69] := (OrcsG.more slmo23_ok (OrcsG.more slmo66_ok (OrcsG.more slmo69_ok OrcsG.nil)))
end Go.Proofs.YtgidgiidcnlpbaaGreat
