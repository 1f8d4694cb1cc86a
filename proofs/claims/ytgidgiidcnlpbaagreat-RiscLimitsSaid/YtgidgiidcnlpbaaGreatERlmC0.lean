/- RiscLimits: cases of it. -/
import Derived.Test.YtgidgiidcnlpbaaGreatERlm0
import Derived.Test.YtgidgiidcnlpbaaGreatERlmB1
import Derived.Test.YtgidgiidcnlpbaaGreatERlmB10
import Derived.Test.YtgidgiidcnlpbaaGreatERlmB11
import Derived.Test.YtgidgiidcnlpbaaGreatERlmB12
import Derived.Test.YtgidgiidcnlpbaaGreatERlmB13
import Derived.Test.YtgidgiidcnlpbaaGreatERlmB15
import Derived.Test.YtgidgiidcnlpbaaGreatERlmB2
import Derived.Test.YtgidgiidcnlpbaaGreatERlmB3
import Derived.Test.YtgidgiidcnlpbaaGreatERlmB4
import Derived.Test.YtgidgiidcnlpbaaGreatERlmB5
import Derived.Test.YtgidgiidcnlpbaaGreatERlmB6
import Derived.Test.YtgidgiidcnlpbaaGreatERlmB7
import Derived.Test.YtgidgiidcnlpbaaGreatERlmB8
import Derived.Test.YtgidgiidcnlpbaaGreatERlmB9
set_option linter.unusedSimpArgs false
set_option linter.unusedVariables false
set_option maxRecDepth 100000
namespace Go.Proofs.YtgidgiidcnlpbaaGreat
open Go.VE

theorem rlmCase_0_0 (val : Nat → Int) : evCall (envC Tryz.prog val (remsOf [(5, 0), (3, 0)]) (fun _ _ => none) noGlob rlmCfg [rlmo64, rlmo66, rlmo94, rlmo95, rlmo96]) 100000 3000 3 [.sym .u8 0, .sym .u8 1] emptySt toldTrue = some () := by kernel_rfl
theorem rlmOk_0_0 : OrcsG Tryz.prog noGlob [rlmo64, rlmo66, rlmo94, rlmo95, rlmo96] := (OrcsG.more rlmo64_ok (OrcsG.more rlmo66_ok (OrcsG.more rlmo94_ok (OrcsG.more rlmo95_ok (OrcsG.more rlmo96_ok OrcsG.nil)))))
theorem rlmCase_0_1 (val : Nat → Int) : evCall (envC Tryz.prog val (remsOf [(5, 0), (3, 1)]) (fun _ _ => none) noGlob rlmCfg [rlmo64, rlmo66, rlmo94, rlmo96, rlmo97]) 100000 3000 3 [.sym .u8 0, .sym .u8 1] emptySt toldTrue = some () := by kernel_rfl
theorem rlmOk_0_1 : OrcsG Tryz.prog noGlob [rlmo64, rlmo66, rlmo94, rlmo96, rlmo97] := (OrcsG.more rlmo64_ok (OrcsG.more rlmo66_ok (OrcsG.more rlmo94_ok (OrcsG.more rlmo96_ok (OrcsG.more rlmo97_ok OrcsG.nil)))))
theorem rlmCase_0_2 (val : Nat → Int) : evCall (envC Tryz.prog val (remsOf [(5, 0), (3, 2)]) (fun _ _ => none) noGlob rlmCfg [rlmo64, rlmo66, rlmo94, rlmo96, rlmo98]) 100000 3000 3 [.sym .u8 0, .sym .u8 1] emptySt toldTrue = some () := by kernel_rfl
theorem rlmOk_0_2 : OrcsG Tryz.prog noGlob [rlmo64, rlmo66, rlmo94, rlmo96, rlmo98] := (OrcsG.more rlmo64_ok (OrcsG.more rlmo66_ok (OrcsG.more rlmo94_ok (OrcsG.more rlmo96_ok (OrcsG.more rlmo98_ok OrcsG.nil)))))
theorem rlmCase_1_0 (val : Nat → Int) : evCall (envC Tryz.prog val (remsOf [(5, 1), (3, 0)]) (fun _ _ => none) noGlob rlmCfg [rlmo64, rlmo100, rlmo105, rlmo106, rlmo107]) 100000 3000 3 [.sym .u8 0, .sym .u8 1] emptySt toldTrue = some () := by kernel_rfl
theorem rlmOk_1_0 : OrcsG Tryz.prog noGlob [rlmo64, rlmo100, rlmo105, rlmo106, rlmo107] := (OrcsG.more rlmo64_ok (OrcsG.more rlmo100_ok (OrcsG.more rlmo105_ok (OrcsG.more rlmo106_ok (OrcsG.more rlmo107_ok OrcsG.nil)))))
theorem rlmCase_1_1 (val : Nat → Int) : evCall (envC Tryz.prog val (remsOf [(5, 1), (3, 1)]) (fun _ _ => none) noGlob rlmCfg [rlmo64, rlmo100, rlmo105, rlmo107, rlmo108]) 100000 3000 3 [.sym .u8 0, .sym .u8 1] emptySt toldTrue = some () := by kernel_rfl
theorem rlmOk_1_1 : OrcsG Tryz.prog noGlob [rlmo64, rlmo100, rlmo105, rlmo107, rlmo108] := (OrcsG.more rlmo64_ok (OrcsG.more rlmo100_ok (OrcsG.more rlmo105_ok (OrcsG.more rlmo107_ok (OrcsG.more rlmo108_ok OrcsG.nil)))))
theorem rlmCase_1_2 (val : Nat → Int) : evCall (envC Tryz.prog val (remsOf [(5, 1), (3, 2)]) (fun _ _ => none) noGlob rlmCfg [rlmo64, rlmo100, rlmo105, rlmo107, rlmo109]) 100000 3000 3 [.sym .u8 0, .sym .u8 1] emptySt toldTrue = some () := by kernel_rfl
theorem rlmOk_1_2 : OrcsG Tryz.prog noGlob [rlmo64, rlmo100, rlmo105, rlmo107, rlmo109] := (OrcsG.more rlmo64_ok (OrcsG.more rlmo100_ok (OrcsG.more rlmo105_ok (OrcsG.more rlmo107_ok (OrcsG.more rlmo109_ok OrcsG.nil)))))
theorem rlmCase_2_0 (val : Nat → Int) : evCall (envC Tryz.prog val (remsOf [(5, 2), (3, 0)]) (fun _ _ => none) noGlob rlmCfg [rlmo64, rlmo111, rlmo116, rlmo117, rlmo118]) 100000 3000 3 [.sym .u8 0, .sym .u8 1] emptySt toldTrue = some () := by kernel_rfl
theorem rlmOk_2_0 : OrcsG Tryz.prog noGlob [rlmo64, rlmo111, rlmo116, rlmo117, rlmo118] := (OrcsG.more rlmo64_ok (OrcsG.more rlmo111_ok (OrcsG.more rlmo116_ok (OrcsG.more rlmo117_ok (OrcsG.more rlmo118_ok OrcsG.nil)))))
theorem rlmCase_2_1 (val : Nat → Int) : evCall (envC Tryz.prog val (remsOf [(5, 2), (3, 1)]) (fun _ _ => none) noGlob rlmCfg [rlmo64, rlmo111, rlmo116, rlmo118, rlmo119]) 100000 3000 3 [.sym .u8 0, .sym .u8 1] emptySt toldTrue = some () := by kernel_rfl
theorem rlmOk_2_1 : OrcsG Tryz.prog noGlob [rlmo64, rlmo111, rlmo116, rlmo118, rlmo119] := (OrcsG.more rlmo64_ok (OrcsG.more rlmo111_ok (OrcsG.more rlmo116_ok (OrcsG.more rlmo118_ok (OrcsG.more rlmo119_ok OrcsG.nil)))))
theorem rlmCase_2_2 (val : Nat → Int) : evCall (envC Tryz.prog val (remsOf [(5, 2), (3, 2)]) (fun _ _ => none) noGlob rlmCfg [rlmo64, rlmo111, rlmo116, rlmo118, rlmo120]) 100000 3000 3 [.sym .u8 0, .sym .u8 1] emptySt toldTrue = some () := by kernel_rfl
theorem rlmOk_2_2 : OrcsG Tryz.prog noGlob [rlmo64, rlmo111, rlmo116, rlmo118, rlmo120] := (OrcsG.more rlmo64_ok (OrcsG.more rlmo111_ok (OrcsG.more rlmo116_ok (OrcsG.more rlmo118_ok (OrcsG.more rlmo120_ok OrcsG.nil)))))
theorem rlmCase_3_0 (val : Nat → Int) : evCall (envC Tryz.prog val (remsOf [(5, 3), (3, 0)]) (fun _ _ => none) noGlob rlmCfg [rlmo64, rlmo122, rlmo124]) 100000 3000 3 [.sym .u8 0, .sym .u8 1] emptySt toldTrue = some () := by kernel_rfl
theorem rlmOk_3_0 : OrcsG Tryz.prog noGlob [rlmo64, rlmo122, rlmo124] := (OrcsG.more rlmo64_ok (OrcsG.more rlmo122_ok (OrcsG.more rlmo124_ok OrcsG.nil)))
theorem rlmCase_3_1 (val : Nat → Int) : evCall (envC Tryz.prog val (remsOf [(5, 3), (3, 1)]) (fun _ _ => none) noGlob rlmCfg [rlmo64, rlmo122, rlmo124]) 100000 3000 3 [.sym .u8 0, .sym .u8 1] emptySt toldTrue = some () := by kernel_rfl
theorem rlmOk_3_1 : OrcsG Tryz.prog noGlob [rlmo64, rlmo122, rlmo124] := (OrcsG.more rlmo64_ok (OrcsG.more rlmo122_ok (OrcsG.more rlmo124_ok OrcsG.nil)))
theorem rlmCase_3_2 (val : Nat → Int) : evCall (envC Tryz.prog val (remsOf [(5, 3), (3, 2)]) (fun _ _ => none) noGlob rlmCfg [rlmo64, rlmo122, rlmo124]) 100000 3000 3 [.sym .u8 0, .sym .u8 1] emptySt toldTrue = some () := by kernel_rfl
theorem rlmOk_3_2 : OrcsG Tryz.prog noGlob [rlmo64, rlmo122, rlmo124] := (OrcsG.more rlmo64_ok (OrcsG.more rlmo122_ok (OrcsG.more rlmo124_ok OrcsG.nil)))
theorem rlmCase_4_0 (val : Nat → Int) : evCall (envC Tryz.prog val (remsOf [(5, 4), (3, 0)]) (fun _ _ => none) noGlob rlmCfg [rlmo64, rlmo126, rlmo128]) 100000 3000 3 [.sym .u8 0, .sym .u8 1] emptySt toldTrue = some () := by kernel_rfl
theorem rlmOk_4_0 : OrcsG Tryz.prog noGlob [rlmo64, rlmo126, rlmo128] := (OrcsG.more rlmo64_ok (OrcsG.more rlmo126_ok (OrcsG.more rlmo128_ok OrcsG.nil)))
theorem rlmCase_4_1 (val : Nat → Int) : evCall (envC Tryz.prog val (remsOf [(5, 4), (3, 1)]) (fun _ _ => none) noGlob rlmCfg [rlmo64, rlmo126, rlmo128]) 100000 3000 3 [.sym .u8 0, .sym .u8 1] emptySt toldTrue = some () := by kernel_rfl
theorem rlmOk_4_1 : OrcsG Tryz.prog noGlob [rlmo64, rlmo126, rlmo128] := (OrcsG.more rlmo64_ok (OrcsG.more rlmo126_ok (OrcsG.more rlmo128_ok OrcsG.nil)))
theorem rlmCase_4_2 (val : Nat → Int) : evCall (envC Tryz.prog val (remsOf [(5, 4), (3, 2)]) (fun _ _ => none) noGlob rlmCfg [rlmo64, rlmo126, rlmo128]) 100000 3000 3 [.sym .u8 0, .sym .u8 1] emptySt toldTrue = some () := by kernel_rfl
theorem rlmOk_4_2 : OrcsG Tryz.prog noGlob [rlmo64, rlmo126, rlmo128] := (OrcsG.more rlmo64_ok (OrcsG.more rlmo126_ok (OrcsG.more rlmo128_ok OrcsG.nil)))
end Go.Proofs.YtgidgiidcnlpbaaGreat
