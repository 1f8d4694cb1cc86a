/- NeedLimits: cases of it. -/
import Derived.Test.YtdclcnfdfmmnmaaENlm0
import Derived.Test.YtdclcnfdfmmnmaaENlmB0
import Derived.Test.YtdclcnfdfmmnmaaENlmB10
import Derived.Test.YtdclcnfdfmmnmaaENlmB2
import Derived.Test.YtdclcnfdfmmnmaaENlmB4
import Derived.Test.YtdclcnfdfmmnmaaENlmB6
import Derived.Test.YtdclcnfdfmmnmaaENlmB8
set_option linter.unusedSimpArgs false
set_option linter.unusedVariables false
set_option maxRecDepth 100000
namespace Go.Proofs.Ytdclcnfdfmmnmaa
open Go.VE

theorem nlmCase_0_0_true (val : Nat → Int) : evCall (envC Try.prog val (remsOf [(3, 0), (5, 0)]) (fun _ _ => none) noGlob nlmCfg [nlmo12, nlmo20, nlmo28]) 100000 3000 3 [.sym .u8 0, .sym .u8 1, .bool true] emptySt toldTrue = some () := by kernel_rfl
theorem nlmOk_0_0_true : OrcsG Try.prog noGlob [nlmo12, nlmo20, nlmo28] := (OrcsG.more nlmo12_ok (OrcsG.more nlmo20_ok (OrcsG.more nlmo28_ok OrcsG.nil)))
theorem nlmCase_0_0_false (val : Nat → Int) : evCall (envC Try.prog val (remsOf [(3, 0), (5, 0)]) (fun _ _ => none) noGlob nlmCfg [nlmo12, nlmo20, nlmo28]) 100000 3000 3 [.sym .u8 0, .sym .u8 1, .bool false] emptySt toldTrue = some () := by kernel_rfl
theorem nlmOk_0_0_false : OrcsG Try.prog noGlob [nlmo12, nlmo20, nlmo28] := (OrcsG.more nlmo12_ok (OrcsG.more nlmo20_ok (OrcsG.more nlmo28_ok OrcsG.nil)))
theorem nlmCase_0_1_true (val : Nat → Int) : evCall (envC Try.prog val (remsOf [(3, 0), (5, 1)]) (fun _ _ => none) noGlob nlmCfg [nlmo12, nlmo29, nlmo37]) 100000 3000 3 [.sym .u8 0, .sym .u8 1, .bool true] emptySt toldTrue = some () := by kernel_rfl
theorem nlmOk_0_1_true : OrcsG Try.prog noGlob [nlmo12, nlmo29, nlmo37] := (OrcsG.more nlmo12_ok (OrcsG.more nlmo29_ok (OrcsG.more nlmo37_ok OrcsG.nil)))
theorem nlmCase_0_1_false (val : Nat → Int) : evCall (envC Try.prog val (remsOf [(3, 0), (5, 1)]) (fun _ _ => none) noGlob nlmCfg [nlmo12, nlmo29, nlmo37]) 100000 3000 3 [.sym .u8 0, .sym .u8 1, .bool false] emptySt toldTrue = some () := by kernel_rfl
theorem nlmOk_0_1_false : OrcsG Try.prog noGlob [nlmo12, nlmo29, nlmo37] := (OrcsG.more nlmo12_ok (OrcsG.more nlmo29_ok (OrcsG.more nlmo37_ok OrcsG.nil)))
theorem nlmCase_0_2_true (val : Nat → Int) : evCall (envC Try.prog val (remsOf [(3, 0), (5, 2)]) (fun _ _ => none) noGlob nlmCfg [nlmo12, nlmo38, nlmo46]) 100000 3000 3 [.sym .u8 0, .sym .u8 1, .bool true] emptySt toldTrue = some () := by kernel_rfl
theorem nlmOk_0_2_true : OrcsG Try.prog noGlob [nlmo12, nlmo38, nlmo46] := (OrcsG.more nlmo12_ok (OrcsG.more nlmo38_ok (OrcsG.more nlmo46_ok OrcsG.nil)))
theorem nlmCase_0_2_false (val : Nat → Int) : evCall (envC Try.prog val (remsOf [(3, 0), (5, 2)]) (fun _ _ => none) noGlob nlmCfg [nlmo12, nlmo38, nlmo46]) 100000 3000 3 [.sym .u8 0, .sym .u8 1, .bool false] emptySt toldTrue = some () := by kernel_rfl
theorem nlmOk_0_2_false : OrcsG Try.prog noGlob [nlmo12, nlmo38, nlmo46] := (OrcsG.more nlmo12_ok (OrcsG.more nlmo38_ok (OrcsG.more nlmo46_ok OrcsG.nil)))
theorem nlmCase_0_3_true (val : Nat → Int) : evCall (envC Try.prog val (remsOf [(3, 0), (5, 3)]) (fun _ _ => none) noGlob nlmCfg [nlmo12, nlmo47, nlmo50]) 100000 3000 3 [.sym .u8 0, .sym .u8 1, .bool true] emptySt toldTrue = some () := by kernel_rfl
theorem nlmOk_0_3_true : OrcsG Try.prog noGlob [nlmo12, nlmo47, nlmo50] := (OrcsG.more nlmo12_ok (OrcsG.more nlmo47_ok (OrcsG.more nlmo50_ok OrcsG.nil)))
theorem nlmCase_0_3_false (val : Nat → Int) : evCall (envC Try.prog val (remsOf [(3, 0), (5, 3)]) (fun _ _ => none) noGlob nlmCfg [nlmo12, nlmo47, nlmo50]) 100000 3000 3 [.sym .u8 0, .sym .u8 1, .bool false] emptySt toldTrue = some () := by kernel_rfl
theorem nlmOk_0_3_false : OrcsG Try.prog noGlob [nlmo12, nlmo47, nlmo50] := (OrcsG.more nlmo12_ok (OrcsG.more nlmo47_ok (OrcsG.more nlmo50_ok OrcsG.nil)))
theorem nlmCase_0_4_true (val : Nat → Int) : evCall (envC Try.prog val (remsOf [(3, 0), (5, 4)]) (fun _ _ => none) noGlob nlmCfg [nlmo12, nlmo51, nlmo54]) 100000 3000 3 [.sym .u8 0, .sym .u8 1, .bool true] emptySt toldTrue = some () := by kernel_rfl
theorem nlmOk_0_4_true : OrcsG Try.prog noGlob [nlmo12, nlmo51, nlmo54] := (OrcsG.more nlmo12_ok (OrcsG.more nlmo51_ok (OrcsG.more nlmo54_ok OrcsG.nil)))
theorem nlmCase_0_4_false (val : Nat → Int) : evCall (envC Try.prog val (remsOf [(3, 0), (5, 4)]) (fun _ _ => none) noGlob nlmCfg [nlmo12, nlmo51, nlmo54]) 100000 3000 3 [.sym .u8 0, .sym .u8 1, .bool false] emptySt toldTrue = some () := by kernel_rfl
theorem nlmOk_0_4_false : OrcsG Try.prog noGlob [nlmo12, nlmo51, nlmo54] := (OrcsG.more nlmo12_ok (OrcsG.more nlmo51_ok (OrcsG.more nlmo54_ok OrcsG.nil)))
theorem nlmCase_1_0_true (val : Nat → Int) : evCall (envC Try.prog val (remsOf [(3, 1), (5, 0)]) (fun _ _ => none) noGlob nlmCfg [nlmo12, nlmo55, nlmo56, nlmo69]) 100000 3000 3 [.sym .u8 0, .sym .u8 1, .bool true] emptySt toldTrue = some () := by kernel_rfl
theorem nlmOk_1_0_true : OrcsG Try.prog noGlob [nlmo12, nlmo55, nlmo56, nlmo69] := (OrcsG.more nlmo12_ok (OrcsG.more nlmo55_ok (OrcsG.more nlmo56_ok (OrcsG.more nlmo69_ok OrcsG.nil))))
theorem nlmCase_1_0_false (val : Nat → Int) : evCall (envC Try.prog val (remsOf [(3, 1), (5, 0)]) (fun _ _ => none) noGlob nlmCfg [nlmo12, nlmo55, nlmo56, nlmo71]) 100000 3000 3 [.sym .u8 0, .sym .u8 1, .bool false] emptySt toldTrue = some () := by kernel_rfl
theorem nlmOk_1_0_false : OrcsG Try.prog noGlob [nlmo12, nlmo55, nlmo56, nlmo71] := (OrcsG.more nlmo12_ok (OrcsG.more nlmo55_ok (OrcsG.more nlmo56_ok (OrcsG.more nlmo71_ok OrcsG.nil))))
theorem nlmCase_1_1_true (val : Nat → Int) : evCall (envC Try.prog val (remsOf [(3, 1), (5, 1)]) (fun _ _ => none) noGlob nlmCfg [nlmo12, nlmo55, nlmo72, nlmo79]) 100000 3000 3 [.sym .u8 0, .sym .u8 1, .bool true] emptySt toldTrue = some () := by kernel_rfl
theorem nlmOk_1_1_true : OrcsG Try.prog noGlob [nlmo12, nlmo55, nlmo72, nlmo79] := (OrcsG.more nlmo12_ok (OrcsG.more nlmo55_ok (OrcsG.more nlmo72_ok (OrcsG.more nlmo79_ok OrcsG.nil))))
theorem nlmCase_1_1_false (val : Nat → Int) : evCall (envC Try.prog val (remsOf [(3, 1), (5, 1)]) (fun _ _ => none) noGlob nlmCfg [nlmo12, nlmo55, nlmo72, nlmo81]) 100000 3000 3 [.sym .u8 0, .sym .u8 1, .bool false] emptySt toldTrue = some () := by kernel_rfl
theorem nlmOk_1_1_false : OrcsG Try.prog noGlob [nlmo12, nlmo55, nlmo72, nlmo81] := (OrcsG.more nlmo12_ok (OrcsG.more nlmo55_ok (OrcsG.more nlmo72_ok (OrcsG.more nlmo81_ok OrcsG.nil))))
theorem nlmCase_1_2_true (val : Nat → Int) : evCall (envC Try.prog val (remsOf [(3, 1), (5, 2)]) (fun _ _ => none) noGlob nlmCfg [nlmo12, nlmo55, nlmo82, nlmo89]) 100000 3000 3 [.sym .u8 0, .sym .u8 1, .bool true] emptySt toldTrue = some () := by kernel_rfl
theorem nlmOk_1_2_true : OrcsG Try.prog noGlob [nlmo12, nlmo55, nlmo82, nlmo89] := (OrcsG.more nlmo12_ok (OrcsG.more nlmo55_ok (OrcsG.more nlmo82_ok (OrcsG.more nlmo89_ok OrcsG.nil))))
theorem nlmCase_1_2_false (val : Nat → Int) : evCall (envC Try.prog val (remsOf [(3, 1), (5, 2)]) (fun _ _ => none) noGlob nlmCfg [nlmo12, nlmo55, nlmo82, nlmo91]) 100000 3000 3 [.sym .u8 0, .sym .u8 1, .bool false] emptySt toldTrue = some () := by kernel_rfl
theorem nlmOk_1_2_false : OrcsG Try.prog noGlob [nlmo12, nlmo55, nlmo82, nlmo91] := (OrcsG.more nlmo12_ok (OrcsG.more nlmo55_ok (OrcsG.more nlmo82_ok (OrcsG.more nlmo91_ok OrcsG.nil))))
theorem nlmCase_1_3_true (val : Nat → Int) : evCall (envC Try.prog val (remsOf [(3, 1), (5, 3)]) (fun _ _ => none) noGlob nlmCfg [nlmo12, nlmo55, nlmo92, nlmo99]) 100000 3000 3 [.sym .u8 0, .sym .u8 1, .bool true] emptySt toldTrue = some () := by kernel_rfl
theorem nlmOk_1_3_true : OrcsG Try.prog noGlob [nlmo12, nlmo55, nlmo92, nlmo99] := (OrcsG.more nlmo12_ok (OrcsG.more nlmo55_ok (OrcsG.more nlmo92_ok (OrcsG.more nlmo99_ok OrcsG.nil))))
theorem nlmCase_1_3_false (val : Nat → Int) : evCall (envC Try.prog val (remsOf [(3, 1), (5, 3)]) (fun _ _ => none) noGlob nlmCfg [nlmo12, nlmo55, nlmo92, nlmo101]) 100000 3000 3 [.sym .u8 0, .sym .u8 1, .bool false] emptySt toldTrue = some () := by kernel_rfl
theorem nlmOk_1_3_false : OrcsG Try.prog noGlob [nlmo12, nlmo55, nlmo92, nlmo101] := (OrcsG.more nlmo12_ok (OrcsG.more nlmo55_ok (OrcsG.more nlmo92_ok (OrcsG.more nlmo101_ok OrcsG.nil))))
theorem nlmCase_1_4_true (val : Nat → Int) : evCall (envC Try.prog val (remsOf [(3, 1), (5, 4)]) (fun _ _ => none) noGlob nlmCfg [nlmo12, nlmo55, nlmo102, nlmo109]) 100000 3000 3 [.sym .u8 0, .sym .u8 1, .bool true] emptySt toldTrue = some () := by kernel_rfl
theorem nlmOk_1_4_true : OrcsG Try.prog noGlob [nlmo12, nlmo55, nlmo102, nlmo109] := (OrcsG.more nlmo12_ok (OrcsG.more nlmo55_ok (OrcsG.more nlmo102_ok (OrcsG.more nlmo109_ok OrcsG.nil))))
theorem nlmCase_1_4_false (val : Nat → Int) : evCall (envC Try.prog val (remsOf [(3, 1), (5, 4)]) (fun _ _ => none) noGlob nlmCfg [nlmo12, nlmo55, nlmo102, nlmo111]) 100000 3000 3 [.sym .u8 0, .sym .u8 1, .bool false] emptySt toldTrue = some () := by kernel_rfl
theorem nlmOk_1_4_false : OrcsG Try.prog noGlob [nlmo12, nlmo55, nlmo102, nlmo111] := (OrcsG.more nlmo12_ok (OrcsG.more nlmo55_ok (OrcsG.more nlmo102_ok (OrcsG.more nlmo111_ok OrcsG.nil))))
theorem nlmCase_2_0_true (val : Nat → Int) : evCall (envC Try.prog val (remsOf [(3, 2), (5, 0)]) (fun _ _ => none) noGlob nlmCfg [nlmo12, nlmo130]) 100000 3000 3 [.sym .u8 0, .sym .u8 1, .bool true] emptySt toldTrue = some () := by kernel_rfl
theorem nlmOk_2_0_true : OrcsG Try.prog noGlob [nlmo12, nlmo130] := (OrcsG.more nlmo12_ok (OrcsG.more nlmo130_ok OrcsG.nil))
theorem nlmCase_2_0_false (val : Nat → Int) : evCall (envC Try.prog val (remsOf [(3, 2), (5, 0)]) (fun _ _ => none) noGlob nlmCfg [nlmo12, nlmo132]) 100000 3000 3 [.sym .u8 0, .sym .u8 1, .bool false] emptySt toldTrue = some () := by kernel_rfl
theorem nlmOk_2_0_false : OrcsG Try.prog noGlob [nlmo12, nlmo132] := (OrcsG.more nlmo12_ok (OrcsG.more nlmo132_ok OrcsG.nil))
theorem nlmCase_2_1_true (val : Nat → Int) : evCall (envC Try.prog val (remsOf [(3, 2), (5, 1)]) (fun _ _ => none) noGlob nlmCfg [nlmo12, nlmo149]) 100000 3000 3 [.sym .u8 0, .sym .u8 1, .bool true] emptySt toldTrue = some () := by kernel_rfl
theorem nlmOk_2_1_true : OrcsG Try.prog noGlob [nlmo12, nlmo149] := (OrcsG.more nlmo12_ok (OrcsG.more nlmo149_ok OrcsG.nil))
theorem nlmCase_2_1_false (val : Nat → Int) : evCall (envC Try.prog val (remsOf [(3, 2), (5, 1)]) (fun _ _ => none) noGlob nlmCfg [nlmo12, nlmo151]) 100000 3000 3 [.sym .u8 0, .sym .u8 1, .bool false] emptySt toldTrue = some () := by kernel_rfl
theorem nlmOk_2_1_false : OrcsG Try.prog noGlob [nlmo12, nlmo151] := (OrcsG.more nlmo12_ok (OrcsG.more nlmo151_ok OrcsG.nil))
theorem nlmCase_2_2_true (val : Nat → Int) : evCall (envC Try.prog val (remsOf [(3, 2), (5, 2)]) (fun _ _ => none) noGlob nlmCfg [nlmo12, nlmo168]) 100000 3000 3 [.sym .u8 0, .sym .u8 1, .bool true] emptySt toldTrue = some () := by kernel_rfl
theorem nlmOk_2_2_true : OrcsG Try.prog noGlob [nlmo12, nlmo168] := (OrcsG.more nlmo12_ok (OrcsG.more nlmo168_ok OrcsG.nil))
theorem nlmCase_2_2_false (val : Nat → Int) : evCall (envC Try.prog val (remsOf [(3, 2), (5, 2)]) (fun _ _ => none) noGlob nlmCfg [nlmo12, nlmo170]) 100000 3000 3 [.sym .u8 0, .sym .u8 1, .bool false] emptySt toldTrue = some () := by kernel_rfl
theorem nlmOk_2_2_false : OrcsG Try.prog noGlob [nlmo12, nlmo170] := (OrcsG.more nlmo12_ok (OrcsG.more nlmo170_ok OrcsG.nil))
theorem nlmCase_2_3_true (val : Nat → Int) : evCall (envC Try.prog val (remsOf [(3, 2), (5, 3)]) (fun _ _ => none) noGlob nlmCfg [nlmo12, nlmo187]) 100000 3000 3 [.sym .u8 0, .sym .u8 1, .bool true] emptySt toldTrue = some () := by kernel_rfl
theorem nlmOk_2_3_true : OrcsG Try.prog noGlob [nlmo12, nlmo187] := (OrcsG.more nlmo12_ok (OrcsG.more nlmo187_ok OrcsG.nil))
theorem nlmCase_2_3_false (val : Nat → Int) : evCall (envC Try.prog val (remsOf [(3, 2), (5, 3)]) (fun _ _ => none) noGlob nlmCfg [nlmo12, nlmo189]) 100000 3000 3 [.sym .u8 0, .sym .u8 1, .bool false] emptySt toldTrue = some () := by kernel_rfl
theorem nlmOk_2_3_false : OrcsG Try.prog noGlob [nlmo12, nlmo189] := (OrcsG.more nlmo12_ok (OrcsG.more nlmo189_ok OrcsG.nil))
theorem nlmCase_2_4_true (val : Nat → Int) : evCall (envC Try.prog val (remsOf [(3, 2), (5, 4)]) (fun _ _ => none) noGlob nlmCfg [nlmo12, nlmo206]) 100000 3000 3 [.sym .u8 0, .sym .u8 1, .bool true] emptySt toldTrue = some () := by kernel_rfl
theorem nlmOk_2_4_true : OrcsG Try.prog noGlob [nlmo12, nlmo206] := (OrcsG.more nlmo12_ok (OrcsG.more nlmo206_ok OrcsG.nil))
theorem nlmCase_2_4_false (val : Nat → Int) : evCall (envC Try.prog val (remsOf [(3, 2), (5, 4)]) (fun _ _ => none) noGlob nlmCfg [nlmo12, nlmo208]) 100000 3000 3 [.sym .u8 0, .sym .u8 1, .bool false] emptySt toldTrue = some () := by kernel_rfl
theorem nlmOk_2_4_false : OrcsG Try.prog noGlob [nlmo12, nlmo208] := (OrcsG.more nlmo12_ok (OrcsG.more nlmo208_ok OrcsG.nil))
end Go.Proofs.Ytdclcnfdfmmnmaa
