/- EvalStrings: cases of it. -/
import Derived.Test.YtgidgiidcnlpbaaGreatDoorEEst0
import Derived.Test.YtgidgiidcnlpbaaGreatDoorEEstB0
import Derived.Test.YtgidgiidcnlpbaaGreatDoorEEstB1
import Derived.Test.YtgidgiidcnlpbaaGreatDoorEEstB10
import Derived.Test.YtgidgiidcnlpbaaGreatDoorEEstB11
import Derived.Test.YtgidgiidcnlpbaaGreatDoorEEstB12
import Derived.Test.YtgidgiidcnlpbaaGreatDoorEEstB13
import Derived.Test.YtgidgiidcnlpbaaGreatDoorEEstB14
import Derived.Test.YtgidgiidcnlpbaaGreatDoorEEstB15
import Derived.Test.YtgidgiidcnlpbaaGreatDoorEEstB16
import Derived.Test.YtgidgiidcnlpbaaGreatDoorEEstB17
import Derived.Test.YtgidgiidcnlpbaaGreatDoorEEstB18
import Derived.Test.YtgidgiidcnlpbaaGreatDoorEEstB2
import Derived.Test.YtgidgiidcnlpbaaGreatDoorEEstB3
import Derived.Test.YtgidgiidcnlpbaaGreatDoorEEstB4
import Derived.Test.YtgidgiidcnlpbaaGreatDoorEEstB5
import Derived.Test.YtgidgiidcnlpbaaGreatDoorEEstB6
import Derived.Test.YtgidgiidcnlpbaaGreatDoorEEstB7
import Derived.Test.YtgidgiidcnlpbaaGreatDoorEEstB8
import Derived.Test.YtgidgiidcnlpbaaGreatDoorEEstB9
set_option linter.unusedSimpArgs false
set_option linter.unusedVariables false
set_option maxRecDepth 100000
namespace Go.Proofs.YtgidgiidcnlpbaaGreatDoor
open Go.VE

theorem estCase_0_0 (val : Nat → Int) : evCall (envC Tryz.prog val (remsOf [(10, 0), (12, 0)]) (fun _ _ => none) noGlob estCfg [esto21, esto31, esto32, esto33]) 100000 3000 4 [.sym .u8 0, .sym .u8 1] emptySt toldTrue = some () := by kernel_rfl
theorem estOk_0_0 : OrcsG Tryz.prog noGlob [esto21, esto31, esto32, esto33] := (OrcsG.more esto21_ok (OrcsG.more esto31_ok (OrcsG.more esto32_ok (OrcsG.more esto33_ok OrcsG.nil))))
theorem estCase_0_1 (val : Nat → Int) : evCall (envC Tryz.prog val (remsOf [(10, 0), (12, 1)]) (fun _ _ => none) noGlob estCfg [esto21, esto35, esto36, esto37]) 100000 3000 4 [.sym .u8 0, .sym .u8 1] emptySt toldTrue = some () := by kernel_rfl
theorem estOk_0_1 : OrcsG Tryz.prog noGlob [esto21, esto35, esto36, esto37] := (OrcsG.more esto21_ok (OrcsG.more esto35_ok (OrcsG.more esto36_ok (OrcsG.more esto37_ok OrcsG.nil))))
theorem estCase_0_2 (val : Nat → Int) : evCall (envC Tryz.prog val (remsOf [(10, 0), (12, 2)]) (fun _ _ => none) noGlob estCfg [esto21, esto39, esto40, esto41]) 100000 3000 4 [.sym .u8 0, .sym .u8 1] emptySt toldTrue = some () := by kernel_rfl
theorem estOk_0_2 : OrcsG Tryz.prog noGlob [esto21, esto39, esto40, esto41] := (OrcsG.more esto21_ok (OrcsG.more esto39_ok (OrcsG.more esto40_ok (OrcsG.more esto41_ok OrcsG.nil))))
theorem estCase_0_3 (val : Nat → Int) : evCall (envC Tryz.prog val (remsOf [(10, 0), (12, 3)]) (fun _ _ => none) noGlob estCfg [esto21, esto43, esto44, esto45]) 100000 3000 4 [.sym .u8 0, .sym .u8 1] emptySt toldTrue = some () := by kernel_rfl
theorem estOk_0_3 : OrcsG Tryz.prog noGlob [esto21, esto43, esto44, esto45] := (OrcsG.more esto21_ok (OrcsG.more esto43_ok (OrcsG.more esto44_ok (OrcsG.more esto45_ok OrcsG.nil))))
theorem estCase_0_4 (val : Nat → Int) : evCall (envC Tryz.prog val (remsOf [(10, 0), (12, 4)]) (fun _ _ => none) noGlob estCfg [esto21, esto47, esto48, esto49]) 100000 3000 4 [.sym .u8 0, .sym .u8 1] emptySt toldTrue = some () := by kernel_rfl
theorem estOk_0_4 : OrcsG Tryz.prog noGlob [esto21, esto47, esto48, esto49] := (OrcsG.more esto21_ok (OrcsG.more esto47_ok (OrcsG.more esto48_ok (OrcsG.more esto49_ok OrcsG.nil))))
theorem estCase_0_5 (val : Nat → Int) : evCall (envC Tryz.prog val (remsOf [(10, 0), (12, 5)]) (fun _ _ => none) noGlob estCfg [esto21, esto51, esto52, esto53]) 100000 3000 4 [.sym .u8 0, .sym .u8 1] emptySt toldTrue = some () := by kernel_rfl
theorem estOk_0_5 : OrcsG Tryz.prog noGlob [esto21, esto51, esto52, esto53] := (OrcsG.more esto21_ok (OrcsG.more esto51_ok (OrcsG.more esto52_ok (OrcsG.more esto53_ok OrcsG.nil))))
theorem estCase_0_6 (val : Nat → Int) : evCall (envC Tryz.prog val (remsOf [(10, 0), (12, 6)]) (fun _ _ => none) noGlob estCfg [esto21, esto55, esto56, esto57]) 100000 3000 4 [.sym .u8 0, .sym .u8 1] emptySt toldTrue = some () := by kernel_rfl
theorem estOk_0_6 : OrcsG Tryz.prog noGlob [esto21, esto55, esto56, esto57] := (OrcsG.more esto21_ok (OrcsG.more esto55_ok (OrcsG.more esto56_ok (OrcsG.more esto57_ok OrcsG.nil))))
theorem estCase_0_7 (val : Nat → Int) : evCall (envC Tryz.prog val (remsOf [(10, 0), (12, 7)]) (fun _ _ => none) noGlob estCfg [esto21, esto59, esto60, esto61]) 100000 3000 4 [.sym .u8 0, .sym .u8 1] emptySt toldTrue = some () := by kernel_rfl
theorem estOk_0_7 : OrcsG Tryz.prog noGlob [esto21, esto59, esto60, esto61] := (OrcsG.more esto21_ok (OrcsG.more esto59_ok (OrcsG.more esto60_ok (OrcsG.more esto61_ok OrcsG.nil))))
theorem estCase_0_8 (val : Nat → Int) : evCall (envC Tryz.prog val (remsOf [(10, 0), (12, 8)]) (fun _ _ => none) noGlob estCfg [esto21, esto63, esto64, esto65]) 100000 3000 4 [.sym .u8 0, .sym .u8 1] emptySt toldTrue = some () := by kernel_rfl
theorem estOk_0_8 : OrcsG Tryz.prog noGlob [esto21, esto63, esto64, esto65] := (OrcsG.more esto21_ok (OrcsG.more esto63_ok (OrcsG.more esto64_ok (OrcsG.more esto65_ok OrcsG.nil))))
theorem estCase_0_9 (val : Nat → Int) : evCall (envC Tryz.prog val (remsOf [(10, 0), (12, 9)]) (fun _ _ => none) noGlob estCfg [esto21, esto67, esto68, esto69]) 100000 3000 4 [.sym .u8 0, .sym .u8 1] emptySt toldTrue = some () := by kernel_rfl
theorem estOk_0_9 : OrcsG Tryz.prog noGlob [esto21, esto67, esto68, esto69] := (OrcsG.more esto21_ok (OrcsG.more esto67_ok (OrcsG.more esto68_ok (OrcsG.more esto69_ok OrcsG.nil))))
theorem estCase_0_10 (val : Nat → Int) : evCall (envC Tryz.prog val (remsOf [(10, 0), (12, 10)]) (fun _ _ => none) noGlob estCfg [esto21, esto71, esto72, esto73]) 100000 3000 4 [.sym .u8 0, .sym .u8 1] emptySt toldTrue = some () := by kernel_rfl
theorem estOk_0_10 : OrcsG Tryz.prog noGlob [esto21, esto71, esto72, esto73] := (OrcsG.more esto21_ok (OrcsG.more esto71_ok (OrcsG.more esto72_ok (OrcsG.more esto73_ok OrcsG.nil))))
theorem estCase_0_11 (val : Nat → Int) : evCall (envC Tryz.prog val (remsOf [(10, 0), (12, 11)]) (fun _ _ => none) noGlob estCfg [esto21, esto75, esto76, esto77]) 100000 3000 4 [.sym .u8 0, .sym .u8 1] emptySt toldTrue = some () := by kernel_rfl
theorem estOk_0_11 : OrcsG Tryz.prog noGlob [esto21, esto75, esto76, esto77] := (OrcsG.more esto21_ok (OrcsG.more esto75_ok (OrcsG.more esto76_ok (OrcsG.more esto77_ok OrcsG.nil))))
theorem estCase_1_0 (val : Nat → Int) : evCall (envC Tryz.prog val (remsOf [(10, 1), (12, 0)]) (fun _ _ => none) noGlob estCfg [esto21, esto79, esto80, esto81]) 100000 3000 4 [.sym .u8 0, .sym .u8 1] emptySt toldTrue = some () := by kernel_rfl
theorem estOk_1_0 : OrcsG Tryz.prog noGlob [esto21, esto79, esto80, esto81] := (OrcsG.more esto21_ok (OrcsG.more esto79_ok (OrcsG.more esto80_ok (OrcsG.more esto81_ok OrcsG.nil))))
theorem estCase_1_1 (val : Nat → Int) : evCall (envC Tryz.prog val (remsOf [(10, 1), (12, 1)]) (fun _ _ => none) noGlob estCfg [esto21, esto83, esto84, esto85]) 100000 3000 4 [.sym .u8 0, .sym .u8 1] emptySt toldTrue = some () := by kernel_rfl
theorem estOk_1_1 : OrcsG Tryz.prog noGlob [esto21, esto83, esto84, esto85] := (OrcsG.more esto21_ok (OrcsG.more esto83_ok (OrcsG.more esto84_ok (OrcsG.more esto85_ok OrcsG.nil))))
theorem estCase_1_2 (val : Nat → Int) : evCall (envC Tryz.prog val (remsOf [(10, 1), (12, 2)]) (fun _ _ => none) noGlob estCfg [esto21, esto87, esto88, esto89]) 100000 3000 4 [.sym .u8 0, .sym .u8 1] emptySt toldTrue = some () := by kernel_rfl
theorem estOk_1_2 : OrcsG Tryz.prog noGlob [esto21, esto87, esto88, esto89] := (OrcsG.more esto21_ok (OrcsG.more esto87_ok (OrcsG.more esto88_ok (OrcsG.more esto89_ok OrcsG.nil))))
theorem estCase_1_3 (val : Nat → Int) : evCall (envC Tryz.prog val (remsOf [(10, 1), (12, 3)]) (fun _ _ => none) noGlob estCfg [esto21, esto91, esto92, esto93]) 100000 3000 4 [.sym .u8 0, .sym .u8 1] emptySt toldTrue = some () := by kernel_rfl
theorem estOk_1_3 : OrcsG Tryz.prog noGlob [esto21, esto91, esto92, esto93] := (OrcsG.more esto21_ok (OrcsG.more esto91_ok (OrcsG.more esto92_ok (OrcsG.more esto93_ok OrcsG.nil))))
theorem estCase_1_4 (val : Nat → Int) : evCall (envC Tryz.prog val (remsOf [(10, 1), (12, 4)]) (fun _ _ => none) noGlob estCfg [esto21, esto95, esto96, esto97]) 100000 3000 4 [.sym .u8 0, .sym .u8 1] emptySt toldTrue = some () := by kernel_rfl
theorem estOk_1_4 : OrcsG Tryz.prog noGlob [esto21, esto95, esto96, esto97] := (OrcsG.more esto21_ok (OrcsG.more esto95_ok (OrcsG.more esto96_ok (OrcsG.more esto97_ok OrcsG.nil))))
theorem estCase_1_5 (val : Nat → Int) : evCall (envC Tryz.prog val (remsOf [(10, 1), (12, 5)]) (fun _ _ => none) noGlob estCfg [esto21, esto99, esto100, esto101]) 100000 3000 4 [.sym .u8 0, .sym .u8 1] emptySt toldTrue = some () := by kernel_rfl
theorem estOk_1_5 : OrcsG Tryz.prog noGlob [esto21, esto99, esto100, esto101] := (OrcsG.more esto21_ok (OrcsG.more esto99_ok (OrcsG.more esto100_ok (OrcsG.more esto101_ok OrcsG.nil))))
theorem estCase_1_6 (val : Nat → Int) : evCall (envC Tryz.prog val (remsOf [(10, 1), (12, 6)]) (fun _ _ => none) noGlob estCfg [esto21, esto103, esto104, esto105]) 100000 3000 4 [.sym .u8 0, .sym .u8 1] emptySt toldTrue = some () := by kernel_rfl
theorem estOk_1_6 : OrcsG Tryz.prog noGlob [esto21, esto103, esto104, esto105] := (OrcsG.more esto21_ok (OrcsG.more esto103_ok (OrcsG.more esto104_ok (OrcsG.more esto105_ok OrcsG.nil))))
theorem estCase_1_7 (val : Nat → Int) : evCall (envC Tryz.prog val (remsOf [(10, 1), (12, 7)]) (fun _ _ => none) noGlob estCfg [esto21, esto107, esto108, esto109]) 100000 3000 4 [.sym .u8 0, .sym .u8 1] emptySt toldTrue = some () := by kernel_rfl
theorem estOk_1_7 : OrcsG Tryz.prog noGlob [esto21, esto107, esto108, esto109] := (OrcsG.more esto21_ok (OrcsG.more esto107_ok (OrcsG.more esto108_ok (OrcsG.more esto109_ok OrcsG.nil))))
theorem estCase_1_8 (val : Nat → Int) : evCall (envC Tryz.prog val (remsOf [(10, 1), (12, 8)]) (fun _ _ => none) noGlob estCfg [esto21, esto111, esto112, esto113]) 100000 3000 4 [.sym .u8 0, .sym .u8 1] emptySt toldTrue = some () := by kernel_rfl
theorem estOk_1_8 : OrcsG Tryz.prog noGlob [esto21, esto111, esto112, esto113] := (OrcsG.more esto21_ok (OrcsG.more esto111_ok (OrcsG.more esto112_ok (OrcsG.more esto113_ok OrcsG.nil))))
theorem estCase_1_9 (val : Nat → Int) : evCall (envC Tryz.prog val (remsOf [(10, 1), (12, 9)]) (fun _ _ => none) noGlob estCfg [esto21, esto115, esto116, esto117]) 100000 3000 4 [.sym .u8 0, .sym .u8 1] emptySt toldTrue = some () := by kernel_rfl
theorem estOk_1_9 : OrcsG Tryz.prog noGlob [esto21, esto115, esto116, esto117] := (OrcsG.more esto21_ok (OrcsG.more esto115_ok (OrcsG.more esto116_ok (OrcsG.more esto117_ok OrcsG.nil))))
theorem estCase_1_10 (val : Nat → Int) : evCall (envC Tryz.prog val (remsOf [(10, 1), (12, 10)]) (fun _ _ => none) noGlob estCfg [esto21, esto119, esto120, esto121]) 100000 3000 4 [.sym .u8 0, .sym .u8 1] emptySt toldTrue = some () := by kernel_rfl
theorem estOk_1_10 : OrcsG Tryz.prog noGlob [esto21, esto119, esto120, esto121] := (OrcsG.more esto21_ok (OrcsG.more esto119_ok (OrcsG.more esto120_ok (OrcsG.more esto121_ok OrcsG.nil))))
theorem estCase_1_11 (val : Nat → Int) : evCall (envC Tryz.prog val (remsOf [(10, 1), (12, 11)]) (fun _ _ => none) noGlob estCfg [esto21, esto123, esto124, esto125]) 100000 3000 4 [.sym .u8 0, .sym .u8 1] emptySt toldTrue = some () := by kernel_rfl
theorem estOk_1_11 : OrcsG Tryz.prog noGlob [esto21, esto123, esto124, esto125] := (OrcsG.more esto21_ok (OrcsG.more esto123_ok (OrcsG.more esto124_ok (OrcsG.more esto125_ok OrcsG.nil))))
theorem estCase_2_0 (val : Nat → Int) : evCall (envC Tryz.prog val (remsOf [(10, 2), (12, 0)]) (fun _ _ => none) noGlob estCfg [esto21, esto127, esto128, esto129]) 100000 3000 4 [.sym .u8 0, .sym .u8 1] emptySt toldTrue = some () := by kernel_rfl
theorem estOk_2_0 : OrcsG Tryz.prog noGlob [esto21, esto127, esto128, esto129] := (OrcsG.more esto21_ok (OrcsG.more esto127_ok (OrcsG.more esto128_ok (OrcsG.more esto129_ok OrcsG.nil))))
theorem estCase_2_1 (val : Nat → Int) : evCall (envC Tryz.prog val (remsOf [(10, 2), (12, 1)]) (fun _ _ => none) noGlob estCfg [esto21, esto131, esto132, esto133]) 100000 3000 4 [.sym .u8 0, .sym .u8 1] emptySt toldTrue = some () := by kernel_rfl
theorem estOk_2_1 : OrcsG Tryz.prog noGlob [esto21, esto131, esto132, esto133] := (OrcsG.more esto21_ok (OrcsG.more esto131_ok (OrcsG.more esto132_ok (OrcsG.more esto133_ok OrcsG.nil))))
theorem estCase_2_2 (val : Nat → Int) : evCall (envC Tryz.prog val (remsOf [(10, 2), (12, 2)]) (fun _ _ => none) noGlob estCfg [esto21, esto135, esto136, esto137]) 100000 3000 4 [.sym .u8 0, .sym .u8 1] emptySt toldTrue = some () := by kernel_rfl
theorem estOk_2_2 : OrcsG Tryz.prog noGlob [esto21, esto135, esto136, esto137] := (OrcsG.more esto21_ok (OrcsG.more esto135_ok (OrcsG.more esto136_ok (OrcsG.more esto137_ok OrcsG.nil))))
theorem estCase_2_3 (val : Nat → Int) : evCall (envC Tryz.prog val (remsOf [(10, 2), (12, 3)]) (fun _ _ => none) noGlob estCfg [esto21, esto139, esto140, esto141]) 100000 3000 4 [.sym .u8 0, .sym .u8 1] emptySt toldTrue = some () := by kernel_rfl
theorem estOk_2_3 : OrcsG Tryz.prog noGlob [esto21, esto139, esto140, esto141] := (OrcsG.more esto21_ok (OrcsG.more esto139_ok (OrcsG.more esto140_ok (OrcsG.more esto141_ok OrcsG.nil))))
theorem estCase_2_4 (val : Nat → Int) : evCall (envC Tryz.prog val (remsOf [(10, 2), (12, 4)]) (fun _ _ => none) noGlob estCfg [esto21, esto143, esto144, esto145]) 100000 3000 4 [.sym .u8 0, .sym .u8 1] emptySt toldTrue = some () := by kernel_rfl
theorem estOk_2_4 : OrcsG Tryz.prog noGlob [esto21, esto143, esto144, esto145] := (OrcsG.more esto21_ok (OrcsG.more esto143_ok (OrcsG.more esto144_ok (OrcsG.more esto145_ok OrcsG.nil))))
theorem estCase_2_5 (val : Nat → Int) : evCall (envC Tryz.prog val (remsOf [(10, 2), (12, 5)]) (fun _ _ => none) noGlob estCfg [esto21, esto147, esto148, esto149]) 100000 3000 4 [.sym .u8 0, .sym .u8 1] emptySt toldTrue = some () := by kernel_rfl
theorem estOk_2_5 : OrcsG Tryz.prog noGlob [esto21, esto147, esto148, esto149] := (OrcsG.more esto21_ok (OrcsG.more esto147_ok (OrcsG.more esto148_ok (OrcsG.more esto149_ok OrcsG.nil))))
theorem estCase_2_6 (val : Nat → Int) : evCall (envC Tryz.prog val (remsOf [(10, 2), (12, 6)]) (fun _ _ => none) noGlob estCfg [esto21, esto151, esto152, esto153]) 100000 3000 4 [.sym .u8 0, .sym .u8 1] emptySt toldTrue = some () := by kernel_rfl
theorem estOk_2_6 : OrcsG Tryz.prog noGlob [esto21, esto151, esto152, esto153] := (OrcsG.more esto21_ok (OrcsG.more esto151_ok (OrcsG.more esto152_ok (OrcsG.more esto153_ok OrcsG.nil))))
theorem estCase_2_7 (val : Nat → Int) : evCall (envC Tryz.prog val (remsOf [(10, 2), (12, 7)]) (fun _ _ => none) noGlob estCfg [esto21, esto155, esto156, esto157]) 100000 3000 4 [.sym .u8 0, .sym .u8 1] emptySt toldTrue = some () := by kernel_rfl
theorem estOk_2_7 : OrcsG Tryz.prog noGlob [esto21, esto155, esto156, esto157] := (OrcsG.more esto21_ok (OrcsG.more esto155_ok (OrcsG.more esto156_ok (OrcsG.more esto157_ok OrcsG.nil))))
theorem estCase_2_8 (val : Nat → Int) : evCall (envC Tryz.prog val (remsOf [(10, 2), (12, 8)]) (fun _ _ => none) noGlob estCfg [esto21, esto159, esto160, esto161]) 100000 3000 4 [.sym .u8 0, .sym .u8 1] emptySt toldTrue = some () := by kernel_rfl
theorem estOk_2_8 : OrcsG Tryz.prog noGlob [esto21, esto159, esto160, esto161] := (OrcsG.more esto21_ok (OrcsG.more esto159_ok (OrcsG.more esto160_ok (OrcsG.more esto161_ok OrcsG.nil))))
theorem estCase_2_9 (val : Nat → Int) : evCall (envC Tryz.prog val (remsOf [(10, 2), (12, 9)]) (fun _ _ => none) noGlob estCfg [esto21, esto163, esto164, esto165]) 100000 3000 4 [.sym .u8 0, .sym .u8 1] emptySt toldTrue = some () := by kernel_rfl
theorem estOk_2_9 : OrcsG Tryz.prog noGlob [esto21, esto163, esto164, esto165] := (OrcsG.more esto21_ok (OrcsG.more esto163_ok (OrcsG.more esto164_ok (OrcsG.more esto165_ok OrcsG.nil))))
theorem estCase_2_10 (val : Nat → Int) : evCall (envC Tryz.prog val (remsOf [(10, 2), (12, 10)]) (fun _ _ => none) noGlob estCfg [esto21, esto167, esto168, esto169]) 100000 3000 4 [.sym .u8 0, .sym .u8 1] emptySt toldTrue = some () := by kernel_rfl
theorem estOk_2_10 : OrcsG Tryz.prog noGlob [esto21, esto167, esto168, esto169] := (OrcsG.more esto21_ok (OrcsG.more esto167_ok (OrcsG.more esto168_ok (OrcsG.more esto169_ok OrcsG.nil))))
theorem estCase_2_11 (val : Nat → Int) : evCall (envC Tryz.prog val (remsOf [(10, 2), (12, 11)]) (fun _ _ => none) noGlob estCfg [esto21, esto171, esto172, esto173]) 100000 3000 4 [.sym .u8 0, .sym .u8 1] emptySt toldTrue = some () := by kernel_rfl
theorem estOk_2_11 : OrcsG Tryz.prog noGlob [esto21, esto171, esto172, esto173] := (OrcsG.more esto21_ok (OrcsG.more esto171_ok (OrcsG.more esto172_ok (OrcsG.more esto173_ok OrcsG.nil))))
theorem estCase_3_0 (val : Nat → Int) : evCall (envC Tryz.prog val (remsOf [(10, 3), (12, 0)]) (fun _ _ => none) noGlob estCfg [esto21, esto175, esto176, esto177]) 100000 3000 4 [.sym .u8 0, .sym .u8 1] emptySt toldTrue = some () := by kernel_rfl
theorem estOk_3_0 : OrcsG Tryz.prog noGlob [esto21, esto175, esto176, esto177] := (OrcsG.more esto21_ok (OrcsG.more esto175_ok (OrcsG.more esto176_ok (OrcsG.more esto177_ok OrcsG.nil))))
theorem estCase_3_1 (val : Nat → Int) : evCall (envC Tryz.prog val (remsOf [(10, 3), (12, 1)]) (fun _ _ => none) noGlob estCfg [esto21, esto179, esto180, esto181]) 100000 3000 4 [.sym .u8 0, .sym .u8 1] emptySt toldTrue = some () := by kernel_rfl
theorem estOk_3_1 : OrcsG Tryz.prog noGlob [esto21, esto179, esto180, esto181] := (OrcsG.more esto21_ok (OrcsG.more esto179_ok (OrcsG.more esto180_ok (OrcsG.more esto181_ok OrcsG.nil))))
theorem estCase_3_2 (val : Nat → Int) : evCall (envC Tryz.prog val (remsOf [(10, 3), (12, 2)]) (fun _ _ => none) noGlob estCfg [esto21, esto183, esto184, esto185]) 100000 3000 4 [.sym .u8 0, .sym .u8 1] emptySt toldTrue = some () := by kernel_rfl
theorem estOk_3_2 : OrcsG Tryz.prog noGlob [esto21, esto183, esto184, esto185] := (OrcsG.more esto21_ok (OrcsG.more esto183_ok (OrcsG.more esto184_ok (OrcsG.more esto185_ok OrcsG.nil))))
theorem estCase_3_3 (val : Nat → Int) : evCall (envC Tryz.prog val (remsOf [(10, 3), (12, 3)]) (fun _ _ => none) noGlob estCfg [esto21, esto187, esto188, esto189]) 100000 3000 4 [.sym .u8 0, .sym .u8 1] emptySt toldTrue = some () := by kernel_rfl
theorem estOk_3_3 : OrcsG Tryz.prog noGlob [esto21, esto187, esto188, esto189] := (OrcsG.more esto21_ok (OrcsG.more esto187_ok (OrcsG.more esto188_ok (OrcsG.more esto189_ok OrcsG.nil))))
theorem estCase_3_4 (val : Nat → Int) : evCall (envC Tryz.prog val (remsOf [(10, 3), (12, 4)]) (fun _ _ => none) noGlob estCfg [esto21, esto191, esto192, esto193]) 100000 3000 4 [.sym .u8 0, .sym .u8 1] emptySt toldTrue = some () := by kernel_rfl
theorem estOk_3_4 : OrcsG Tryz.prog noGlob [esto21, esto191, esto192, esto193] := (OrcsG.more esto21_ok (OrcsG.more esto191_ok (OrcsG.more esto192_ok (OrcsG.more esto193_ok OrcsG.nil))))
theorem estCase_3_5 (val : Nat → Int) : evCall (envC Tryz.prog val (remsOf [(10, 3), (12, 5)]) (fun _ _ => none) noGlob estCfg [esto21, esto195, esto196, esto197]) 100000 3000 4 [.sym .u8 0, .sym .u8 1] emptySt toldTrue = some () := by kernel_rfl
theorem estOk_3_5 : OrcsG Tryz.prog noGlob [esto21, esto195, esto196, esto197] := (OrcsG.more esto21_ok (OrcsG.more esto195_ok (OrcsG.more esto196_ok (OrcsG.more esto197_ok OrcsG.nil))))
theorem estCase_3_6 (val : Nat → Int) : evCall (envC Tryz.prog val (remsOf [(10, 3), (12, 6)]) (fun _ _ => none) noGlob estCfg [esto21, esto199, esto200, esto201]) 100000 3000 4 [.sym .u8 0, .sym .u8 1] emptySt toldTrue = some () := by kernel_rfl
theorem estOk_3_6 : OrcsG Tryz.prog noGlob [esto21, esto199, esto200, esto201] := (OrcsG.more esto21_ok (OrcsG.more esto199_ok (OrcsG.more esto200_ok (OrcsG.more esto201_ok OrcsG.nil))))
theorem estCase_3_7 (val : Nat → Int) : evCall (envC Tryz.prog val (remsOf [(10, 3), (12, 7)]) (fun _ _ => none) noGlob estCfg [esto21, esto203, esto204, esto205]) 100000 3000 4 [.sym .u8 0, .sym .u8 1] emptySt toldTrue = some () := by kernel_rfl
theorem estOk_3_7 : OrcsG Tryz.prog noGlob [esto21, esto203, esto204, esto205] := (OrcsG.more esto21_ok (OrcsG.more esto203_ok (OrcsG.more esto204_ok (OrcsG.more esto205_ok OrcsG.nil))))
theorem estCase_3_8 (val : Nat → Int) : evCall (envC Tryz.prog val (remsOf [(10, 3), (12, 8)]) (fun _ _ => none) noGlob estCfg [esto21, esto207, esto208, esto209]) 100000 3000 4 [.sym .u8 0, .sym .u8 1] emptySt toldTrue = some () := by kernel_rfl
theorem estOk_3_8 : OrcsG Tryz.prog noGlob [esto21, esto207, esto208, esto209] := (OrcsG.more esto21_ok (OrcsG.more esto207_ok (OrcsG.more esto208_ok (OrcsG.more esto209_ok OrcsG.nil))))
theorem estCase_3_9 (val : Nat → Int) : evCall (envC Tryz.prog val (remsOf [(10, 3), (12, 9)]) (fun _ _ => none) noGlob estCfg [esto21, esto211, esto212, esto213]) 100000 3000 4 [.sym .u8 0, .sym .u8 1] emptySt toldTrue = some () := by kernel_rfl
theorem estOk_3_9 : OrcsG Tryz.prog noGlob [esto21, esto211, esto212, esto213] := (OrcsG.more esto21_ok (OrcsG.more esto211_ok (OrcsG.more esto212_ok (OrcsG.more esto213_ok OrcsG.nil))))
theorem estCase_3_10 (val : Nat → Int) : evCall (envC Tryz.prog val (remsOf [(10, 3), (12, 10)]) (fun _ _ => none) noGlob estCfg [esto21, esto215, esto216, esto217]) 100000 3000 4 [.sym .u8 0, .sym .u8 1] emptySt toldTrue = some () := by kernel_rfl
theorem estOk_3_10 : OrcsG Tryz.prog noGlob [esto21, esto215, esto216, esto217] := (OrcsG.more esto21_ok (OrcsG.more esto215_ok (OrcsG.more esto216_ok (OrcsG.more esto217_ok OrcsG.nil))))
theorem estCase_3_11 (val : Nat → Int) : evCall (envC Tryz.prog val (remsOf [(10, 3), (12, 11)]) (fun _ _ => none) noGlob estCfg [esto21, esto219, esto220, esto221]) 100000 3000 4 [.sym .u8 0, .sym .u8 1] emptySt toldTrue = some () := by kernel_rfl
theorem estOk_3_11 : OrcsG Tryz.prog noGlob [esto21, esto219, esto220, esto221] := (OrcsG.more esto21_ok (OrcsG.more esto219_ok (OrcsG.more esto220_ok (OrcsG.more esto221_ok OrcsG.nil))))
theorem estCase_4_0 (val : Nat → Int) : evCall (envC Tryz.prog val (remsOf [(10, 4), (12, 0)]) (fun _ _ => none) noGlob estCfg [esto21, esto223, esto224, esto225]) 100000 3000 4 [.sym .u8 0, .sym .u8 1] emptySt toldTrue = some () := by kernel_rfl
theorem estOk_4_0 : OrcsG Tryz.prog noGlob [esto21, esto223, esto224, esto225] := (OrcsG.more esto21_ok (OrcsG.more esto223_ok (OrcsG.more esto224_ok (OrcsG.more esto225_ok OrcsG.nil))))
theorem estCase_4_1 (val : Nat → Int) : evCall (envC Tryz.prog val (remsOf [(10, 4), (12, 1)]) (fun _ _ => none) noGlob estCfg [esto21, esto227, esto228, esto229]) 100000 3000 4 [.sym .u8 0, .sym .u8 1] emptySt toldTrue = some () := by kernel_rfl
theorem estOk_4_1 : OrcsG Tryz.prog noGlob [esto21, esto227, esto228, esto229] := (OrcsG.more esto21_ok (OrcsG.more esto227_ok (OrcsG.more esto228_ok (OrcsG.more esto229_ok OrcsG.nil))))
theorem estCase_4_2 (val : Nat → Int) : evCall (envC Tryz.prog val (remsOf [(10, 4), (12, 2)]) (fun _ _ => none) noGlob estCfg [esto21, esto231, esto232, esto233]) 100000 3000 4 [.sym .u8 0, .sym .u8 1] emptySt toldTrue = some () := by kernel_rfl
theorem estOk_4_2 : OrcsG Tryz.prog noGlob [esto21, esto231, esto232, esto233] := (OrcsG.more esto21_ok (OrcsG.more esto231_ok (OrcsG.more esto232_ok (OrcsG.more esto233_ok OrcsG.nil))))
theorem estCase_4_3 (val : Nat → Int) : evCall (envC Tryz.prog val (remsOf [(10, 4), (12, 3)]) (fun _ _ => none) noGlob estCfg [esto21, esto235, esto236, esto237]) 100000 3000 4 [.sym .u8 0, .sym .u8 1] emptySt toldTrue = some () := by kernel_rfl
theorem estOk_4_3 : OrcsG Tryz.prog noGlob [esto21, esto235, esto236, esto237] := (OrcsG.more esto21_ok (OrcsG.more esto235_ok (OrcsG.more esto236_ok (OrcsG.more esto237_ok OrcsG.nil))))
theorem estCase_4_4 (val : Nat → Int) : evCall (envC Tryz.prog val (remsOf [(10, 4), (12, 4)]) (fun _ _ => none) noGlob estCfg [esto21, esto239, esto240, esto241]) 100000 3000 4 [.sym .u8 0, .sym .u8 1] emptySt toldTrue = some () := by kernel_rfl
theorem estOk_4_4 : OrcsG Tryz.prog noGlob [esto21, esto239, esto240, esto241] := (OrcsG.more esto21_ok (OrcsG.more esto239_ok (OrcsG.more esto240_ok (OrcsG.more esto241_ok OrcsG.nil))))
theorem estCase_4_5 (val : Nat → Int) : evCall (envC Tryz.prog val (remsOf [(10, 4), (12, 5)]) (fun _ _ => none) noGlob estCfg [esto21, esto243, esto244, esto245]) 100000 3000 4 [.sym .u8 0, .sym .u8 1] emptySt toldTrue = some () := by kernel_rfl
theorem estOk_4_5 : OrcsG Tryz.prog noGlob [esto21, esto243, esto244, esto245] := (OrcsG.more esto21_ok (OrcsG.more esto243_ok (OrcsG.more esto244_ok (OrcsG.more esto245_ok OrcsG.nil))))
theorem estCase_4_6 (val : Nat → Int) : evCall (envC Tryz.prog val (remsOf [(10, 4), (12, 6)]) (fun _ _ => none) noGlob estCfg [esto21, esto247, esto248, esto249]) 100000 3000 4 [.sym .u8 0, .sym .u8 1] emptySt toldTrue = some () := by kernel_rfl
theorem estOk_4_6 : OrcsG Tryz.prog noGlob [esto21, esto247, esto248, esto249] := (OrcsG.more esto21_ok (OrcsG.more esto247_ok (OrcsG.more esto248_ok (OrcsG.more esto249_ok OrcsG.nil))))
theorem estCase_4_7 (val : Nat → Int) : evCall (envC Tryz.prog val (remsOf [(10, 4), (12, 7)]) (fun _ _ => none) noGlob estCfg [esto21, esto251, esto252, esto253]) 100000 3000 4 [.sym .u8 0, .sym .u8 1] emptySt toldTrue = some () := by kernel_rfl
theorem estOk_4_7 : OrcsG Tryz.prog noGlob [esto21, esto251, esto252, esto253] := (OrcsG.more esto21_ok (OrcsG.more esto251_ok (OrcsG.more esto252_ok (OrcsG.more esto253_ok OrcsG.nil))))
theorem estCase_4_8 (val : Nat → Int) : evCall (envC Tryz.prog val (remsOf [(10, 4), (12, 8)]) (fun _ _ => none) noGlob estCfg [esto21, esto255, esto256, esto257]) 100000 3000 4 [.sym .u8 0, .sym .u8 1] emptySt toldTrue = some () := by kernel_rfl
theorem estOk_4_8 : OrcsG Tryz.prog noGlob [esto21, esto255, esto256, esto257] := (OrcsG.more esto21_ok (OrcsG.more esto255_ok (OrcsG.more esto256_ok (OrcsG.more esto257_ok OrcsG.nil))))
theorem estCase_4_9 (val : Nat → Int) : evCall (envC Tryz.prog val (remsOf [(10, 4), (12, 9)]) (fun _ _ => none) noGlob estCfg [esto21, esto259, esto260, esto261]) 100000 3000 4 [.sym .u8 0, .sym .u8 1] emptySt toldTrue = some () := by kernel_rfl
theorem estOk_4_9 : OrcsG Tryz.prog noGlob [esto21, esto259, esto260, esto261] := (OrcsG.more esto21_ok (OrcsG.more esto259_ok (OrcsG.more esto260_ok (OrcsG.more esto261_ok OrcsG.nil))))
theorem estCase_4_10 (val : Nat → Int) : evCall (envC Tryz.prog val (remsOf [(10, 4), (12, 10)]) (fun _ _ => none) noGlob estCfg [esto21, esto263, esto264, esto265]) 100000 3000 4 [.sym .u8 0, .sym .u8 1] emptySt toldTrue = some () := by kernel_rfl
theorem estOk_4_10 : OrcsG Tryz.prog noGlob [esto21, esto263, esto264, esto265] := (OrcsG.more esto21_ok (OrcsG.more esto263_ok (OrcsG.more esto264_ok (OrcsG.more esto265_ok OrcsG.nil))))
theorem estCase_4_11 (val : Nat → Int) : evCall (envC Tryz.prog val (remsOf [(10, 4), (12, 11)]) (fun _ _ => none) noGlob estCfg [esto21, esto267, esto268, esto269]) 100000 3000 4 [.sym .u8 0, .sym .u8 1] emptySt toldTrue = some () := by kernel_rfl
theorem estOk_4_11 : OrcsG Tryz.prog noGlob [esto21, esto267, esto268, esto269] := (OrcsG.more esto21_ok (OrcsG.more esto267_ok (OrcsG.more esto268_ok (OrcsG.more esto269_ok OrcsG.nil))))
theorem estCase_5_0 (val : Nat → Int) : evCall (envC Tryz.prog val (remsOf [(10, 5), (12, 0)]) (fun _ _ => none) noGlob estCfg [esto21, esto271, esto272, esto273]) 100000 3000 4 [.sym .u8 0, .sym .u8 1] emptySt toldTrue = some () := by kernel_rfl
theorem estOk_5_0 : OrcsG Tryz.prog noGlob [esto21, esto271, esto272, esto273] := (OrcsG.more esto21_ok (OrcsG.more esto271_ok (OrcsG.more esto272_ok (OrcsG.more esto273_ok OrcsG.nil))))
theorem estCase_5_1 (val : Nat → Int) : evCall (envC Tryz.prog val (remsOf [(10, 5), (12, 1)]) (fun _ _ => none) noGlob estCfg [esto21, esto275, esto276, esto277]) 100000 3000 4 [.sym .u8 0, .sym .u8 1] emptySt toldTrue = some () := by kernel_rfl
theorem estOk_5_1 : OrcsG Tryz.prog noGlob [esto21, esto275, esto276, esto277] := (OrcsG.more esto21_ok (OrcsG.more esto275_ok (OrcsG.more esto276_ok (OrcsG.more esto277_ok OrcsG.nil))))
theorem estCase_5_2 (val : Nat → Int) : evCall (envC Tryz.prog val (remsOf [(10, 5), (12, 2)]) (fun _ _ => none) noGlob estCfg [esto21, esto279, esto280, esto281]) 100000 3000 4 [.sym .u8 0, .sym .u8 1] emptySt toldTrue = some () := by kernel_rfl
theorem estOk_5_2 : OrcsG Tryz.prog noGlob [esto21, esto279, esto280, esto281] := (OrcsG.more esto21_ok (OrcsG.more esto279_ok (OrcsG.more esto280_ok (OrcsG.more esto281_ok OrcsG.nil))))
theorem estCase_5_3 (val : Nat → Int) : evCall (envC Tryz.prog val (remsOf [(10, 5), (12, 3)]) (fun _ _ => none) noGlob estCfg [esto21, esto283, esto284, esto285]) 100000 3000 4 [.sym .u8 0, .sym .u8 1] emptySt toldTrue = some () := by kernel_rfl
theorem estOk_5_3 : OrcsG Tryz.prog noGlob [esto21, esto283, esto284, esto285] := (OrcsG.more esto21_ok (OrcsG.more esto283_ok (OrcsG.more esto284_ok (OrcsG.more esto285_ok OrcsG.nil))))
theorem estCase_5_4 (val : Nat → Int) : evCall (envC Tryz.prog val (remsOf [(10, 5), (12, 4)]) (fun _ _ => none) noGlob estCfg [esto21, esto287, esto288, esto289]) 100000 3000 4 [.sym .u8 0, .sym .u8 1] emptySt toldTrue = some () := by kernel_rfl
theorem estOk_5_4 : OrcsG Tryz.prog noGlob [esto21, esto287, esto288, esto289] := (OrcsG.more esto21_ok (OrcsG.more esto287_ok (OrcsG.more esto288_ok (OrcsG.more esto289_ok OrcsG.nil))))
theorem estCase_5_5 (val : Nat → Int) : evCall (envC Tryz.prog val (remsOf [(10, 5), (12, 5)]) (fun _ _ => none) noGlob estCfg [esto21, esto291, esto292, esto293]) 100000 3000 4 [.sym .u8 0, .sym .u8 1] emptySt toldTrue = some () := by kernel_rfl
theorem estOk_5_5 : OrcsG Tryz.prog noGlob [esto21, esto291, esto292, esto293] := (OrcsG.more esto21_ok (OrcsG.more esto291_ok (OrcsG.more esto292_ok (OrcsG.more esto293_ok OrcsG.nil))))
theorem estCase_5_6 (val : Nat → Int) : evCall (envC Tryz.prog val (remsOf [(10, 5), (12, 6)]) (fun _ _ => none) noGlob estCfg [esto21, esto295, esto296, esto297]) 100000 3000 4 [.sym .u8 0, .sym .u8 1] emptySt toldTrue = some () := by kernel_rfl
theorem estOk_5_6 : OrcsG Tryz.prog noGlob [esto21, esto295, esto296, esto297] := (OrcsG.more esto21_ok (OrcsG.more esto295_ok (OrcsG.more esto296_ok (OrcsG.more esto297_ok OrcsG.nil))))
theorem estCase_5_7 (val : Nat → Int) : evCall (envC Tryz.prog val (remsOf [(10, 5), (12, 7)]) (fun _ _ => none) noGlob estCfg [esto21, esto299, esto300, esto301]) 100000 3000 4 [.sym .u8 0, .sym .u8 1] emptySt toldTrue = some () := by kernel_rfl
theorem estOk_5_7 : OrcsG Tryz.prog noGlob [esto21, esto299, esto300, esto301] := (OrcsG.more esto21_ok (OrcsG.more esto299_ok (OrcsG.more esto300_ok (OrcsG.more esto301_ok OrcsG.nil))))
theorem estCase_5_8 (val : Nat → Int) : evCall (envC Tryz.prog val (remsOf [(10, 5), (12, 8)]) (fun _ _ => none) noGlob estCfg [esto21, esto303, esto304, esto305]) 100000 3000 4 [.sym .u8 0, .sym .u8 1] emptySt toldTrue = some () := by kernel_rfl
theorem estOk_5_8 : OrcsG Tryz.prog noGlob [esto21, esto303, esto304, esto305] := (OrcsG.more esto21_ok (OrcsG.more esto303_ok (OrcsG.more esto304_ok (OrcsG.more esto305_ok OrcsG.nil))))
theorem estCase_5_9 (val : Nat → Int) : evCall (envC Tryz.prog val (remsOf [(10, 5), (12, 9)]) (fun _ _ => none) noGlob estCfg [esto21, esto307, esto308, esto309]) 100000 3000 4 [.sym .u8 0, .sym .u8 1] emptySt toldTrue = some () := by kernel_rfl
theorem estOk_5_9 : OrcsG Tryz.prog noGlob [esto21, esto307, esto308, esto309] := (OrcsG.more esto21_ok (OrcsG.more esto307_ok (OrcsG.more esto308_ok (OrcsG.more esto309_ok OrcsG.nil))))
theorem estCase_5_10 (val : Nat → Int) : evCall (envC Tryz.prog val (remsOf [(10, 5), (12, 10)]) (fun _ _ => none) noGlob estCfg [esto21, esto311, esto312, esto313]) 100000 3000 4 [.sym .u8 0, .sym .u8 1] emptySt toldTrue = some () := by kernel_rfl
theorem estOk_5_10 : OrcsG Tryz.prog noGlob [esto21, esto311, esto312, esto313] := (OrcsG.more esto21_ok (OrcsG.more esto311_ok (OrcsG.more esto312_ok (OrcsG.more esto313_ok OrcsG.nil))))
theorem estCase_5_11 (val : Nat → Int) : evCall (envC Tryz.prog val (remsOf [(10, 5), (12, 11)]) (fun _ _ => none) noGlob estCfg [esto21, esto315, esto316, esto317]) 100000 3000 4 [.sym .u8 0, .sym .u8 1] emptySt toldTrue = some () := by kernel_rfl
theorem estOk_5_11 : OrcsG Tryz.prog noGlob [esto21, esto315, esto316, esto317] := (OrcsG.more esto21_ok (OrcsG.more esto315_ok (OrcsG.more esto316_ok (OrcsG.more esto317_ok OrcsG.nil))))
theorem estCase_6_0 (val : Nat → Int) : evCall (envC Tryz.prog val (remsOf [(10, 6), (12, 0)]) (fun _ _ => none) noGlob estCfg [esto21, esto319, esto320, esto321]) 100000 3000 4 [.sym .u8 0, .sym .u8 1] emptySt toldTrue = some () := by kernel_rfl
theorem estOk_6_0 : OrcsG Tryz.prog noGlob [esto21, esto319, esto320, esto321] := (OrcsG.more esto21_ok (OrcsG.more esto319_ok (OrcsG.more esto320_ok (OrcsG.more esto321_ok OrcsG.nil))))
theorem estCase_6_1 (val : Nat → Int) : evCall (envC Tryz.prog val (remsOf [(10, 6), (12, 1)]) (fun _ _ => none) noGlob estCfg [esto21, esto323, esto324, esto325]) 100000 3000 4 [.sym .u8 0, .sym .u8 1] emptySt toldTrue = some () := by kernel_rfl
theorem estOk_6_1 : OrcsG Tryz.prog noGlob [esto21, esto323, esto324, esto325] := (OrcsG.more esto21_ok (OrcsG.more esto323_ok (OrcsG.more esto324_ok (OrcsG.more esto325_ok OrcsG.nil))))
theorem estCase_6_2 (val : Nat → Int) : evCall (envC Tryz.prog val (remsOf [(10, 6), (12, 2)]) (fun _ _ => none) noGlob estCfg [esto21, esto327, esto328, esto329]) 100000 3000 4 [.sym .u8 0, .sym .u8 1] emptySt toldTrue = some () := by kernel_rfl
theorem estOk_6_2 : OrcsG Tryz.prog noGlob [esto21, esto327, esto328, esto329] := (OrcsG.more esto21_ok (OrcsG.more esto327_ok (OrcsG.more esto328_ok (OrcsG.more esto329_ok OrcsG.nil))))
theorem estCase_6_3 (val : Nat → Int) : evCall (envC Tryz.prog val (remsOf [(10, 6), (12, 3)]) (fun _ _ => none) noGlob estCfg [esto21, esto331, esto332, esto333]) 100000 3000 4 [.sym .u8 0, .sym .u8 1] emptySt toldTrue = some () := by kernel_rfl
theorem estOk_6_3 : OrcsG Tryz.prog noGlob [esto21, esto331, esto332, esto333] := (OrcsG.more esto21_ok (OrcsG.more esto331_ok (OrcsG.more esto332_ok (OrcsG.more esto333_ok OrcsG.nil))))
theorem estCase_6_4 (val : Nat → Int) : evCall (envC Tryz.prog val (remsOf [(10, 6), (12, 4)]) (fun _ _ => none) noGlob estCfg [esto21, esto335, esto336, esto337]) 100000 3000 4 [.sym .u8 0, .sym .u8 1] emptySt toldTrue = some () := by kernel_rfl
theorem estOk_6_4 : OrcsG Tryz.prog noGlob [esto21, esto335, esto336, esto337] := (OrcsG.more esto21_ok (OrcsG.more esto335_ok (OrcsG.more esto336_ok (OrcsG.more esto337_ok OrcsG.nil))))
theorem estCase_6_5 (val : Nat → Int) : evCall (envC Tryz.prog val (remsOf [(10, 6), (12, 5)]) (fun _ _ => none) noGlob estCfg [esto21, esto339, esto340, esto341]) 100000 3000 4 [.sym .u8 0, .sym .u8 1] emptySt toldTrue = some () := by kernel_rfl
theorem estOk_6_5 : OrcsG Tryz.prog noGlob [esto21, esto339, esto340, esto341] := (OrcsG.more esto21_ok (OrcsG.more esto339_ok (OrcsG.more esto340_ok (OrcsG.more esto341_ok OrcsG.nil))))
theorem estCase_6_6 (val : Nat → Int) : evCall (envC Tryz.prog val (remsOf [(10, 6), (12, 6)]) (fun _ _ => none) noGlob estCfg [esto21, esto343, esto344, esto345]) 100000 3000 4 [.sym .u8 0, .sym .u8 1] emptySt toldTrue = some () := by kernel_rfl
theorem estOk_6_6 : OrcsG Tryz.prog noGlob [esto21, esto343, esto344, esto345] := (OrcsG.more esto21_ok (OrcsG.more esto343_ok (OrcsG.more esto344_ok (OrcsG.more esto345_ok OrcsG.nil))))
theorem estCase_6_7 (val : Nat → Int) : evCall (envC Tryz.prog val (remsOf [(10, 6), (12, 7)]) (fun _ _ => none) noGlob estCfg [esto21, esto347, esto348, esto349]) 100000 3000 4 [.sym .u8 0, .sym .u8 1] emptySt toldTrue = some () := by kernel_rfl
theorem estOk_6_7 : OrcsG Tryz.prog noGlob [esto21, esto347, esto348, esto349] := (OrcsG.more esto21_ok (OrcsG.more esto347_ok (OrcsG.more esto348_ok (OrcsG.more esto349_ok OrcsG.nil))))
theorem estCase_6_8 (val : Nat → Int) : evCall (envC Tryz.prog val (remsOf [(10, 6), (12, 8)]) (fun _ _ => none) noGlob estCfg [esto21, esto351, esto352, esto353]) 100000 3000 4 [.sym .u8 0, .sym .u8 1] emptySt toldTrue = some () := by kernel_rfl
theorem estOk_6_8 : OrcsG Tryz.prog noGlob [esto21, esto351, esto352, esto353] := (OrcsG.more esto21_ok (OrcsG.more esto351_ok (OrcsG.more esto352_ok (OrcsG.more esto353_ok OrcsG.nil))))
theorem estCase_6_9 (val : Nat → Int) : evCall (envC Tryz.prog val (remsOf [(10, 6), (12, 9)]) (fun _ _ => none) noGlob estCfg [esto21, esto355, esto356, esto357]) 100000 3000 4 [.sym .u8 0, .sym .u8 1] emptySt toldTrue = some () := by kernel_rfl
theorem estOk_6_9 : OrcsG Tryz.prog noGlob [esto21, esto355, esto356, esto357] := (OrcsG.more esto21_ok (OrcsG.more esto355_ok (OrcsG.more esto356_ok (OrcsG.more esto357_ok OrcsG.nil))))
theorem estCase_6_10 (val : Nat → Int) : evCall (envC Tryz.prog val (remsOf [(10, 6), (12, 10)]) (fun _ _ => none) noGlob estCfg [esto21, esto359, esto360, esto361]) 100000 3000 4 [.sym .u8 0, .sym .u8 1] emptySt toldTrue = some () := by kernel_rfl
theorem estOk_6_10 : OrcsG Tryz.prog noGlob [esto21, esto359, esto360, esto361] := (OrcsG.more esto21_ok (OrcsG.more esto359_ok (OrcsG.more esto360_ok (OrcsG.more esto361_ok OrcsG.nil))))
theorem estCase_6_11 (val : Nat → Int) : evCall (envC Tryz.prog val (remsOf [(10, 6), (12, 11)]) (fun _ _ => none) noGlob estCfg [esto21, esto363, esto364, esto365]) 100000 3000 4 [.sym .u8 0, .sym .u8 1] emptySt toldTrue = some () := by kernel_rfl
theorem estOk_6_11 : OrcsG Tryz.prog noGlob [esto21, esto363, esto364, esto365] := (OrcsG.more esto21_ok (OrcsG.more esto363_ok (OrcsG.more esto364_ok (OrcsG.more esto365_ok OrcsG.nil))))
theorem estCase_7_0 (val : Nat → Int) : evCall (envC Tryz.prog val (remsOf [(10, 7), (12, 0)]) (fun _ _ => none) noGlob estCfg [esto21, esto367, esto368, esto369]) 100000 3000 4 [.sym .u8 0, .sym .u8 1] emptySt toldTrue = some () := by kernel_rfl
theorem estOk_7_0 : OrcsG Tryz.prog noGlob [esto21, esto367, esto368, esto369] := (OrcsG.more esto21_ok (OrcsG.more esto367_ok (OrcsG.more esto368_ok (OrcsG.more esto369_ok OrcsG.nil))))
theorem estCase_7_1 (val : Nat → Int) : evCall (envC Tryz.prog val (remsOf [(10, 7), (12, 1)]) (fun _ _ => none) noGlob estCfg [esto21, esto371, esto372, esto373]) 100000 3000 4 [.sym .u8 0, .sym .u8 1] emptySt toldTrue = some () := by kernel_rfl
theorem estOk_7_1 : OrcsG Tryz.prog noGlob [esto21, esto371, esto372, esto373] := (OrcsG.more esto21_ok (OrcsG.more esto371_ok (OrcsG.more esto372_ok (OrcsG.more esto373_ok OrcsG.nil))))
theorem estCase_7_2 (val : Nat → Int) : evCall (envC Tryz.prog val (remsOf [(10, 7), (12, 2)]) (fun _ _ => none) noGlob estCfg [esto21, esto375, esto376, esto377]) 100000 3000 4 [.sym .u8 0, .sym .u8 1] emptySt toldTrue = some () := by kernel_rfl
theorem estOk_7_2 : OrcsG Tryz.prog noGlob [esto21, esto375, esto376, esto377] := (OrcsG.more esto21_ok (OrcsG.more esto375_ok (OrcsG.more esto376_ok (OrcsG.more esto377_ok OrcsG.nil))))
theorem estCase_7_3 (val : Nat → Int) : evCall (envC Tryz.prog val (remsOf [(10, 7), (12, 3)]) (fun _ _ => none) noGlob estCfg [esto21, esto379, esto380, esto381]) 100000 3000 4 [.sym .u8 0, .sym .u8 1] emptySt toldTrue = some () := by kernel_rfl
theorem estOk_7_3 : OrcsG Tryz.prog noGlob [esto21, esto379, esto380, esto381] := (OrcsG.more esto21_ok (OrcsG.more esto379_ok (OrcsG.more esto380_ok (OrcsG.more esto381_ok OrcsG.nil))))
theorem estCase_7_4 (val : Nat → Int) : evCall (envC Tryz.prog val (remsOf [(10, 7), (12, 4)]) (fun _ _ => none) noGlob estCfg [esto21, esto383, esto384, esto385]) 100000 3000 4 [.sym .u8 0, .sym .u8 1] emptySt toldTrue = some () := by kernel_rfl
theorem estOk_7_4 : OrcsG Tryz.prog noGlob [esto21, esto383, esto384, esto385] := (OrcsG.more esto21_ok (OrcsG.more esto383_ok (OrcsG.more esto384_ok (OrcsG.more esto385_ok OrcsG.nil))))
theorem estCase_7_5 (val : Nat → Int) : evCall (envC Tryz.prog val (remsOf [(10, 7), (12, 5)]) (fun _ _ => none) noGlob estCfg [esto21, esto387, esto388, esto389]) 100000 3000 4 [.sym .u8 0, .sym .u8 1] emptySt toldTrue = some () := by kernel_rfl
theorem estOk_7_5 : OrcsG Tryz.prog noGlob [esto21, esto387, esto388, esto389] := (OrcsG.more esto21_ok (OrcsG.more esto387_ok (OrcsG.more esto388_ok (OrcsG.more esto389_ok OrcsG.nil))))
theorem estCase_7_6 (val : Nat → Int) : evCall (envC Tryz.prog val (remsOf [(10, 7), (12, 6)]) (fun _ _ => none) noGlob estCfg [esto21, esto391, esto392, esto393]) 100000 3000 4 [.sym .u8 0, .sym .u8 1] emptySt toldTrue = some () := by kernel_rfl
theorem estOk_7_6 : OrcsG Tryz.prog noGlob [esto21, esto391, esto392, esto393] := (OrcsG.more esto21_ok (OrcsG.more esto391_ok (OrcsG.more esto392_ok (OrcsG.more esto393_ok OrcsG.nil))))
theorem estCase_7_7 (val : Nat → Int) : evCall (envC Tryz.prog val (remsOf [(10, 7), (12, 7)]) (fun _ _ => none) noGlob estCfg [esto21, esto395, esto396, esto397]) 100000 3000 4 [.sym .u8 0, .sym .u8 1] emptySt toldTrue = some () := by kernel_rfl
theorem estOk_7_7 : OrcsG Tryz.prog noGlob [esto21, esto395, esto396, esto397] := (OrcsG.more esto21_ok (OrcsG.more esto395_ok (OrcsG.more esto396_ok (OrcsG.more esto397_ok OrcsG.nil))))
theorem estCase_7_8 (val : Nat → Int) : evCall (envC Tryz.prog val (remsOf [(10, 7), (12, 8)]) (fun _ _ => none) noGlob estCfg [esto21, esto399, esto400, esto401]) 100000 3000 4 [.sym .u8 0, .sym .u8 1] emptySt toldTrue = some () := by kernel_rfl
theorem estOk_7_8 : OrcsG Tryz.prog noGlob [esto21, esto399, esto400, esto401] := (OrcsG.more esto21_ok (OrcsG.more esto399_ok (OrcsG.more esto400_ok (OrcsG.more esto401_ok OrcsG.nil))))
theorem estCase_7_9 (val : Nat → Int) : evCall (envC Tryz.prog val (remsOf [(10, 7), (12, 9)]) (fun _ _ => none) noGlob estCfg [esto21, esto403, esto404, esto405]) 100000 3000 4 [.sym .u8 0, .sym .u8 1] emptySt toldTrue = some () := by kernel_rfl
theorem estOk_7_9 : OrcsG Tryz.prog noGlob [esto21, esto403, esto404, esto405] := (OrcsG.more esto21_ok (OrcsG.more esto403_ok (OrcsG.more esto404_ok (OrcsG.more esto405_ok OrcsG.nil))))
theorem estCase_7_10 (val : Nat → Int) : evCall (envC Tryz.prog val (remsOf [(10, 7), (12, 10)]) (fun _ _ => none) noGlob estCfg [esto21, esto407, esto408, esto409]) 100000 3000 4 [.sym .u8 0, .sym .u8 1] emptySt toldTrue = some () := by kernel_rfl
theorem estOk_7_10 : OrcsG Tryz.prog noGlob [esto21, esto407, esto408, esto409] := (OrcsG.more esto21_ok (OrcsG.more esto407_ok (OrcsG.more esto408_ok (OrcsG.more esto409_ok OrcsG.nil))))
theorem estCase_7_11 (val : Nat → Int) : evCall (envC Tryz.prog val (remsOf [(10, 7), (12, 11)]) (fun _ _ => none) noGlob estCfg [esto21, esto411, esto412, esto413]) 100000 3000 4 [.sym .u8 0, .sym .u8 1] emptySt toldTrue = some () := by kernel_rfl
theorem estOk_7_11 : OrcsG Tryz.prog noGlob [esto21, esto411, esto412, esto413] := (OrcsG.more esto21_ok (OrcsG.more esto411_ok (OrcsG.more esto412_ok (OrcsG.more esto413_ok OrcsG.nil))))
theorem estCase_8_0 (val : Nat → Int) : evCall (envC Tryz.prog val (remsOf [(10, 8), (12, 0)]) (fun _ _ => none) noGlob estCfg [esto21, esto415, esto416, esto417]) 100000 3000 4 [.sym .u8 0, .sym .u8 1] emptySt toldTrue = some () := by kernel_rfl
theorem estOk_8_0 : OrcsG Tryz.prog noGlob [esto21, esto415, esto416, esto417] := (OrcsG.more esto21_ok (OrcsG.more esto415_ok (OrcsG.more esto416_ok (OrcsG.more esto417_ok OrcsG.nil))))
theorem estCase_8_1 (val : Nat → Int) : evCall (envC Tryz.prog val (remsOf [(10, 8), (12, 1)]) (fun _ _ => none) noGlob estCfg [esto21, esto419, esto420, esto421]) 100000 3000 4 [.sym .u8 0, .sym .u8 1] emptySt toldTrue = some () := by kernel_rfl
theorem estOk_8_1 : OrcsG Tryz.prog noGlob [esto21, esto419, esto420, esto421] := (OrcsG.more esto21_ok (OrcsG.more esto419_ok (OrcsG.more esto420_ok (OrcsG.more esto421_ok OrcsG.nil))))
theorem estCase_8_2 (val : Nat → Int) : evCall (envC Tryz.prog val (remsOf [(10, 8), (12, 2)]) (fun _ _ => none) noGlob estCfg [esto21, esto423, esto424, esto425]) 100000 3000 4 [.sym .u8 0, .sym .u8 1] emptySt toldTrue = some () := by kernel_rfl
theorem estOk_8_2 : OrcsG Tryz.prog noGlob [esto21, esto423, esto424, esto425] := (OrcsG.more esto21_ok (OrcsG.more esto423_ok (OrcsG.more esto424_ok (OrcsG.more esto425_ok OrcsG.nil))))
theorem estCase_8_3 (val : Nat → Int) : evCall (envC Tryz.prog val (remsOf [(10, 8), (12, 3)]) (fun _ _ => none) noGlob estCfg [esto21, esto427, esto428, esto429]) 100000 3000 4 [.sym .u8 0, .sym .u8 1] emptySt toldTrue = some () := by kernel_rfl
theorem estOk_8_3 : OrcsG Tryz.prog noGlob [esto21, esto427, esto428, esto429] := (OrcsG.more esto21_ok (OrcsG.more esto427_ok (OrcsG.more esto428_ok (OrcsG.more esto429_ok OrcsG.nil))))
theorem estCase_8_4 (val : Nat → Int) : evCall (envC Tryz.prog val (remsOf [(10, 8), (12, 4)]) (fun _ _ => none) noGlob estCfg [esto21, esto431, esto432, esto433]) 100000 3000 4 [.sym .u8 0, .sym .u8 1] emptySt toldTrue = some () := by kernel_rfl
theorem estOk_8_4 : OrcsG Tryz.prog noGlob [esto21, esto431, esto432, esto433] := (OrcsG.more esto21_ok (OrcsG.more esto431_ok (OrcsG.more esto432_ok (OrcsG.more esto433_ok OrcsG.nil))))
theorem estCase_8_5 (val : Nat → Int) : evCall (envC Tryz.prog val (remsOf [(10, 8), (12, 5)]) (fun _ _ => none) noGlob estCfg [esto21, esto435, esto436, esto437]) 100000 3000 4 [.sym .u8 0, .sym .u8 1] emptySt toldTrue = some () := by kernel_rfl
theorem estOk_8_5 : OrcsG Tryz.prog noGlob [esto21, esto435, esto436, esto437] := (OrcsG.more esto21_ok (OrcsG.more esto435_ok (OrcsG.more esto436_ok (OrcsG.more esto437_ok OrcsG.nil))))
theorem estCase_8_6 (val : Nat → Int) : evCall (envC Tryz.prog val (remsOf [(10, 8), (12, 6)]) (fun _ _ => none) noGlob estCfg [esto21, esto439, esto440, esto441]) 100000 3000 4 [.sym .u8 0, .sym .u8 1] emptySt toldTrue = some () := by kernel_rfl
theorem estOk_8_6 : OrcsG Tryz.prog noGlob [esto21, esto439, esto440, esto441] := (OrcsG.more esto21_ok (OrcsG.more esto439_ok (OrcsG.more esto440_ok (OrcsG.more esto441_ok OrcsG.nil))))
theorem estCase_8_7 (val : Nat → Int) : evCall (envC Tryz.prog val (remsOf [(10, 8), (12, 7)]) (fun _ _ => none) noGlob estCfg [esto21, esto443, esto444, esto445]) 100000 3000 4 [.sym .u8 0, .sym .u8 1] emptySt toldTrue = some () := by kernel_rfl
theorem estOk_8_7 : OrcsG Tryz.prog noGlob [esto21, esto443, esto444, esto445] := (OrcsG.more esto21_ok (OrcsG.more esto443_ok (OrcsG.more esto444_ok (OrcsG.more esto445_ok OrcsG.nil))))
theorem estCase_8_8 (val : Nat → Int) : evCall (envC Tryz.prog val (remsOf [(10, 8), (12, 8)]) (fun _ _ => none) noGlob estCfg [esto21, esto447, esto448, esto449]) 100000 3000 4 [.sym .u8 0, .sym .u8 1] emptySt toldTrue = some () := by kernel_rfl
theorem estOk_8_8 : OrcsG Tryz.prog noGlob [esto21, esto447, esto448, esto449] := (OrcsG.more esto21_ok (OrcsG.more esto447_ok (OrcsG.more esto448_ok (OrcsG.more esto449_ok OrcsG.nil))))
theorem estCase_8_9 (val : Nat → Int) : evCall (envC Tryz.prog val (remsOf [(10, 8), (12, 9)]) (fun _ _ => none) noGlob estCfg [esto21, esto451, esto452, esto453]) 100000 3000 4 [.sym .u8 0, .sym .u8 1] emptySt toldTrue = some () := by kernel_rfl
theorem estOk_8_9 : OrcsG Tryz.prog noGlob [esto21, esto451, esto452, esto453] := (OrcsG.more esto21_ok (OrcsG.more esto451_ok (OrcsG.more esto452_ok (OrcsG.more esto453_ok OrcsG.nil))))
theorem estCase_8_10 (val : Nat → Int) : evCall (envC Tryz.prog val (remsOf [(10, 8), (12, 10)]) (fun _ _ => none) noGlob estCfg [esto21, esto455, esto456, esto457]) 100000 3000 4 [.sym .u8 0, .sym .u8 1] emptySt toldTrue = some () := by kernel_rfl
theorem estOk_8_10 : OrcsG Tryz.prog noGlob [esto21, esto455, esto456, esto457] := (OrcsG.more esto21_ok (OrcsG.more esto455_ok (OrcsG.more esto456_ok (OrcsG.more esto457_ok OrcsG.nil))))
theorem estCase_8_11 (val : Nat → Int) : evCall (envC Tryz.prog val (remsOf [(10, 8), (12, 11)]) (fun _ _ => none) noGlob estCfg [esto21, esto459, esto460, esto461]) 100000 3000 4 [.sym .u8 0, .sym .u8 1] emptySt toldTrue = some () := by kernel_rfl
theorem estOk_8_11 : OrcsG Tryz.prog noGlob [esto21, esto459, esto460, esto461] := (OrcsG.more esto21_ok (OrcsG.more esto459_ok (OrcsG.more esto460_ok (OrcsG.more esto461_ok OrcsG.nil))))
theorem estCase_9_0 (val : Nat → Int) : evCall (envC Tryz.prog val (remsOf [(10, 9), (12, 0)]) (fun _ _ => none) noGlob estCfg [esto21, esto463, esto464, esto465]) 100000 3000 4 [.sym .u8 0, .sym .u8 1] emptySt toldTrue = some () := by kernel_rfl
theorem estOk_9_0 : OrcsG Tryz.prog noGlob [esto21, esto463, esto464, esto465] := (OrcsG.more esto21_ok (OrcsG.more esto463_ok (OrcsG.more esto464_ok (OrcsG.more esto465_ok OrcsG.nil))))
theorem estCase_9_1 (val : Nat → Int) : evCall (envC Tryz.prog val (remsOf [(10, 9), (12, 1)]) (fun _ _ => none) noGlob estCfg [esto21, esto467, esto468, esto469]) 100000 3000 4 [.sym .u8 0, .sym .u8 1] emptySt toldTrue = some () := by kernel_rfl
theorem estOk_9_1 : OrcsG Tryz.prog noGlob [esto21, esto467, esto468, esto469] := (OrcsG.more esto21_ok (OrcsG.more esto467_ok (OrcsG.more esto468_ok (OrcsG.more esto469_ok OrcsG.nil))))
theorem estCase_9_2 (val : Nat → Int) : evCall (envC Tryz.prog val (remsOf [(10, 9), (12, 2)]) (fun _ _ => none) noGlob estCfg [esto21, esto471, esto472, esto473]) 100000 3000 4 [.sym .u8 0, .sym .u8 1] emptySt toldTrue = some () := by kernel_rfl
theorem estOk_9_2 : OrcsG Tryz.prog noGlob [esto21, esto471, esto472, esto473] := (OrcsG.more esto21_ok (OrcsG.more esto471_ok (OrcsG.more esto472_ok (OrcsG.more esto473_ok OrcsG.nil))))
theorem estCase_9_3 (val : Nat → Int) : evCall (envC Tryz.prog val (remsOf [(10, 9), (12, 3)]) (fun _ _ => none) noGlob estCfg [esto21, esto475, esto476, esto477]) 100000 3000 4 [.sym .u8 0, .sym .u8 1] emptySt toldTrue = some () := by kernel_rfl
theorem estOk_9_3 : OrcsG Tryz.prog noGlob [esto21, esto475, esto476, esto477] := (OrcsG.more esto21_ok (OrcsG.more esto475_ok (OrcsG.more esto476_ok (OrcsG.more esto477_ok OrcsG.nil))))
theorem estCase_9_4 (val : Nat → Int) : evCall (envC Tryz.prog val (remsOf [(10, 9), (12, 4)]) (fun _ _ => none) noGlob estCfg [esto21, esto479, esto480, esto481]) 100000 3000 4 [.sym .u8 0, .sym .u8 1] emptySt toldTrue = some () := by kernel_rfl
theorem estOk_9_4 : OrcsG Tryz.prog noGlob [esto21, esto479, esto480, esto481] := (OrcsG.more esto21_ok (OrcsG.more esto479_ok (OrcsG.more esto480_ok (OrcsG.more esto481_ok OrcsG.nil))))
theorem estCase_9_5 (val : Nat → Int) : evCall (envC Tryz.prog val (remsOf [(10, 9), (12, 5)]) (fun _ _ => none) noGlob estCfg [esto21, esto483, esto484, esto485]) 100000 3000 4 [.sym .u8 0, .sym .u8 1] emptySt toldTrue = some () := by kernel_rfl
theorem estOk_9_5 : OrcsG Tryz.prog noGlob [esto21, esto483, esto484, esto485] := (OrcsG.more esto21_ok (OrcsG.more esto483_ok (OrcsG.more esto484_ok (OrcsG.more esto485_ok OrcsG.nil))))
theorem estCase_9_6 (val : Nat → Int) : evCall (envC Tryz.prog val (remsOf [(10, 9), (12, 6)]) (fun _ _ => none) noGlob estCfg [esto21, esto487, esto488, esto489]) 100000 3000 4 [.sym .u8 0, .sym .u8 1] emptySt toldTrue = some () := by kernel_rfl
theorem estOk_9_6 : OrcsG Tryz.prog noGlob [esto21, esto487, esto488, esto489] := (OrcsG.more esto21_ok (OrcsG.more esto487_ok (OrcsG.more esto488_ok (OrcsG.more esto489_ok OrcsG.nil))))
theorem estCase_9_7 (val : Nat → Int) : evCall (envC Tryz.prog val (remsOf [(10, 9), (12, 7)]) (fun _ _ => none) noGlob estCfg [esto21, esto491, esto492, esto493]) 100000 3000 4 [.sym .u8 0, .sym .u8 1] emptySt toldTrue = some () := by kernel_rfl
theorem estOk_9_7 : OrcsG Tryz.prog noGlob [esto21, esto491, esto492, esto493] := (OrcsG.more esto21_ok (OrcsG.more esto491_ok (OrcsG.more esto492_ok (OrcsG.more esto493_ok OrcsG.nil))))
theorem estCase_9_8 (val : Nat → Int) : evCall (envC Tryz.prog val (remsOf [(10, 9), (12, 8)]) (fun _ _ => none) noGlob estCfg [esto21, esto495, esto496, esto497]) 100000 3000 4 [.sym .u8 0, .sym .u8 1] emptySt toldTrue = some () := by kernel_rfl
theorem estOk_9_8 : OrcsG Tryz.prog noGlob [esto21, esto495, esto496, esto497] := (OrcsG.more esto21_ok (OrcsG.more esto495_ok (OrcsG.more esto496_ok (OrcsG.more esto497_ok OrcsG.nil))))
theorem estCase_9_9 (val : Nat → Int) : evCall (envC Tryz.prog val (remsOf [(10, 9), (12, 9)]) (fun _ _ => none) noGlob estCfg [esto21, esto499, esto500, esto501]) 100000 3000 4 [.sym .u8 0, .sym .u8 1] emptySt toldTrue = some () := by kernel_rfl
theorem estOk_9_9 : OrcsG Tryz.prog noGlob [esto21, esto499, esto500, esto501] := (OrcsG.more esto21_ok (OrcsG.more esto499_ok (OrcsG.more esto500_ok (OrcsG.more esto501_ok OrcsG.nil))))
theorem estCase_9_10 (val : Nat → Int) : evCall (envC Tryz.prog val (remsOf [(10, 9), (12, 10)]) (fun _ _ => none) noGlob estCfg [esto21, esto503, esto504, esto505]) 100000 3000 4 [.sym .u8 0, .sym .u8 1] emptySt toldTrue = some () := by kernel_rfl
theorem estOk_9_10 : OrcsG Tryz.prog noGlob [esto21, esto503, esto504, esto505] := (OrcsG.more esto21_ok (OrcsG.more esto503_ok (OrcsG.more esto504_ok (OrcsG.more esto505_ok OrcsG.nil))))
theorem estCase_9_11 (val : Nat → Int) : evCall (envC Tryz.prog val (remsOf [(10, 9), (12, 11)]) (fun _ _ => none) noGlob estCfg [esto21, esto507, esto508, esto509]) 100000 3000 4 [.sym .u8 0, .sym .u8 1] emptySt toldTrue = some () := by kernel_rfl
theorem estOk_9_11 : OrcsG Tryz.prog noGlob [esto21, esto507, esto508, esto509] := (OrcsG.more esto21_ok (OrcsG.more esto507_ok (OrcsG.more esto508_ok (OrcsG.more esto509_ok OrcsG.nil))))
end Go.Proofs.YtgidgiidcnlpbaaGreatDoor
