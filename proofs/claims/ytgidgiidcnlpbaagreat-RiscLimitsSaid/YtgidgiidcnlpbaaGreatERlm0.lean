/- RiscLimits, run by the evaluation: what is told of small calls. -/
import Derived.Test.YtgidgiidcnlpbaaGreatProg
import Derived.Test.YtgidgiidcnlpbaaGreatVCfg
import Derived.KernelRfl
set_option linter.unusedSimpArgs false
set_option linter.unusedVariables false
set_option maxRecDepth 100000
namespace Go.Proofs.YtgidgiidcnlpbaaGreat
open Go.VE

theorem rlm_names : (Tryz.prog.funcs.toList.all fun fn => !(fn.name == "runtime.NumGoroutine")) = true := by kernel_rfl
theorem rlm_mixed : Tryz.prog.follows .mixedOrders = true := by kernel_rfl
def rlmCfg : Cfg := ⟨[111], [(25, 20), (103, 12)]⟩
noncomputable def rlmEnv (l : List (Nat × List AV × AV)) : Env := envC Tryz.prog (fun _ => 0) (fun _ _ => none) (fun _ _ => none) noGlob rlmCfg l
def rlml0 : List (List AV) := [[(.int .i64 (1)), (.int .i64 (1)), (.int .i64 (0)), (.str []), .nils, (.int .i32 (0)), (.str [77, 46, 105]), .nils], [(.int .i64 (0)), (.int .i64 (1)), (.int .i64 (0)), (.str []), .nils, (.int .i32 (1)), (.str []), .nils]]
def rlml1 : List AV := [(.int .i64 (0)), (.lst 8 .full rlml0), .nils, .nils]
def rlml2 : List UInt8 := [77, 79, 68, 85, 76, 69, 32, 77, 59, 32, 73, 77, 80, 79, 82, 84, 32, 79, 117, 116, 59, 32, 86, 65, 82, 32, 105, 58, 32, 73, 78, 84, 69, 71, 69, 82, 59, 32, 66, 69, 71, 73, 78, 32, 105, 32, 58, 61, 32, 50, 59, 32, 79, 117, 116, 46, 73, 110, 116, 40, 105, 32, 43, 32, 49, 41, 59, 32, 65, 83, 83, 69, 82, 84, 40, 105, 32, 61, 32, 49, 41, 32, 69, 78, 68, 32, 77, 46]
def rlml3 : List UInt8 := [77, 79, 68, 85, 76, 69, 32, 77, 59, 32, 73, 77, 80, 79, 82, 84, 32, 79, 117, 116, 59, 32, 86, 65, 82, 32, 105, 58, 32, 73, 78, 84, 69, 71, 69, 82, 59, 32, 66, 69, 71, 73, 78, 32, 105, 32, 58, 61, 32, 49, 59, 32, 79, 117, 116, 46, 73, 110, 116, 40, 105, 32, 43, 32, 40, 105, 32, 43, 32, 40, 105, 32, 43, 32, 40, 105, 32, 43, 32, 40, 105, 32, 43, 32, 40, 105, 32, 43, 32, 40, 105, 32, 43, 32, 40, 105, 32, 43, 32, 40, 105, 32, 43, 32, 40, 105, 41, 41, 41, 41, 41, 41, 41, 41, 41, 41, 32, 69, 78, 68, 32, 77, 46]
def rlml4 : List UInt8 := [77, 79, 68, 85, 76, 69, 32, 77, 59, 32, 73, 77, 80, 79, 82, 84, 32, 79, 117, 116, 59, 32, 86, 65, 82, 32, 105, 58, 32, 73, 78, 84, 69, 71, 69, 82, 59, 32, 66, 69, 71, 73, 78, 32, 105, 32, 58, 61, 32, 49, 59, 32, 79, 117, 116, 46, 73, 110, 116, 40, 105, 32, 43, 32, 40, 105, 32, 43, 32, 40, 105, 32, 43, 32, 40, 105, 32, 43, 32, 40, 105, 32, 43, 32, 40, 105, 32, 43, 32, 40, 105, 32, 43, 32, 40, 105, 32, 43, 32, 40, 105, 32, 43, 32, 40, 105, 32, 43, 32, 40, 105, 41, 41, 41, 41, 41, 41, 41, 41, 41, 41, 41, 32, 69, 78, 68, 32, 77, 46]
def rlml5 : List UInt8 := [77, 79, 68, 85, 76, 69, 32, 77, 59, 32, 73, 77, 80, 79, 82, 84, 32, 79, 117, 116, 59, 32, 86, 65, 82, 32, 105, 58, 32, 73, 78, 84, 69, 71, 69, 82, 59, 32, 66, 69, 71, 73, 78, 32, 105, 32, 58, 61, 32, 49, 59, 32, 79, 117, 116, 46, 73, 110, 116, 40, 105, 32, 43, 32, 40, 105, 32, 43, 32, 40, 105, 32, 43, 32, 40, 105, 32, 43, 32, 40, 105, 32, 43, 32, 40, 105, 32, 43, 32, 40, 105, 32, 43, 32, 40, 105, 32, 43, 32, 40, 105, 32, 43, 32, 40, 105, 32, 43, 32, 40, 105, 32, 43, 32, 40, 105, 41, 41, 41, 41, 41, 41, 41, 41, 41, 41, 41, 41, 32, 69, 78, 68, 32, 77, 46]
def rlml6 : List UInt8 := [77, 79, 68, 85, 76, 69, 32, 77, 59, 32, 73, 77, 80, 79, 82, 84, 32, 79, 117, 116, 59, 32, 86, 65, 82, 32, 105, 58, 32, 73, 78, 84, 69, 71, 69, 82, 59, 32, 66, 69, 71, 73, 78, 32, 105, 32, 58, 61, 32, 49, 59, 32, 79, 117, 116, 46, 73, 110, 116, 40, 105, 32, 43, 32, 40, 105, 32, 43, 32, 40, 105, 32, 43, 32, 40, 105, 32, 43, 32, 40, 105, 32, 43, 32, 40, 105, 32, 43, 32, 40, 105, 32, 43, 32, 40, 105, 32, 43, 32, 40, 105, 32, 43, 32, 40, 105, 32, 43, 32, 40, 105, 32, 43, 32, 40, 105, 32, 43, 32, 40, 105, 41, 41, 41, 41, 41, 41, 41, 41, 41, 41, 41, 41, 41, 32, 69, 78, 68, 32, 77, 46]
def rlml7 : List UInt8 := [77, 79, 68, 85, 76, 69, 32, 77, 59, 32, 73, 77, 80, 79, 82, 84, 32, 79, 117, 116, 59, 32, 86, 65, 82, 32, 105, 58, 32, 73, 78, 84, 69, 71, 69, 82, 59, 32, 66, 69, 71, 73, 78, 32, 105, 32, 58, 61, 32, 49, 59, 32, 79, 117, 116, 46, 73, 110, 116, 40, 105, 32, 43, 32, 40, 105, 32, 43, 32, 40, 105, 32, 43, 32, 40, 105, 32, 43, 32, 40, 105, 32, 43, 32, 40, 105, 32, 43, 32, 40, 105, 32, 43, 32, 40, 105, 32, 43, 32, 40, 105, 32, 43, 32, 40, 105, 32, 43, 32, 40, 105, 32, 43, 32, 40, 105, 32, 43, 32, 40, 105, 32, 43, 32, 40, 105, 41, 41, 41, 41, 41, 41, 41, 41, 41, 41, 41, 41, 41, 41, 32, 69, 78, 68, 32, 77, 46]
def rlml8 : List AV := [(.str [77]), (.lst 1 .unk [[(.str [79, 117, 116])]]), .nils, .nils, .nils, (.lst 6 .unk [[(.str [105]), (.bool false), (.int .i64 (1)), (.int .i64 (0)), (.str []), .nils]]), .nils, (.lst 4 .unk [[(.int .i64 (0)), (.lst 8 .full [[(.int .i64 (1)), (.int .i64 (1)), (.int .i64 (0)), (.str []), .nils, (.int .i32 (0)), (.str [77, 46, 105]), .nils], [(.int .i64 (0)), (.int .i64 (1)), (.int .i64 (0)), (.str []), .nils, (.int .i32 (2)), (.str []), .nils]]), .nils, .nils], [(.int .i64 (14)), (.lst 8 .full [[(.int .i64 (9)), (.int .i64 (1)), (.int .i64 (0)), (.str []), .nils, (.int .i32 (0)), (.str []), (.lst 8 .full rlml0)]]), .nils, .nils], [(.int .i64 (12)), (.lst 8 .full [[(.int .i64 (16)), (.int .i64 (3)), (.int .i64 (0)), (.str []), .nils, (.int .i32 (0)), (.str []), (.lst 8 .full rlml0)]]), .nils, .nils]])]
def rlml9 : List (List AV) := [rlml8]
def rlml10 : List AV := [(.int .i64 (9)), (.int .i64 (1)), (.int .i64 (0)), (.str []), .nils, (.int .i32 (0)), (.str []), (.lst 8 .full [[(.int .i64 (1)), (.int .i64 (1)), (.int .i64 (0)), (.str []), .nils, (.int .i32 (0)), (.str [77, 46, 105]), .nils], [(.int .i64 (9)), (.int .i64 (1)), (.int .i64 (0)), (.str []), .nils, (.int .i32 (0)), (.str []), (.lst 8 .full [[(.int .i64 (1)), (.int .i64 (1)), (.int .i64 (0)), (.str []), .nils, (.int .i32 (0)), (.str [77, 46, 105]), .nils], [(.int .i64 (9)), (.int .i64 (1)), (.int .i64 (0)), (.str []), .nils, (.int .i32 (0)), (.str []), (.lst 8 .full [[(.int .i64 (1)), (.int .i64 (1)), (.int .i64 (0)), (.str []), .nils, (.int .i32 (0)), (.str [77, 46, 105]), .nils], [(.int .i64 (9)), (.int .i64 (1)), (.int .i64 (0)), (.str []), .nils, (.int .i32 (0)), (.str []), (.lst 8 .full [[(.int .i64 (1)), (.int .i64 (1)), (.int .i64 (0)), (.str []), .nils, (.int .i32 (0)), (.str [77, 46, 105]), .nils], [(.int .i64 (9)), (.int .i64 (1)), (.int .i64 (0)), (.str []), .nils, (.int .i32 (0)), (.str []), (.lst 8 .full [[(.int .i64 (1)), (.int .i64 (1)), (.int .i64 (0)), (.str []), .nils, (.int .i32 (0)), (.str [77, 46, 105]), .nils], [(.int .i64 (9)), (.int .i64 (1)), (.int .i64 (0)), (.str []), .nils, (.int .i32 (0)), (.str []), (.lst 8 .full [[(.int .i64 (1)), (.int .i64 (1)), (.int .i64 (0)), (.str []), .nils, (.int .i32 (0)), (.str [77, 46, 105]), .nils], [(.int .i64 (9)), (.int .i64 (1)), (.int .i64 (0)), (.str []), .nils, (.int .i32 (0)), (.str []), (.lst 8 .full [[(.int .i64 (1)), (.int .i64 (1)), (.int .i64 (0)), (.str []), .nils, (.int .i32 (0)), (.str [77, 46, 105]), .nils], [(.int .i64 (9)), (.int .i64 (1)), (.int .i64 (0)), (.str []), .nils, (.int .i32 (0)), (.str []), (.lst 8 .full [[(.int .i64 (1)), (.int .i64 (1)), (.int .i64 (0)), (.str []), .nils, (.int .i32 (0)), (.str [77, 46, 105]), .nils], [(.int .i64 (9)), (.int .i64 (1)), (.int .i64 (0)), (.str []), .nils, (.int .i32 (0)), (.str []), (.lst 8 .full [[(.int .i64 (1)), (.int .i64 (1)), (.int .i64 (0)), (.str []), .nils, (.int .i32 (0)), (.str [77, 46, 105]), .nils], [(.int .i64 (1)), (.int .i64 (1)), (.int .i64 (0)), (.str []), .nils, (.int .i32 (0)), (.str [77, 46, 105]), .nils]])]])]])]])]])]])]])]])]])]
def rlml11 : List AV := [(.int .i64 (9)), (.int .i64 (1)), (.int .i64 (0)), (.str []), .nils, (.int .i32 (0)), (.str []), (.lst 8 .full [[(.int .i64 (1)), (.int .i64 (1)), (.int .i64 (0)), (.str []), .nils, (.int .i32 (0)), (.str [77, 46, 105]), .nils], rlml10])]
def rlml12 : List AV := [(.int .i64 (9)), (.int .i64 (1)), (.int .i64 (0)), (.str []), .nils, (.int .i32 (0)), (.str []), (.lst 8 .full [[(.int .i64 (1)), (.int .i64 (1)), (.int .i64 (0)), (.str []), .nils, (.int .i32 (0)), (.str [77, 46, 105]), .nils], rlml11])]
def rlml13 : List AV := [(.str [77]), (.lst 1 .unk [[(.str [79, 117, 116])]]), .nils, .nils, .nils, (.lst 6 .unk [[(.str [105]), (.bool false), (.int .i64 (1)), (.int .i64 (0)), (.str []), .nils]]), .nils, (.lst 4 .unk [rlml1, [(.int .i64 (14)), (.lst 8 .full [rlml10]), .nils, .nils]])]
def rlml14 : List (List AV) := [rlml13]
def rlml15 : List AV := [(.int .i64 (9)), (.int .i64 (1)), (.int .i64 (0)), (.str []), .nils, (.int .i32 (0)), (.str []), (.lst 8 .full [[(.int .i64 (1)), (.int .i64 (1)), (.int .i64 (0)), (.str []), .nils, (.int .i32 (0)), (.str [77, 46, 105]), .nils], rlml12])]
def rlml16 : List AV := [(.str [77]), (.lst 1 .unk [[(.str [79, 117, 116])]]), .nils, .nils, .nils, (.lst 6 .unk [[(.str [105]), (.bool false), (.int .i64 (1)), (.int .i64 (0)), (.str []), .nils]]), .nils, (.lst 4 .unk [rlml1, [(.int .i64 (14)), (.lst 8 .full [rlml11]), .nils, .nils]])]
def rlml17 : List (List AV) := [rlml16]
def rlml18 : List AV := [(.str [77]), (.lst 1 .unk [[(.str [79, 117, 116])]]), .nils, .nils, .nils, (.lst 6 .unk [[(.str [105]), (.bool false), (.int .i64 (1)), (.int .i64 (0)), (.str []), .nils]]), .nils, (.lst 4 .unk [rlml1, [(.int .i64 (14)), (.lst 8 .full [rlml12]), .nils, .nils]])]
def rlml19 : List (List AV) := [rlml18]
def rlml20 : List AV := [(.str [77]), (.lst 1 .unk [[(.str [79, 117, 116])]]), .nils, .nils, .nils, (.lst 6 .unk [[(.str [105]), (.bool false), (.int .i64 (1)), (.int .i64 (0)), (.str []), .nils]]), .nils, (.lst 4 .unk [rlml1, [(.int .i64 (14)), (.lst 8 .full [rlml15]), .nils, .nils]])]
def rlml21 : List (List AV) := [rlml20]
def rlml22 : List AV := [(.str [77]), (.lst 1 .unk [[(.str [79, 117, 116])]]), .nils, .nils, .nils, (.lst 6 .unk [[(.str [105]), (.bool false), (.int .i64 (1)), (.int .i64 (0)), (.str []), .nils]]), .nils, (.lst 4 .unk [rlml1, [(.int .i64 (14)), (.lst 8 .full [[(.int .i64 (9)), (.int .i64 (1)), (.int .i64 (0)), (.str []), .nils, (.int .i32 (0)), (.str []), (.lst 8 .full [[(.int .i64 (1)), (.int .i64 (1)), (.int .i64 (0)), (.str []), .nils, (.int .i32 (0)), (.str [77, 46, 105]), .nils], rlml15])]]), .nils, .nils]])]
def rlml23 : List (List AV) := [rlml22]
def rlmo0 : Nat × List AV × AV := (63, [(.str [77, 79, 68, 85, 76, 69])], (.bool true))
theorem rlmo0_run : evCall (rlmEnv []) 100000 3000 rlmo0.1 rlmo0.2.1 emptySt keep = some rlmo0.2.2 := by kernel_rfl
theorem rlmo0_ok : IsTold Tryz.prog noGlob rlmo0 := told_of rlm_names rlm_mixed (c := rlmCfg) OrcsG.nil rlmo0 (fun vs w => Tryz.call63 vs w) rlmo0_run (by kernel_rfl)
def rlmo1 : Nat × List AV × AV := (63, [(.str [77])], (.bool false))
theorem rlmo1_run : evCall (rlmEnv []) 100000 3000 rlmo1.1 rlmo1.2.1 emptySt keep = some rlmo1.2.2 := by kernel_rfl
theorem rlmo1_ok : IsTold Tryz.prog noGlob rlmo1 := told_of rlm_names rlm_mixed (c := rlmCfg) OrcsG.nil rlmo1 (fun vs w => Tryz.call63 vs w) rlmo1_run (by kernel_rfl)
def rlmo2 : Nat × List AV × AV := (66, [(.str [43, 45, 42, 47, 38, 126, 61, 35, 60, 62, 46, 44, 59, 58, 40, 41, 91, 93, 123, 125, 94, 124]), (.int .u8 (59))], (.bool true))
theorem rlmo2_run : evCall (rlmEnv []) 100000 3000 rlmo2.1 rlmo2.2.1 emptySt keep = some rlmo2.2.2 := by kernel_rfl
theorem rlmo2_ok : IsTold Tryz.prog noGlob rlmo2 := told_of rlm_names rlm_mixed (c := rlmCfg) OrcsG.nil rlmo2 (fun vs w => Tryz.call66 vs w) rlmo2_run (by kernel_rfl)
def rlmo3 : Nat × List AV × AV := (63, [(.str [73, 77, 80, 79, 82, 84])], (.bool true))
theorem rlmo3_run : evCall (rlmEnv []) 100000 3000 rlmo3.1 rlmo3.2.1 emptySt keep = some rlmo3.2.2 := by kernel_rfl
theorem rlmo3_ok : IsTold Tryz.prog noGlob rlmo3 := told_of rlm_names rlm_mixed (c := rlmCfg) OrcsG.nil rlmo3 (fun vs w => Tryz.call63 vs w) rlmo3_run (by kernel_rfl)
def rlmo4 : Nat × List AV × AV := (63, [(.str [79, 117, 116])], (.bool false))
theorem rlmo4_run : evCall (rlmEnv []) 100000 3000 rlmo4.1 rlmo4.2.1 emptySt keep = some rlmo4.2.2 := by kernel_rfl
theorem rlmo4_ok : IsTold Tryz.prog noGlob rlmo4 := told_of rlm_names rlm_mixed (c := rlmCfg) OrcsG.nil rlmo4 (fun vs w => Tryz.call63 vs w) rlmo4_run (by kernel_rfl)
def rlmo5 : Nat × List AV × AV := (63, [(.str [86, 65, 82])], (.bool true))
theorem rlmo5_run : evCall (rlmEnv []) 100000 3000 rlmo5.1 rlmo5.2.1 emptySt keep = some rlmo5.2.2 := by kernel_rfl
theorem rlmo5_ok : IsTold Tryz.prog noGlob rlmo5 := told_of rlm_names rlm_mixed (c := rlmCfg) OrcsG.nil rlmo5 (fun vs w => Tryz.call63 vs w) rlmo5_run (by kernel_rfl)
def rlmo6 : Nat × List AV × AV := (63, [(.str [105])], (.bool false))
theorem rlmo6_run : evCall (rlmEnv []) 100000 3000 rlmo6.1 rlmo6.2.1 emptySt keep = some rlmo6.2.2 := by kernel_rfl
theorem rlmo6_ok : IsTold Tryz.prog noGlob rlmo6 := told_of rlm_names rlm_mixed (c := rlmCfg) OrcsG.nil rlmo6 (fun vs w => Tryz.call63 vs w) rlmo6_run (by kernel_rfl)
def rlmo7 : Nat × List AV × AV := (66, [(.str [43, 45, 42, 47, 38, 126, 61, 35, 60, 62, 46, 44, 59, 58, 40, 41, 91, 93, 123, 125, 94, 124]), (.int .u8 (58))], (.bool true))
theorem rlmo7_run : evCall (rlmEnv []) 100000 3000 rlmo7.1 rlmo7.2.1 emptySt keep = some rlmo7.2.2 := by kernel_rfl
theorem rlmo7_ok : IsTold Tryz.prog noGlob rlmo7 := told_of rlm_names rlm_mixed (c := rlmCfg) OrcsG.nil rlmo7 (fun vs w => Tryz.call66 vs w) rlmo7_run (by kernel_rfl)
def rlmo8 : Nat × List AV × AV := (63, [(.str [73, 78, 84, 69, 71, 69, 82])], (.bool false))
theorem rlmo8_run : evCall (rlmEnv []) 100000 3000 rlmo8.1 rlmo8.2.1 emptySt keep = some rlmo8.2.2 := by kernel_rfl
theorem rlmo8_ok : IsTold Tryz.prog noGlob rlmo8 := told_of rlm_names rlm_mixed (c := rlmCfg) OrcsG.nil rlmo8 (fun vs w => Tryz.call63 vs w) rlmo8_run (by kernel_rfl)
def rlmo9 : Nat × List AV × AV := (63, [(.str [66, 69, 71, 73, 78])], (.bool true))
theorem rlmo9_run : evCall (rlmEnv []) 100000 3000 rlmo9.1 rlmo9.2.1 emptySt keep = some rlmo9.2.2 := by kernel_rfl
theorem rlmo9_ok : IsTold Tryz.prog noGlob rlmo9 := told_of rlm_names rlm_mixed (c := rlmCfg) OrcsG.nil rlmo9 (fun vs w => Tryz.call63 vs w) rlmo9_run (by kernel_rfl)
def rlmo10 : Nat × List AV × AV := (66, [(.str [43, 45, 42, 47, 38, 126, 61, 35, 60, 62, 46, 44, 59, 58, 40, 41, 91, 93, 123, 125, 94, 124]), (.int .u8 (46))], (.bool true))
theorem rlmo10_run : evCall (rlmEnv []) 100000 3000 rlmo10.1 rlmo10.2.1 emptySt keep = some rlmo10.2.2 := by kernel_rfl
theorem rlmo10_ok : IsTold Tryz.prog noGlob rlmo10 := told_of rlm_names rlm_mixed (c := rlmCfg) OrcsG.nil rlmo10 (fun vs w => Tryz.call66 vs w) rlmo10_run (by kernel_rfl)
def rlmo11 : Nat × List AV × AV := (63, [(.str [73, 110, 116])], (.bool false))
theorem rlmo11_run : evCall (rlmEnv []) 100000 3000 rlmo11.1 rlmo11.2.1 emptySt keep = some rlmo11.2.2 := by kernel_rfl
theorem rlmo11_ok : IsTold Tryz.prog noGlob rlmo11 := told_of rlm_names rlm_mixed (c := rlmCfg) OrcsG.nil rlmo11 (fun vs w => Tryz.call63 vs w) rlmo11_run (by kernel_rfl)
def rlmo12 : Nat × List AV × AV := (66, [(.str [43, 45, 42, 47, 38, 126, 61, 35, 60, 62, 46, 44, 59, 58, 40, 41, 91, 93, 123, 125, 94, 124]), (.int .u8 (40))], (.bool true))
theorem rlmo12_run : evCall (rlmEnv []) 100000 3000 rlmo12.1 rlmo12.2.1 emptySt keep = some rlmo12.2.2 := by kernel_rfl
theorem rlmo12_ok : IsTold Tryz.prog noGlob rlmo12 := told_of rlm_names rlm_mixed (c := rlmCfg) OrcsG.nil rlmo12 (fun vs w => Tryz.call66 vs w) rlmo12_run (by kernel_rfl)
def rlmo13 : Nat × List AV × AV := (66, [(.str [43, 45, 42, 47, 38, 126, 61, 35, 60, 62, 46, 44, 59, 58, 40, 41, 91, 93, 123, 125, 94, 124]), (.int .u8 (43))], (.bool true))
theorem rlmo13_run : evCall (rlmEnv []) 100000 3000 rlmo13.1 rlmo13.2.1 emptySt keep = some rlmo13.2.2 := by kernel_rfl
theorem rlmo13_ok : IsTold Tryz.prog noGlob rlmo13 := told_of rlm_names rlm_mixed (c := rlmCfg) OrcsG.nil rlmo13 (fun vs w => Tryz.call66 vs w) rlmo13_run (by kernel_rfl)
def rlmo14 : Nat × List AV × AV := (66, [(.str [43, 45, 42, 47, 38, 126, 61, 35, 60, 62, 46, 44, 59, 58, 40, 41, 91, 93, 123, 125, 94, 124]), (.int .u8 (41))], (.bool true))
theorem rlmo14_run : evCall (rlmEnv []) 100000 3000 rlmo14.1 rlmo14.2.1 emptySt keep = some rlmo14.2.2 := by kernel_rfl
theorem rlmo14_ok : IsTold Tryz.prog noGlob rlmo14 := told_of rlm_names rlm_mixed (c := rlmCfg) OrcsG.nil rlmo14 (fun vs w => Tryz.call66 vs w) rlmo14_run (by kernel_rfl)
def rlmo15 : Nat × List AV × AV := (63, [(.str [65, 83, 83, 69, 82, 84])], (.bool false))
theorem rlmo15_run : evCall (rlmEnv []) 100000 3000 rlmo15.1 rlmo15.2.1 emptySt keep = some rlmo15.2.2 := by kernel_rfl
theorem rlmo15_ok : IsTold Tryz.prog noGlob rlmo15 := told_of rlm_names rlm_mixed (c := rlmCfg) OrcsG.nil rlmo15 (fun vs w => Tryz.call63 vs w) rlmo15_run (by kernel_rfl)
def rlmo16 : Nat × List AV × AV := (66, [(.str [43, 45, 42, 47, 38, 126, 61, 35, 60, 62, 46, 44, 59, 58, 40, 41, 91, 93, 123, 125, 94, 124]), (.int .u8 (61))], (.bool true))
theorem rlmo16_run : evCall (rlmEnv []) 100000 3000 rlmo16.1 rlmo16.2.1 emptySt keep = some rlmo16.2.2 := by kernel_rfl
theorem rlmo16_ok : IsTold Tryz.prog noGlob rlmo16 := told_of rlm_names rlm_mixed (c := rlmCfg) OrcsG.nil rlmo16 (fun vs w => Tryz.call66 vs w) rlmo16_run (by kernel_rfl)
def rlmo17 : Nat × List AV × AV := (63, [(.str [69, 78, 68])], (.bool true))
theorem rlmo17_run : evCall (rlmEnv []) 100000 3000 rlmo17.1 rlmo17.2.1 emptySt keep = some rlmo17.2.2 := by kernel_rfl
theorem rlmo17_ok : IsTold Tryz.prog noGlob rlmo17 := told_of rlm_names rlm_mixed (c := rlmCfg) OrcsG.nil rlmo17 (fun vs w => Tryz.call63 vs w) rlmo17_run (by kernel_rfl)
def rlmo20 : Nat × List AV × AV := (47, [(.lst 8 .full rlml9)], (.int .i64 (0)))
theorem rlmo20_run : evCall (rlmEnv []) 100000 3000 rlmo20.1 rlmo20.2.1 emptySt keep = some rlmo20.2.2 := by kernel_rfl
theorem rlmo20_ok : IsTold Tryz.prog noGlob rlmo20 := told_of rlm_names rlm_mixed (c := rlmCfg) OrcsG.nil rlmo20 (fun vs w => Tryz.call47 vs w) rlmo20_run (by kernel_rfl)
def rlmo21 : Nat × List AV × AV := (100, [(.agg [(.int .i64 (1)), (.bool false), (.bool false), (.int .i64 (14)), (.int .i64 (0)), (.int .i64 (0)), (.int .i64 (0)), (.int .i32 (8))])], (.tup [(.int .u32 (1308622856)), (.int .i64 (0))]))
theorem rlmo21_run : evCall (rlmEnv []) 100000 3000 rlmo21.1 rlmo21.2.1 emptySt keep = some rlmo21.2.2 := by kernel_rfl
theorem rlmo21_ok : IsTold Tryz.prog noGlob rlmo21 := told_of rlm_names rlm_mixed (c := rlmCfg) OrcsG.nil rlmo21 (fun vs w => Tryz.call100 vs w) rlmo21_run (by kernel_rfl)
def rlmo22 : Nat × List AV × AV := (100, [(.agg [(.int .i64 (1)), (.bool false), (.bool false), (.int .i64 (0)), (.int .i64 (0)), (.int .i64 (0)), (.int .i64 (0)), (.int .i32 (64))])], (.tup [(.int .u32 (1073741888)), (.int .i64 (0))]))
theorem rlmo22_run : evCall (rlmEnv []) 100000 3000 rlmo22.1 rlmo22.2.1 emptySt keep = some rlmo22.2.2 := by kernel_rfl
theorem rlmo22_ok : IsTold Tryz.prog noGlob rlmo22 := told_of rlm_names rlm_mixed (c := rlmCfg) OrcsG.nil rlmo22 (fun vs w => Tryz.call100 vs w) rlmo22_run (by kernel_rfl)
def rlmo23 : Nat × List AV × AV := (100, [(.agg [(.int .i64 (1)), (.bool false), (.bool false), (.int .i64 (1)), (.int .i64 (0)), (.int .i64 (0)), (.int .i64 (0)), (.int .i32 (4))])], (.tup [(.int .u32 (1090519044)), (.int .i64 (0))]))
theorem rlmo23_run : evCall (rlmEnv []) 100000 3000 rlmo23.1 rlmo23.2.1 emptySt keep = some rlmo23.2.2 := by kernel_rfl
theorem rlmo23_ok : IsTold Tryz.prog noGlob rlmo23 := told_of rlm_names rlm_mixed (c := rlmCfg) OrcsG.nil rlmo23 (fun vs w => Tryz.call100 vs w) rlmo23_run (by kernel_rfl)
def rlmo24 : Nat × List AV × AV := (100, [(.agg [(.int .i64 (2)), (.bool true), (.bool false), (.int .i64 (0)), (.int .i64 (1)), (.int .i64 (0)), (.int .i64 (0)), (.int .i32 (0))])], (.tup [(.int .u32 (2685403136)), (.int .i64 (0))]))
theorem rlmo24_run : evCall (rlmEnv []) 100000 3000 rlmo24.1 rlmo24.2.1 emptySt keep = some rlmo24.2.2 := by kernel_rfl
theorem rlmo24_ok : IsTold Tryz.prog noGlob rlmo24 := told_of rlm_names rlm_mixed (c := rlmCfg) OrcsG.nil rlmo24 (fun vs w => Tryz.call100 vs w) rlmo24_run (by kernel_rfl)
def rlmo25 : Nat × List AV × AV := (100, [(.agg [(.int .i64 (1)), (.bool false), (.bool false), (.int .i64 (0)), (.int .i64 (0)), (.int .i64 (0)), (.int .i64 (0)), (.int .i32 (0))])], (.tup [(.int .u32 (1073741824)), (.int .i64 (0))]))
theorem rlmo25_run : evCall (rlmEnv []) 100000 3000 rlmo25.1 rlmo25.2.1 emptySt keep = some rlmo25.2.2 := by kernel_rfl
theorem rlmo25_ok : IsTold Tryz.prog noGlob rlmo25 := told_of rlm_names rlm_mixed (c := rlmCfg) OrcsG.nil rlmo25 (fun vs w => Tryz.call100 vs w) rlmo25_run (by kernel_rfl)
def rlmo26 : Nat × List AV × AV := (100, [(.agg [(.int .i64 (2)), (.bool true), (.bool false), (.int .i64 (0)), (.int .i64 (14)), (.int .i64 (0)), (.int .i64 (0)), (.int .i32 (52))])], (.tup [(.int .u32 (2699034676)), (.int .i64 (0))]))
theorem rlmo26_run : evCall (rlmEnv []) 100000 3000 rlmo26.1 rlmo26.2.1 emptySt keep = some rlmo26.2.2 := by kernel_rfl
theorem rlmo26_ok : IsTold Tryz.prog noGlob rlmo26 := told_of rlm_names rlm_mixed (c := rlmCfg) OrcsG.nil rlmo26 (fun vs w => Tryz.call100 vs w) rlmo26_run (by kernel_rfl)
def rlmo27 : Nat × List AV × AV := (100, [(.agg [(.int .i64 (1)), (.bool false), (.bool false), (.int .i64 (0)), (.int .i64 (0)), (.int .i64 (0)), (.int .i64 (0)), (.int .i32 (2))])], (.tup [(.int .u32 (1073741826)), (.int .i64 (0))]))
theorem rlmo27_run : evCall (rlmEnv []) 100000 3000 rlmo27.1 rlmo27.2.1 emptySt keep = some rlmo27.2.2 := by kernel_rfl
theorem rlmo27_ok : IsTold Tryz.prog noGlob rlmo27 := told_of rlm_names rlm_mixed (c := rlmCfg) OrcsG.nil rlmo27 (fun vs w => Tryz.call100 vs w) rlmo27_run (by kernel_rfl)
def rlmo28 : Nat × List AV × AV := (100, [(.agg [(.int .i64 (2)), (.bool false), (.bool false), (.int .i64 (1)), (.int .i64 (14)), (.int .i64 (0)), (.int .i64 (0)), (.int .i32 (52))])], (.tup [(.int .u32 (2178940980)), (.int .i64 (0))]))
theorem rlmo28_run : evCall (rlmEnv []) 100000 3000 rlmo28.1 rlmo28.2.1 emptySt keep = some rlmo28.2.2 := by kernel_rfl
theorem rlmo28_ok : IsTold Tryz.prog noGlob rlmo28 := told_of rlm_names rlm_mixed (c := rlmCfg) OrcsG.nil rlmo28 (fun vs w => Tryz.call100 vs w) rlmo28_run (by kernel_rfl)
def rlmo29 : Nat × List AV × AV := (100, [(.agg [(.int .i64 (2)), (.bool false), (.bool false), (.int .i64 (0)), (.int .i64 (0)), (.int .i64 (0)), (.int .i64 (0)), (.int .i32 (0))])], (.tup [(.int .u32 (2147483648)), (.int .i64 (0))]))
theorem rlmo29_run : evCall (rlmEnv []) 100000 3000 rlmo29.1 rlmo29.2.1 emptySt keep = some rlmo29.2.2 := by kernel_rfl
theorem rlmo29_ok : IsTold Tryz.prog noGlob rlmo29 := told_of rlm_names rlm_mixed (c := rlmCfg) OrcsG.nil rlmo29 (fun vs w => Tryz.call100 vs w) rlmo29_run (by kernel_rfl)
def rlmo30 : Nat × List AV × AV := (100, [(.agg [(.int .i64 (1)), (.bool false), (.bool false), (.int .i64 (1)), (.int .i64 (0)), (.int .i64 (0)), (.int .i64 (0)), (.int .i32 (1))])], (.tup [(.int .u32 (1090519041)), (.int .i64 (0))]))
theorem rlmo30_run : evCall (rlmEnv []) 100000 3000 rlmo30.1 rlmo30.2.1 emptySt keep = some rlmo30.2.2 := by kernel_rfl
theorem rlmo30_ok : IsTold Tryz.prog noGlob rlmo30 := told_of rlm_names rlm_mixed (c := rlmCfg) OrcsG.nil rlmo30 (fun vs w => Tryz.call100 vs w) rlmo30_run (by kernel_rfl)
def rlmo31 : Nat × List AV × AV := (100, [(.agg [(.int .i64 (0)), (.bool false), (.bool false), (.int .i64 (0)), (.int .i64 (0)), (.int .i64 (1)), (.int .i64 (8)), (.int .i32 (0))])], (.tup [(.int .u32 (524289)), (.int .i64 (0))]))
theorem rlmo31_run : evCall (rlmEnv []) 100000 3000 rlmo31.1 rlmo31.2.1 emptySt keep = some rlmo31.2.2 := by kernel_rfl
theorem rlmo31_ok : IsTold Tryz.prog noGlob rlmo31 := told_of rlm_names rlm_mixed (c := rlmCfg) OrcsG.nil rlmo31 (fun vs w => Tryz.call100 vs w) rlmo31_run (by kernel_rfl)
def rlmo32 : Nat × List AV × AV := (100, [(.agg [(.int .i64 (3)), (.bool true), (.bool true), (.int .i64 (7)), (.int .i64 (0)), (.int .i64 (0)), (.int .i64 (0)), (.int .i32 (11))])], (.tup [(.int .u32 (4143972363)), (.int .i64 (0))]))
theorem rlmo32_run : evCall (rlmEnv []) 100000 3000 rlmo32.1 rlmo32.2.1 emptySt keep = some rlmo32.2.2 := by kernel_rfl
theorem rlmo32_ok : IsTold Tryz.prog noGlob rlmo32 := told_of rlm_names rlm_mixed (c := rlmCfg) OrcsG.nil rlmo32 (fun vs w => Tryz.call100 vs w) rlmo32_run (by kernel_rfl)
def rlmo33 : Nat × List AV × AV := (100, [(.agg [(.int .i64 (0)), (.bool false), (.bool false), (.int .i64 (12)), (.int .i64 (0)), (.int .i64 (1)), (.int .i64 (9)), (.int .i32 (0))])], (.tup [(.int .u32 (201916417)), (.int .i64 (0))]))
theorem rlmo33_run : evCall (rlmEnv []) 100000 3000 rlmo33.1 rlmo33.2.1 emptySt keep = some rlmo33.2.2 := by kernel_rfl
theorem rlmo33_ok : IsTold Tryz.prog noGlob rlmo33 := told_of rlm_names rlm_mixed (c := rlmCfg) OrcsG.nil rlmo33 (fun vs w => Tryz.call100 vs w) rlmo33_run (by kernel_rfl)
def rlmo34 : Nat × List AV × AV := (100, [(.agg [(.int .i64 (3)), (.bool true), (.bool false), (.int .i64 (1)), (.int .i64 (0)), (.int .i64 (0)), (.int .i64 (0)), (.int .i32 (2))])], (.tup [(.int .u32 (3774873602)), (.int .i64 (0))]))
theorem rlmo34_run : evCall (rlmEnv []) 100000 3000 rlmo34.1 rlmo34.2.1 emptySt keep = some rlmo34.2.2 := by kernel_rfl
theorem rlmo34_ok : IsTold Tryz.prog noGlob rlmo34 := told_of rlm_names rlm_mixed (c := rlmCfg) OrcsG.nil rlmo34 (fun vs w => Tryz.call100 vs w) rlmo34_run (by kernel_rfl)
def rlmo35 : Nat × List AV × AV := (100, [(.agg [(.int .i64 (3)), (.bool true), (.bool false), (.int .i64 (7)), (.int .i64 (0)), (.int .i64 (0)), (.int .i64 (0)), (.int .i32 (1))])], (.tup [(.int .u32 (3875536897)), (.int .i64 (0))]))
theorem rlmo35_run : evCall (rlmEnv []) 100000 3000 rlmo35.1 rlmo35.2.1 emptySt keep = some rlmo35.2.2 := by kernel_rfl
theorem rlmo35_ok : IsTold Tryz.prog noGlob rlmo35 := told_of rlm_names rlm_mixed (c := rlmCfg) OrcsG.nil rlmo35 (fun vs w => Tryz.call100 vs w) rlmo35_run (by kernel_rfl)
def rlmo36 : Nat × List AV × AV := (100, [(.agg [(.int .i64 (1)), (.bool false), (.bool false), (.int .i64 (0)), (.int .i64 (0)), (.int .i64 (0)), (.int .i64 (0)), (.int .i32 (1))])], (.tup [(.int .u32 (1073741825)), (.int .i64 (0))]))
theorem rlmo36_run : evCall (rlmEnv []) 100000 3000 rlmo36.1 rlmo36.2.1 emptySt keep = some rlmo36.2.2 := by kernel_rfl
theorem rlmo36_ok : IsTold Tryz.prog noGlob rlmo36 := told_of rlm_names rlm_mixed (c := rlmCfg) OrcsG.nil rlmo36 (fun vs w => Tryz.call100 vs w) rlmo36_run (by kernel_rfl)
def rlmo37 : Nat × List AV × AV := (100, [(.agg [(.int .i64 (1)), (.bool false), (.bool false), (.int .i64 (12)), (.int .i64 (0)), (.int .i64 (0)), (.int .i64 (9)), (.int .i32 (0))])], (.tup [(.int .u32 (1275658240)), (.int .i64 (0))]))
theorem rlmo37_run : evCall (rlmEnv []) 100000 3000 rlmo37.1 rlmo37.2.1 emptySt keep = some rlmo37.2.2 := by kernel_rfl
theorem rlmo37_ok : IsTold Tryz.prog noGlob rlmo37 := told_of rlm_names rlm_mixed (c := rlmCfg) OrcsG.nil rlmo37 (fun vs w => Tryz.call100 vs w) rlmo37_run (by kernel_rfl)
def rlmo38 : Nat × List AV × AV := (100, [(.agg [(.int .i64 (3)), (.bool false), (.bool true), (.int .i64 (1)), (.int .i64 (0)), (.int .i64 (12)), (.int .i64 (0)), (.int .i32 (5))])], (.tup [(.int .u32 (3506438236)), (.int .i64 (0))]))
theorem rlmo38_run : evCall (rlmEnv []) 100000 3000 rlmo38.1 rlmo38.2.1 emptySt keep = some rlmo38.2.2 := by kernel_rfl
theorem rlmo38_ok : IsTold Tryz.prog noGlob rlmo38 := told_of rlm_names rlm_mixed (c := rlmCfg) OrcsG.nil rlmo38 (fun vs w => Tryz.call100 vs w) rlmo38_run (by kernel_rfl)
def rlmo39 : Nat × List AV × AV := (100, [(.agg [(.int .i64 (3)), (.bool false), (.bool true), (.int .i64 (7)), (.int .i64 (0)), (.int .i64 (12)), (.int .i64 (0)), (.int .i32 (0))])], (.tup [(.int .u32 (3607101452)), (.int .i64 (0))]))
theorem rlmo39_run : evCall (rlmEnv []) 100000 3000 rlmo39.1 rlmo39.2.1 emptySt keep = some rlmo39.2.2 := by kernel_rfl
theorem rlmo39_ok : IsTold Tryz.prog noGlob rlmo39 := told_of rlm_names rlm_mixed (c := rlmCfg) OrcsG.nil rlmo39 (fun vs w => Tryz.call100 vs w) rlmo39_run (by kernel_rfl)
def rlmo40 : Nat × List AV × AV := (100, [(.agg [(.int .i64 (1)), (.bool false), (.bool false), (.int .i64 (3)), (.int .i64 (0)), (.int .i64 (0)), (.int .i64 (0)), (.int .i32 (0))])], (.tup [(.int .u32 (1124073472)), (.int .i64 (0))]))
theorem rlmo40_run : evCall (rlmEnv []) 100000 3000 rlmo40.1 rlmo40.2.1 emptySt keep = some rlmo40.2.2 := by kernel_rfl
theorem rlmo40_ok : IsTold Tryz.prog noGlob rlmo40 := told_of rlm_names rlm_mixed (c := rlmCfg) OrcsG.nil rlmo40 (fun vs w => Tryz.call100 vs w) rlmo40_run (by kernel_rfl)
def rlmo41 : Nat × List AV × AV := (100, [(.agg [(.int .i64 (1)), (.bool true), (.bool false), (.int .i64 (1)), (.int .i64 (0)), (.int .i64 (0)), (.int .i64 (0)), (.int .i32 (15258))])], (.tup [(.int .u32 (1627405210)), (.int .i64 (0))]))
theorem rlmo41_run : evCall (rlmEnv []) 100000 3000 rlmo41.1 rlmo41.2.1 emptySt keep = some rlmo41.2.2 := by kernel_rfl
theorem rlmo41_ok : IsTold Tryz.prog noGlob rlmo41 := told_of rlm_names rlm_mixed (c := rlmCfg) OrcsG.nil rlmo41 (fun vs w => Tryz.call100 vs w) rlmo41_run (by kernel_rfl)
def rlmo42 : Nat × List AV × AV := (100, [(.agg [(.int .i64 (1)), (.bool false), (.bool false), (.int .i64 (1)), (.int .i64 (1)), (.int .i64 (0)), (.int .i64 (6)), (.int .i32 (51712))])], (.tup [(.int .u32 (1092012544)), (.int .i64 (0))]))
theorem rlmo42_run : evCall (rlmEnv []) 100000 3000 rlmo42.1 rlmo42.2.1 emptySt keep = some rlmo42.2.2 := by kernel_rfl
theorem rlmo42_ok : IsTold Tryz.prog noGlob rlmo42 := told_of rlm_names rlm_mixed (c := rlmCfg) OrcsG.nil rlmo42 (fun vs w => Tryz.call100 vs w) rlmo42_run (by kernel_rfl)
def rlmo43 : Nat × List AV × AV := (100, [(.agg [(.int .i64 (3)), (.bool true), (.bool false), (.int .i64 (8)), (.int .i64 (0)), (.int .i64 (0)), (.int .i64 (0)), (.int .i32 (12))])], (.tup [(.int .u32 (3892314124)), (.int .i64 (0))]))
theorem rlmo43_run : evCall (rlmEnv []) 100000 3000 rlmo43.1 rlmo43.2.1 emptySt keep = some rlmo43.2.2 := by kernel_rfl
theorem rlmo43_ok : IsTold Tryz.prog noGlob rlmo43 := told_of rlm_names rlm_mixed (c := rlmCfg) OrcsG.nil rlmo43 (fun vs w => Tryz.call100 vs w) rlmo43_run (by kernel_rfl)
def rlmo44 : Nat × List AV × AV := (100, [(.agg [(.int .i64 (1)), (.bool false), (.bool false), (.int .i64 (2)), (.int .i64 (0)), (.int .i64 (0)), (.int .i64 (0)), (.int .i32 (45))])], (.tup [(.int .u32 (1107296301)), (.int .i64 (0))]))
theorem rlmo44_run : evCall (rlmEnv []) 100000 3000 rlmo44.1 rlmo44.2.1 emptySt keep = some rlmo44.2.2 := by kernel_rfl
theorem rlmo44_ok : IsTold Tryz.prog noGlob rlmo44 := told_of rlm_names rlm_mixed (c := rlmCfg) OrcsG.nil rlmo44 (fun vs w => Tryz.call100 vs w) rlmo44_run (by kernel_rfl)
def rlmo45 : Nat × List AV × AV := (100, [(.agg [(.int .i64 (2)), (.bool true), (.bool false), (.int .i64 (2)), (.int .i64 (3)), (.int .i64 (0)), (.int .i64 (0)), (.int .i32 (-64))])], (.tup [(.int .u32 (2722103232)), (.int .i64 (0))]))
theorem rlmo45_run : evCall (rlmEnv []) 100000 3000 rlmo45.1 rlmo45.2.1 emptySt keep = some rlmo45.2.2 := by kernel_rfl
theorem rlmo45_ok : IsTold Tryz.prog noGlob rlmo45 := told_of rlm_names rlm_mixed (c := rlmCfg) OrcsG.nil rlmo45 (fun vs w => Tryz.call100 vs w) rlmo45_run (by kernel_rfl)
def rlmo46 : Nat × List AV × AV := (100, [(.agg [(.int .i64 (0)), (.bool false), (.bool false), (.int .i64 (0)), (.int .i64 (3)), (.int .i64 (0)), (.int .i64 (9)), (.int .i32 (0))])], (.tup [(.int .u32 (3735552)), (.int .i64 (0))]))
theorem rlmo46_run : evCall (rlmEnv []) 100000 3000 rlmo46.1 rlmo46.2.1 emptySt keep = some rlmo46.2.2 := by kernel_rfl
theorem rlmo46_ok : IsTold Tryz.prog noGlob rlmo46 := told_of rlm_names rlm_mixed (c := rlmCfg) OrcsG.nil rlmo46 (fun vs w => Tryz.call100 vs w) rlmo46_run (by kernel_rfl)
def rlmo47 : Nat × List AV × AV := (100, [(.agg [(.int .i64 (3)), (.bool true), (.bool false), (.int .i64 (8)), (.int .i64 (0)), (.int .i64 (0)), (.int .i64 (0)), (.int .i32 (7))])], (.tup [(.int .u32 (3892314119)), (.int .i64 (0))]))
theorem rlmo47_run : evCall (rlmEnv []) 100000 3000 rlmo47.1 rlmo47.2.1 emptySt keep = some rlmo47.2.2 := by kernel_rfl
theorem rlmo47_ok : IsTold Tryz.prog noGlob rlmo47 := told_of rlm_names rlm_mixed (c := rlmCfg) OrcsG.nil rlmo47 (fun vs w => Tryz.call100 vs w) rlmo47_run (by kernel_rfl)
def rlmo48 : Nat × List AV × AV := (100, [(.agg [(.int .i64 (1)), (.bool false), (.bool false), (.int .i64 (2)), (.int .i64 (0)), (.int .i64 (0)), (.int .i64 (0)), (.int .i32 (50))])], (.tup [(.int .u32 (1107296306)), (.int .i64 (0))]))
theorem rlmo48_run : evCall (rlmEnv []) 100000 3000 rlmo48.1 rlmo48.2.1 emptySt keep = some rlmo48.2.2 := by kernel_rfl
theorem rlmo48_ok : IsTold Tryz.prog noGlob rlmo48 := told_of rlm_names rlm_mixed (c := rlmCfg) OrcsG.nil rlmo48 (fun vs w => Tryz.call100 vs w) rlmo48_run (by kernel_rfl)
def rlmo49 : Nat × List AV × AV := (100, [(.agg [(.int .i64 (1)), (.bool true), (.bool false), (.int .i64 (0)), (.int .i64 (0)), (.int .i64 (0)), (.int .i64 (0)), (.int .i32 (2250))])], (.tup [(.int .u32 (1610614986)), (.int .i64 (0))]))
theorem rlmo49_run : evCall (rlmEnv []) 100000 3000 rlmo49.1 rlmo49.2.1 emptySt keep = some rlmo49.2.2 := by kernel_rfl
theorem rlmo49_ok : IsTold Tryz.prog noGlob rlmo49 := told_of rlm_names rlm_mixed (c := rlmCfg) OrcsG.nil rlmo49 (fun vs w => Tryz.call100 vs w) rlmo49_run (by kernel_rfl)
def rlmo50 : Nat × List AV × AV := (100, [(.agg [(.int .i64 (1)), (.bool false), (.bool false), (.int .i64 (0)), (.int .i64 (0)), (.int .i64 (0)), (.int .i64 (6)), (.int .i32 (27648))])], (.tup [(.int .u32 (1074162688)), (.int .i64 (0))]))
theorem rlmo50_run : evCall (rlmEnv []) 100000 3000 rlmo50.1 rlmo50.2.1 emptySt keep = some rlmo50.2.2 := by kernel_rfl
theorem rlmo50_ok : IsTold Tryz.prog noGlob rlmo50 := told_of rlm_names rlm_mixed (c := rlmCfg) OrcsG.nil rlmo50 (fun vs w => Tryz.call100 vs w) rlmo50_run (by kernel_rfl)
def rlmo51 : Nat × List AV × AV := (100, [(.agg [(.int .i64 (1)), (.bool true), (.bool false), (.int .i64 (1)), (.int .i64 (0)), (.int .i64 (0)), (.int .i64 (0)), (.int .i32 (1525))])], (.tup [(.int .u32 (1627391477)), (.int .i64 (0))]))
theorem rlmo51_run : evCall (rlmEnv []) 100000 3000 rlmo51.1 rlmo51.2.1 emptySt keep = some rlmo51.2.2 := by kernel_rfl
theorem rlmo51_ok : IsTold Tryz.prog noGlob rlmo51 := told_of rlm_names rlm_mixed (c := rlmCfg) OrcsG.nil rlmo51 (fun vs w => Tryz.call100 vs w) rlmo51_run (by kernel_rfl)
def rlmo52 : Nat × List AV × AV := (100, [(.agg [(.int .i64 (1)), (.bool false), (.bool false), (.int .i64 (1)), (.int .i64 (1)), (.int .i64 (0)), (.int .i64 (6)), (.int .i32 (57600))])], (.tup [(.int .u32 (1092018432)), (.int .i64 (0))]))
theorem rlmo52_run : evCall (rlmEnv []) 100000 3000 rlmo52.1 rlmo52.2.1 emptySt keep = some rlmo52.2.2 := by kernel_rfl
theorem rlmo52_ok : IsTold Tryz.prog noGlob rlmo52 := told_of rlm_names rlm_mixed (c := rlmCfg) OrcsG.nil rlmo52 (fun vs w => Tryz.call100 vs w) rlmo52_run (by kernel_rfl)
def rlmo53 : Nat × List AV × AV := (100, [(.agg [(.int .i64 (3)), (.bool true), (.bool false), (.int .i64 (7)), (.int .i64 (0)), (.int .i64 (0)), (.int .i64 (0)), (.int .i32 (6))])], (.tup [(.int .u32 (3875536902)), (.int .i64 (0))]))
theorem rlmo53_run : evCall (rlmEnv []) 100000 3000 rlmo53.1 rlmo53.2.1 emptySt keep = some rlmo53.2.2 := by kernel_rfl
theorem rlmo53_ok : IsTold Tryz.prog noGlob rlmo53 := told_of rlm_names rlm_mixed (c := rlmCfg) OrcsG.nil rlmo53 (fun vs w => Tryz.call100 vs w) rlmo53_run (by kernel_rfl)
def rlmo54 : Nat × List AV × AV := (100, [(.agg [(.int .i64 (3)), (.bool true), (.bool false), (.int .i64 (13)), (.int .i64 (0)), (.int .i64 (0)), (.int .i64 (0)), (.int .i32 (4))])], (.tup [(.int .u32 (3976200196)), (.int .i64 (0))]))
theorem rlmo54_run : evCall (rlmEnv []) 100000 3000 rlmo54.1 rlmo54.2.1 emptySt keep = some rlmo54.2.2 := by kernel_rfl
theorem rlmo54_ok : IsTold Tryz.prog noGlob rlmo54 := told_of rlm_names rlm_mixed (c := rlmCfg) OrcsG.nil rlmo54 (fun vs w => Tryz.call100 vs w) rlmo54_run (by kernel_rfl)
def rlmo55 : Nat × List AV × AV := (100, [(.agg [(.int .i64 (1)), (.bool false), (.bool false), (.int .i64 (12)), (.int .i64 (1)), (.int .i64 (0)), (.int .i64 (9)), (.int .i32 (1))])], (.tup [(.int .u32 (1276706817)), (.int .i64 (0))]))
theorem rlmo55_run : evCall (rlmEnv []) 100000 3000 rlmo55.1 rlmo55.2.1 emptySt keep = some rlmo55.2.2 := by kernel_rfl
theorem rlmo55_ok : IsTold Tryz.prog noGlob rlmo55 := told_of rlm_names rlm_mixed (c := rlmCfg) OrcsG.nil rlmo55 (fun vs w => Tryz.call100 vs w) rlmo55_run (by kernel_rfl)
def rlmo56 : Nat × List AV × AV := (100, [(.agg [(.int .i64 (1)), (.bool false), (.bool false), (.int .i64 (1)), (.int .i64 (1)), (.int .i64 (0)), (.int .i64 (11)), (.int .i32 (10))])], (.tup [(.int .u32 (1092288522)), (.int .i64 (0))]))
theorem rlmo56_run : evCall (rlmEnv []) 100000 3000 rlmo56.1 rlmo56.2.1 emptySt keep = some rlmo56.2.2 := by kernel_rfl
theorem rlmo56_ok : IsTold Tryz.prog noGlob rlmo56 := told_of rlm_names rlm_mixed (c := rlmCfg) OrcsG.nil rlmo56 (fun vs w => Tryz.call100 vs w) rlmo56_run (by kernel_rfl)
def rlmo57 : Nat × List AV × AV := (100, [(.agg [(.int .i64 (3)), (.bool true), (.bool false), (.int .i64 (7)), (.int .i64 (0)), (.int .i64 (0)), (.int .i64 (0)), (.int .i32 (-6))])], (.tup [(.int .u32 (3892314106)), (.int .i64 (0))]))
theorem rlmo57_run : evCall (rlmEnv []) 100000 3000 rlmo57.1 rlmo57.2.1 emptySt keep = some rlmo57.2.2 := by kernel_rfl
theorem rlmo57_ok : IsTold Tryz.prog noGlob rlmo57 := told_of rlm_names rlm_mixed (c := rlmCfg) OrcsG.nil rlmo57 (fun vs w => Tryz.call100 vs w) rlmo57_run (by kernel_rfl)
def rlmo58 : Nat × List AV × AV := (100, [(.agg [(.int .i64 (0)), (.bool false), (.bool false), (.int .i64 (2)), (.int .i64 (0)), (.int .i64 (1)), (.int .i64 (11)), (.int .i32 (0))])], (.tup [(.int .u32 (34275329)), (.int .i64 (0))]))
theorem rlmo58_run : evCall (rlmEnv []) 100000 3000 rlmo58.1 rlmo58.2.1 emptySt keep = some rlmo58.2.2 := by kernel_rfl
theorem rlmo58_ok : IsTold Tryz.prog noGlob rlmo58 := told_of rlm_names rlm_mixed (c := rlmCfg) OrcsG.nil rlmo58 (fun vs w => Tryz.call100 vs w) rlmo58_run (by kernel_rfl)
def rlmo59 : Nat × List AV × AV := (100, [(.agg [(.int .i64 (0)), (.bool true), (.bool false), (.int .i64 (0)), (.int .i64 (0)), (.int .i64 (0)), (.int .i64 (0)), (.int .i32 (0))])], (.tup [(.int .u32 (536870912)), (.int .i64 (0))]))
theorem rlmo59_run : evCall (rlmEnv []) 100000 3000 rlmo59.1 rlmo59.2.1 emptySt keep = some rlmo59.2.2 := by kernel_rfl
theorem rlmo59_ok : IsTold Tryz.prog noGlob rlmo59 := told_of rlm_names rlm_mixed (c := rlmCfg) OrcsG.nil rlmo59 (fun vs w => Tryz.call100 vs w) rlmo59_run (by kernel_rfl)
def rlmo60 : Nat × List AV × AV := (100, [(.agg [(.int .i64 (1)), (.bool false), (.bool false), (.int .i64 (2)), (.int .i64 (2)), (.int .i64 (0)), (.int .i64 (8)), (.int .i32 (48))])], (.tup [(.int .u32 (1109917744)), (.int .i64 (0))]))
theorem rlmo60_run : evCall (rlmEnv []) 100000 3000 rlmo60.1 rlmo60.2.1 emptySt keep = some rlmo60.2.2 := by kernel_rfl
theorem rlmo60_ok : IsTold Tryz.prog noGlob rlmo60 := told_of rlm_names rlm_mixed (c := rlmCfg) OrcsG.nil rlmo60 (fun vs w => Tryz.call100 vs w) rlmo60_run (by kernel_rfl)
def rlmo61 : Nat × List AV × AV := (100, [(.agg [(.int .i64 (3)), (.bool true), (.bool false), (.int .i64 (7)), (.int .i64 (0)), (.int .i64 (0)), (.int .i64 (0)), (.int .i32 (-8))])], (.tup [(.int .u32 (3892314104)), (.int .i64 (0))]))
theorem rlmo61_run : evCall (rlmEnv []) 100000 3000 rlmo61.1 rlmo61.2.1 emptySt keep = some rlmo61.2.2 := by kernel_rfl
theorem rlmo61_ok : IsTold Tryz.prog noGlob rlmo61 := told_of rlm_names rlm_mixed (c := rlmCfg) OrcsG.nil rlmo61 (fun vs w => Tryz.call100 vs w) rlmo61_run (by kernel_rfl)
def rlmo62 : Nat × List AV × AV := (100, [(.agg [(.int .i64 (3)), (.bool false), (.bool false), (.int .i64 (7)), (.int .i64 (0)), (.int .i64 (15)), (.int .i64 (0)), (.int .i32 (0))])], (.tup [(.int .u32 (3338665999)), (.int .i64 (0))]))
theorem rlmo62_run : evCall (rlmEnv []) 100000 3000 rlmo62.1 rlmo62.2.1 emptySt keep = some rlmo62.2.2 := by kernel_rfl
theorem rlmo62_ok : IsTold Tryz.prog noGlob rlmo62 := told_of rlm_names rlm_mixed (c := rlmCfg) OrcsG.nil rlmo62 (fun vs w => Tryz.call100 vs w) rlmo62_run (by kernel_rfl)
def rlmo67 : Nat × List AV × AV := (47, [(.lst 8 .full rlml14)], (.int .i64 (0)))
theorem rlmo67_run : evCall (rlmEnv []) 100000 3000 rlmo67.1 rlmo67.2.1 emptySt keep = some rlmo67.2.2 := by kernel_rfl
theorem rlmo67_ok : IsTold Tryz.prog noGlob rlmo67 := told_of rlm_names rlm_mixed (c := rlmCfg) OrcsG.nil rlmo67 (fun vs w => Tryz.call47 vs w) rlmo67_run (by kernel_rfl)
def rlmo68 : Nat × List AV × AV := (100, [(.agg [(.int .i64 (1)), (.bool false), (.bool false), (.int .i64 (1)), (.int .i64 (0)), (.int .i64 (0)), (.int .i64 (0)), (.int .i32 (0))])], (.tup [(.int .u32 (1090519040)), (.int .i64 (0))]))
theorem rlmo68_run : evCall (rlmEnv []) 100000 3000 rlmo68.1 rlmo68.2.1 emptySt keep = some rlmo68.2.2 := by kernel_rfl
theorem rlmo68_ok : IsTold Tryz.prog noGlob rlmo68 := told_of rlm_names rlm_mixed (c := rlmCfg) OrcsG.nil rlmo68 (fun vs w => Tryz.call100 vs w) rlmo68_run (by kernel_rfl)
def rlmo69 : Nat × List AV × AV := (100, [(.agg [(.int .i64 (2)), (.bool false), (.bool false), (.int .i64 (1)), (.int .i64 (1)), (.int .i64 (0)), (.int .i64 (0)), (.int .i32 (0))])], (.tup [(.int .u32 (2165309440)), (.int .i64 (0))]))
theorem rlmo69_run : evCall (rlmEnv []) 100000 3000 rlmo69.1 rlmo69.2.1 emptySt keep = some rlmo69.2.2 := by kernel_rfl
theorem rlmo69_ok : IsTold Tryz.prog noGlob rlmo69 := told_of rlm_names rlm_mixed (c := rlmCfg) OrcsG.nil rlmo69 (fun vs w => Tryz.call100 vs w) rlmo69_run (by kernel_rfl)
def rlmo70 : Nat × List AV × AV := (100, [(.agg [(.int .i64 (1)), (.bool false), (.bool false), (.int .i64 (2)), (.int .i64 (0)), (.int .i64 (0)), (.int .i64 (0)), (.int .i32 (0))])], (.tup [(.int .u32 (1107296256)), (.int .i64 (0))]))
theorem rlmo70_run : evCall (rlmEnv []) 100000 3000 rlmo70.1 rlmo70.2.1 emptySt keep = some rlmo70.2.2 := by kernel_rfl
theorem rlmo70_ok : IsTold Tryz.prog noGlob rlmo70 := told_of rlm_names rlm_mixed (c := rlmCfg) OrcsG.nil rlmo70 (fun vs w => Tryz.call100 vs w) rlmo70_run (by kernel_rfl)
def rlmo71 : Nat × List AV × AV := (100, [(.agg [(.int .i64 (2)), (.bool false), (.bool false), (.int .i64 (2)), (.int .i64 (2)), (.int .i64 (0)), (.int .i64 (0)), (.int .i32 (0))])], (.tup [(.int .u32 (2183135232)), (.int .i64 (0))]))
theorem rlmo71_run : evCall (rlmEnv []) 100000 3000 rlmo71.1 rlmo71.2.1 emptySt keep = some rlmo71.2.2 := by kernel_rfl
theorem rlmo71_ok : IsTold Tryz.prog noGlob rlmo71 := told_of rlm_names rlm_mixed (c := rlmCfg) OrcsG.nil rlmo71 (fun vs w => Tryz.call100 vs w) rlmo71_run (by kernel_rfl)
def rlmo72 : Nat × List AV × AV := (100, [(.agg [(.int .i64 (2)), (.bool false), (.bool false), (.int .i64 (3)), (.int .i64 (3)), (.int .i64 (0)), (.int .i64 (0)), (.int .i32 (0))])], (.tup [(.int .u32 (2200961024)), (.int .i64 (0))]))
theorem rlmo72_run : evCall (rlmEnv []) 100000 3000 rlmo72.1 rlmo72.2.1 emptySt keep = some rlmo72.2.2 := by kernel_rfl
theorem rlmo72_ok : IsTold Tryz.prog noGlob rlmo72 := told_of rlm_names rlm_mixed (c := rlmCfg) OrcsG.nil rlmo72 (fun vs w => Tryz.call100 vs w) rlmo72_run (by kernel_rfl)
def rlmo73 : Nat × List AV × AV := (100, [(.agg [(.int .i64 (1)), (.bool false), (.bool false), (.int .i64 (4)), (.int .i64 (0)), (.int .i64 (0)), (.int .i64 (0)), (.int .i32 (0))])], (.tup [(.int .u32 (1140850688)), (.int .i64 (0))]))
theorem rlmo73_run : evCall (rlmEnv []) 100000 3000 rlmo73.1 rlmo73.2.1 emptySt keep = some rlmo73.2.2 := by kernel_rfl
theorem rlmo73_ok : IsTold Tryz.prog noGlob rlmo73 := told_of rlm_names rlm_mixed (c := rlmCfg) OrcsG.nil rlmo73 (fun vs w => Tryz.call100 vs w) rlmo73_run (by kernel_rfl)
def rlmo74 : Nat × List AV × AV := (100, [(.agg [(.int .i64 (2)), (.bool false), (.bool false), (.int .i64 (4)), (.int .i64 (4)), (.int .i64 (0)), (.int .i64 (0)), (.int .i32 (0))])], (.tup [(.int .u32 (2218786816)), (.int .i64 (0))]))
theorem rlmo74_run : evCall (rlmEnv []) 100000 3000 rlmo74.1 rlmo74.2.1 emptySt keep = some rlmo74.2.2 := by kernel_rfl
theorem rlmo74_ok : IsTold Tryz.prog noGlob rlmo74 := told_of rlm_names rlm_mixed (c := rlmCfg) OrcsG.nil rlmo74 (fun vs w => Tryz.call100 vs w) rlmo74_run (by kernel_rfl)
def rlmo75 : Nat × List AV × AV := (100, [(.agg [(.int .i64 (1)), (.bool false), (.bool false), (.int .i64 (5)), (.int .i64 (0)), (.int .i64 (0)), (.int .i64 (0)), (.int .i32 (0))])], (.tup [(.int .u32 (1157627904)), (.int .i64 (0))]))
theorem rlmo75_run : evCall (rlmEnv []) 100000 3000 rlmo75.1 rlmo75.2.1 emptySt keep = some rlmo75.2.2 := by kernel_rfl
theorem rlmo75_ok : IsTold Tryz.prog noGlob rlmo75 := told_of rlm_names rlm_mixed (c := rlmCfg) OrcsG.nil rlmo75 (fun vs w => Tryz.call100 vs w) rlmo75_run (by kernel_rfl)
def rlmo76 : Nat × List AV × AV := (100, [(.agg [(.int .i64 (2)), (.bool false), (.bool false), (.int .i64 (5)), (.int .i64 (5)), (.int .i64 (0)), (.int .i64 (0)), (.int .i32 (0))])], (.tup [(.int .u32 (2236612608)), (.int .i64 (0))]))
theorem rlmo76_run : evCall (rlmEnv []) 100000 3000 rlmo76.1 rlmo76.2.1 emptySt keep = some rlmo76.2.2 := by kernel_rfl
theorem rlmo76_ok : IsTold Tryz.prog noGlob rlmo76 := told_of rlm_names rlm_mixed (c := rlmCfg) OrcsG.nil rlmo76 (fun vs w => Tryz.call100 vs w) rlmo76_run (by kernel_rfl)
def rlmo77 : Nat × List AV × AV := (100, [(.agg [(.int .i64 (1)), (.bool false), (.bool false), (.int .i64 (6)), (.int .i64 (0)), (.int .i64 (0)), (.int .i64 (0)), (.int .i32 (0))])], (.tup [(.int .u32 (1174405120)), (.int .i64 (0))]))
theorem rlmo77_run : evCall (rlmEnv []) 100000 3000 rlmo77.1 rlmo77.2.1 emptySt keep = some rlmo77.2.2 := by kernel_rfl
theorem rlmo77_ok : IsTold Tryz.prog noGlob rlmo77 := told_of rlm_names rlm_mixed (c := rlmCfg) OrcsG.nil rlmo77 (fun vs w => Tryz.call100 vs w) rlmo77_run (by kernel_rfl)
def rlmo78 : Nat × List AV × AV := (100, [(.agg [(.int .i64 (2)), (.bool false), (.bool false), (.int .i64 (6)), (.int .i64 (6)), (.int .i64 (0)), (.int .i64 (0)), (.int .i32 (0))])], (.tup [(.int .u32 (2254438400)), (.int .i64 (0))]))
theorem rlmo78_run : evCall (rlmEnv []) 100000 3000 rlmo78.1 rlmo78.2.1 emptySt keep = some rlmo78.2.2 := by kernel_rfl
theorem rlmo78_ok : IsTold Tryz.prog noGlob rlmo78 := told_of rlm_names rlm_mixed (c := rlmCfg) OrcsG.nil rlmo78 (fun vs w => Tryz.call100 vs w) rlmo78_run (by kernel_rfl)
def rlmo79 : Nat × List AV × AV := (100, [(.agg [(.int .i64 (1)), (.bool false), (.bool false), (.int .i64 (7)), (.int .i64 (0)), (.int .i64 (0)), (.int .i64 (0)), (.int .i32 (0))])], (.tup [(.int .u32 (1191182336)), (.int .i64 (0))]))
theorem rlmo79_run : evCall (rlmEnv []) 100000 3000 rlmo79.1 rlmo79.2.1 emptySt keep = some rlmo79.2.2 := by kernel_rfl
theorem rlmo79_ok : IsTold Tryz.prog noGlob rlmo79 := told_of rlm_names rlm_mixed (c := rlmCfg) OrcsG.nil rlmo79 (fun vs w => Tryz.call100 vs w) rlmo79_run (by kernel_rfl)
def rlmo80 : Nat × List AV × AV := (100, [(.agg [(.int .i64 (2)), (.bool false), (.bool false), (.int .i64 (7)), (.int .i64 (7)), (.int .i64 (0)), (.int .i64 (0)), (.int .i32 (0))])], (.tup [(.int .u32 (2272264192)), (.int .i64 (0))]))
theorem rlmo80_run : evCall (rlmEnv []) 100000 3000 rlmo80.1 rlmo80.2.1 emptySt keep = some rlmo80.2.2 := by kernel_rfl
theorem rlmo80_ok : IsTold Tryz.prog noGlob rlmo80 := told_of rlm_names rlm_mixed (c := rlmCfg) OrcsG.nil rlmo80 (fun vs w => Tryz.call100 vs w) rlmo80_run (by kernel_rfl)
def rlmo81 : Nat × List AV × AV := (100, [(.agg [(.int .i64 (1)), (.bool false), (.bool false), (.int .i64 (8)), (.int .i64 (0)), (.int .i64 (0)), (.int .i64 (0)), (.int .i32 (0))])], (.tup [(.int .u32 (1207959552)), (.int .i64 (0))]))
theorem rlmo81_run : evCall (rlmEnv []) 100000 3000 rlmo81.1 rlmo81.2.1 emptySt keep = some rlmo81.2.2 := by kernel_rfl
theorem rlmo81_ok : IsTold Tryz.prog noGlob rlmo81 := told_of rlm_names rlm_mixed (c := rlmCfg) OrcsG.nil rlmo81 (fun vs w => Tryz.call100 vs w) rlmo81_run (by kernel_rfl)
def rlmo82 : Nat × List AV × AV := (100, [(.agg [(.int .i64 (2)), (.bool false), (.bool false), (.int .i64 (8)), (.int .i64 (8)), (.int .i64 (0)), (.int .i64 (0)), (.int .i32 (0))])], (.tup [(.int .u32 (2290089984)), (.int .i64 (0))]))
theorem rlmo82_run : evCall (rlmEnv []) 100000 3000 rlmo82.1 rlmo82.2.1 emptySt keep = some rlmo82.2.2 := by kernel_rfl
theorem rlmo82_ok : IsTold Tryz.prog noGlob rlmo82 := told_of rlm_names rlm_mixed (c := rlmCfg) OrcsG.nil rlmo82 (fun vs w => Tryz.call100 vs w) rlmo82_run (by kernel_rfl)
def rlmo83 : Nat × List AV × AV := (100, [(.agg [(.int .i64 (1)), (.bool false), (.bool false), (.int .i64 (9)), (.int .i64 (0)), (.int .i64 (0)), (.int .i64 (0)), (.int .i32 (0))])], (.tup [(.int .u32 (1224736768)), (.int .i64 (0))]))
theorem rlmo83_run : evCall (rlmEnv []) 100000 3000 rlmo83.1 rlmo83.2.1 emptySt keep = some rlmo83.2.2 := by kernel_rfl
theorem rlmo83_ok : IsTold Tryz.prog noGlob rlmo83 := told_of rlm_names rlm_mixed (c := rlmCfg) OrcsG.nil rlmo83 (fun vs w => Tryz.call100 vs w) rlmo83_run (by kernel_rfl)
def rlmo84 : Nat × List AV × AV := (100, [(.agg [(.int .i64 (2)), (.bool false), (.bool false), (.int .i64 (9)), (.int .i64 (9)), (.int .i64 (0)), (.int .i64 (0)), (.int .i32 (0))])], (.tup [(.int .u32 (2307915776)), (.int .i64 (0))]))
theorem rlmo84_run : evCall (rlmEnv []) 100000 3000 rlmo84.1 rlmo84.2.1 emptySt keep = some rlmo84.2.2 := by kernel_rfl
theorem rlmo84_ok : IsTold Tryz.prog noGlob rlmo84 := told_of rlm_names rlm_mixed (c := rlmCfg) OrcsG.nil rlmo84 (fun vs w => Tryz.call100 vs w) rlmo84_run (by kernel_rfl)
def rlmo85 : Nat × List AV × AV := (100, [(.agg [(.int .i64 (0)), (.bool false), (.bool false), (.int .i64 (8)), (.int .i64 (8)), (.int .i64 (9)), (.int .i64 (8)), (.int .i32 (0))])], (.tup [(.int .u32 (143130633)), (.int .i64 (0))]))
theorem rlmo85_run : evCall (rlmEnv []) 100000 3000 rlmo85.1 rlmo85.2.1 emptySt keep = some rlmo85.2.2 := by kernel_rfl
theorem rlmo85_ok : IsTold Tryz.prog noGlob rlmo85 := told_of rlm_names rlm_mixed (c := rlmCfg) OrcsG.nil rlmo85 (fun vs w => Tryz.call100 vs w) rlmo85_run (by kernel_rfl)
def rlmo86 : Nat × List AV × AV := (100, [(.agg [(.int .i64 (0)), (.bool false), (.bool false), (.int .i64 (7)), (.int .i64 (7)), (.int .i64 (8)), (.int .i64 (8)), (.int .i32 (0))])], (.tup [(.int .u32 (125304840)), (.int .i64 (0))]))
theorem rlmo86_run : evCall (rlmEnv []) 100000 3000 rlmo86.1 rlmo86.2.1 emptySt keep = some rlmo86.2.2 := by kernel_rfl
theorem rlmo86_ok : IsTold Tryz.prog noGlob rlmo86 := told_of rlm_names rlm_mixed (c := rlmCfg) OrcsG.nil rlmo86 (fun vs w => Tryz.call100 vs w) rlmo86_run (by kernel_rfl)
def rlmo87 : Nat × List AV × AV := (100, [(.agg [(.int .i64 (0)), (.bool false), (.bool false), (.int .i64 (6)), (.int .i64 (6)), (.int .i64 (7)), (.int .i64 (8)), (.int .i32 (0))])], (.tup [(.int .u32 (107479047)), (.int .i64 (0))]))
theorem rlmo87_run : evCall (rlmEnv []) 100000 3000 rlmo87.1 rlmo87.2.1 emptySt keep = some rlmo87.2.2 := by kernel_rfl
theorem rlmo87_ok : IsTold Tryz.prog noGlob rlmo87 := told_of rlm_names rlm_mixed (c := rlmCfg) OrcsG.nil rlmo87 (fun vs w => Tryz.call100 vs w) rlmo87_run (by kernel_rfl)
def rlmo88 : Nat × List AV × AV := (100, [(.agg [(.int .i64 (0)), (.bool false), (.bool false), (.int .i64 (5)), (.int .i64 (5)), (.int .i64 (6)), (.int .i64 (8)), (.int .i32 (0))])], (.tup [(.int .u32 (89653254)), (.int .i64 (0))]))
theorem rlmo88_run : evCall (rlmEnv []) 100000 3000 rlmo88.1 rlmo88.2.1 emptySt keep = some rlmo88.2.2 := by kernel_rfl
theorem rlmo88_ok : IsTold Tryz.prog noGlob rlmo88 := told_of rlm_names rlm_mixed (c := rlmCfg) OrcsG.nil rlmo88 (fun vs w => Tryz.call100 vs w) rlmo88_run (by kernel_rfl)
def rlmo89 : Nat × List AV × AV := (100, [(.agg [(.int .i64 (0)), (.bool false), (.bool false), (.int .i64 (4)), (.int .i64 (4)), (.int .i64 (5)), (.int .i64 (8)), (.int .i32 (0))])], (.tup [(.int .u32 (71827461)), (.int .i64 (0))]))
theorem rlmo89_run : evCall (rlmEnv []) 100000 3000 rlmo89.1 rlmo89.2.1 emptySt keep = some rlmo89.2.2 := by kernel_rfl
theorem rlmo89_ok : IsTold Tryz.prog noGlob rlmo89 := told_of rlm_names rlm_mixed (c := rlmCfg) OrcsG.nil rlmo89 (fun vs w => Tryz.call100 vs w) rlmo89_run (by kernel_rfl)
def rlmo90 : Nat × List AV × AV := (100, [(.agg [(.int .i64 (0)), (.bool false), (.bool false), (.int .i64 (3)), (.int .i64 (3)), (.int .i64 (4)), (.int .i64 (8)), (.int .i32 (0))])], (.tup [(.int .u32 (54001668)), (.int .i64 (0))]))
theorem rlmo90_run : evCall (rlmEnv []) 100000 3000 rlmo90.1 rlmo90.2.1 emptySt keep = some rlmo90.2.2 := by kernel_rfl
theorem rlmo90_ok : IsTold Tryz.prog noGlob rlmo90 := told_of rlm_names rlm_mixed (c := rlmCfg) OrcsG.nil rlmo90 (fun vs w => Tryz.call100 vs w) rlmo90_run (by kernel_rfl)
def rlmo91 : Nat × List AV × AV := (100, [(.agg [(.int .i64 (0)), (.bool false), (.bool false), (.int .i64 (2)), (.int .i64 (2)), (.int .i64 (3)), (.int .i64 (8)), (.int .i32 (0))])], (.tup [(.int .u32 (36175875)), (.int .i64 (0))]))
theorem rlmo91_run : evCall (rlmEnv []) 100000 3000 rlmo91.1 rlmo91.2.1 emptySt keep = some rlmo91.2.2 := by kernel_rfl
theorem rlmo91_ok : IsTold Tryz.prog noGlob rlmo91 := told_of rlm_names rlm_mixed (c := rlmCfg) OrcsG.nil rlmo91 (fun vs w => Tryz.call100 vs w) rlmo91_run (by kernel_rfl)
def rlmo92 : Nat × List AV × AV := (100, [(.agg [(.int .i64 (0)), (.bool false), (.bool false), (.int .i64 (1)), (.int .i64 (1)), (.int .i64 (2)), (.int .i64 (8)), (.int .i32 (0))])], (.tup [(.int .u32 (18350082)), (.int .i64 (0))]))
theorem rlmo92_run : evCall (rlmEnv []) 100000 3000 rlmo92.1 rlmo92.2.1 emptySt keep = some rlmo92.2.2 := by kernel_rfl
theorem rlmo92_ok : IsTold Tryz.prog noGlob rlmo92 := told_of rlm_names rlm_mixed (c := rlmCfg) OrcsG.nil rlmo92 (fun vs w => Tryz.call100 vs w) rlmo92_run (by kernel_rfl)
def rlmo93 : Nat × List AV × AV := (100, [(.agg [(.int .i64 (3)), (.bool true), (.bool true), (.int .i64 (7)), (.int .i64 (0)), (.int .i64 (0)), (.int .i64 (0)), (.int .i32 (1))])], (.tup [(.int .u32 (4143972353)), (.int .i64 (0))]))
theorem rlmo93_run : evCall (rlmEnv []) 100000 3000 rlmo93.1 rlmo93.2.1 emptySt keep = some rlmo93.2.2 := by kernel_rfl
theorem rlmo93_ok : IsTold Tryz.prog noGlob rlmo93 := told_of rlm_names rlm_mixed (c := rlmCfg) OrcsG.nil rlmo93 (fun vs w => Tryz.call100 vs w) rlmo93_run (by kernel_rfl)
def rlmo98 : Nat × List AV × AV := (7, [(.lst 8 .full rlml14), (.int .i64 (65537))], (.int .i64 (45)))
theorem rlmo98_run : evCall (rlmEnv [rlmo67]) 100000 3000 rlmo98.1 rlmo98.2.1 emptySt keep = some rlmo98.2.2 := by kernel_rfl
theorem rlmo98_ok : IsTold Tryz.prog noGlob rlmo98 := told_of rlm_names rlm_mixed (c := rlmCfg) (OrcsG.more rlmo67_ok OrcsG.nil) rlmo98 (fun vs w => Tryz.call7 vs w) rlmo98_run (by kernel_rfl)
def rlmo101 : Nat × List AV × AV := (47, [(.lst 8 .full rlml17)], (.int .i64 (0)))
theorem rlmo101_run : evCall (rlmEnv []) 100000 3000 rlmo101.1 rlmo101.2.1 emptySt keep = some rlmo101.2.2 := by kernel_rfl
theorem rlmo101_ok : IsTold Tryz.prog noGlob rlmo101 := told_of rlm_names rlm_mixed (c := rlmCfg) OrcsG.nil rlmo101 (fun vs w => Tryz.call47 vs w) rlmo101_run (by kernel_rfl)
def rlmo102 : Nat × List AV × AV := (100, [(.agg [(.int .i64 (1)), (.bool false), (.bool false), (.int .i64 (10)), (.int .i64 (0)), (.int .i64 (0)), (.int .i64 (0)), (.int .i32 (0))])], (.tup [(.int .u32 (1241513984)), (.int .i64 (0))]))
theorem rlmo102_run : evCall (rlmEnv []) 100000 3000 rlmo102.1 rlmo102.2.1 emptySt keep = some rlmo102.2.2 := by kernel_rfl
theorem rlmo102_ok : IsTold Tryz.prog noGlob rlmo102 := told_of rlm_names rlm_mixed (c := rlmCfg) OrcsG.nil rlmo102 (fun vs w => Tryz.call100 vs w) rlmo102_run (by kernel_rfl)
def rlmo103 : Nat × List AV × AV := (100, [(.agg [(.int .i64 (2)), (.bool false), (.bool false), (.int .i64 (10)), (.int .i64 (10)), (.int .i64 (0)), (.int .i64 (0)), (.int .i32 (0))])], (.tup [(.int .u32 (2325741568)), (.int .i64 (0))]))
theorem rlmo103_run : evCall (rlmEnv []) 100000 3000 rlmo103.1 rlmo103.2.1 emptySt keep = some rlmo103.2.2 := by kernel_rfl
theorem rlmo103_ok : IsTold Tryz.prog noGlob rlmo103 := told_of rlm_names rlm_mixed (c := rlmCfg) OrcsG.nil rlmo103 (fun vs w => Tryz.call100 vs w) rlmo103_run (by kernel_rfl)
def rlmo104 : Nat × List AV × AV := (100, [(.agg [(.int .i64 (0)), (.bool false), (.bool false), (.int .i64 (9)), (.int .i64 (9)), (.int .i64 (10)), (.int .i64 (8)), (.int .i32 (0))])], (.tup [(.int .u32 (160956426)), (.int .i64 (0))]))
theorem rlmo104_run : evCall (rlmEnv []) 100000 3000 rlmo104.1 rlmo104.2.1 emptySt keep = some rlmo104.2.2 := by kernel_rfl
theorem rlmo104_ok : IsTold Tryz.prog noGlob rlmo104 := told_of rlm_names rlm_mixed (c := rlmCfg) OrcsG.nil rlmo104 (fun vs w => Tryz.call100 vs w) rlmo104_run (by kernel_rfl)
def rlmo109 : Nat × List AV × AV := (7, [(.lst 8 .full rlml17), (.int .i64 (65537))], (.int .i64 (45)))
theorem rlmo109_run : evCall (rlmEnv [rlmo101]) 100000 3000 rlmo109.1 rlmo109.2.1 emptySt keep = some rlmo109.2.2 := by kernel_rfl
theorem rlmo109_ok : IsTold Tryz.prog noGlob rlmo109 := told_of rlm_names rlm_mixed (c := rlmCfg) (OrcsG.more rlmo101_ok OrcsG.nil) rlmo109 (fun vs w => Tryz.call7 vs w) rlmo109_run (by kernel_rfl)
def rlmo112 : Nat × List AV × AV := (47, [(.lst 8 .full rlml19)], (.int .i64 (0)))
theorem rlmo112_run : evCall (rlmEnv []) 100000 3000 rlmo112.1 rlmo112.2.1 emptySt keep = some rlmo112.2.2 := by kernel_rfl
theorem rlmo112_ok : IsTold Tryz.prog noGlob rlmo112 := told_of rlm_names rlm_mixed (c := rlmCfg) OrcsG.nil rlmo112 (fun vs w => Tryz.call47 vs w) rlmo112_run (by kernel_rfl)
def rlmo113 : Nat × List AV × AV := (100, [(.agg [(.int .i64 (1)), (.bool false), (.bool false), (.int .i64 (11)), (.int .i64 (0)), (.int .i64 (0)), (.int .i64 (0)), (.int .i32 (0))])], (.tup [(.int .u32 (1258291200)), (.int .i64 (0))]))
theorem rlmo113_run : evCall (rlmEnv []) 100000 3000 rlmo113.1 rlmo113.2.1 emptySt keep = some rlmo113.2.2 := by kernel_rfl
theorem rlmo113_ok : IsTold Tryz.prog noGlob rlmo113 := told_of rlm_names rlm_mixed (c := rlmCfg) OrcsG.nil rlmo113 (fun vs w => Tryz.call100 vs w) rlmo113_run (by kernel_rfl)
def rlmo114 : Nat × List AV × AV := (100, [(.agg [(.int .i64 (2)), (.bool false), (.bool false), (.int .i64 (11)), (.int .i64 (11)), (.int .i64 (0)), (.int .i64 (0)), (.int .i32 (0))])], (.tup [(.int .u32 (2343567360)), (.int .i64 (0))]))
theorem rlmo114_run : evCall (rlmEnv []) 100000 3000 rlmo114.1 rlmo114.2.1 emptySt keep = some rlmo114.2.2 := by kernel_rfl
theorem rlmo114_ok : IsTold Tryz.prog noGlob rlmo114 := told_of rlm_names rlm_mixed (c := rlmCfg) OrcsG.nil rlmo114 (fun vs w => Tryz.call100 vs w) rlmo114_run (by kernel_rfl)
def rlmo115 : Nat × List AV × AV := (100, [(.agg [(.int .i64 (0)), (.bool false), (.bool false), (.int .i64 (10)), (.int .i64 (10)), (.int .i64 (11)), (.int .i64 (8)), (.int .i32 (0))])], (.tup [(.int .u32 (178782219)), (.int .i64 (0))]))
theorem rlmo115_run : evCall (rlmEnv []) 100000 3000 rlmo115.1 rlmo115.2.1 emptySt keep = some rlmo115.2.2 := by kernel_rfl
theorem rlmo115_ok : IsTold Tryz.prog noGlob rlmo115 := told_of rlm_names rlm_mixed (c := rlmCfg) OrcsG.nil rlmo115 (fun vs w => Tryz.call100 vs w) rlmo115_run (by kernel_rfl)
def rlmo120 : Nat × List AV × AV := (7, [(.lst 8 .full rlml19), (.int .i64 (65537))], (.int .i64 (45)))
theorem rlmo120_run : evCall (rlmEnv [rlmo112]) 100000 3000 rlmo120.1 rlmo120.2.1 emptySt keep = some rlmo120.2.2 := by kernel_rfl
theorem rlmo120_ok : IsTold Tryz.prog noGlob rlmo120 := told_of rlm_names rlm_mixed (c := rlmCfg) (OrcsG.more rlmo112_ok OrcsG.nil) rlmo120 (fun vs w => Tryz.call7 vs w) rlmo120_run (by kernel_rfl)
def rlmo123 : Nat × List AV × AV := (47, [(.lst 8 .full rlml21)], (.int .i64 (44)))
theorem rlmo123_run : evCall (rlmEnv []) 100000 3000 rlmo123.1 rlmo123.2.1 emptySt keep = some rlmo123.2.2 := by kernel_rfl
theorem rlmo123_ok : IsTold Tryz.prog noGlob rlmo123 := told_of rlm_names rlm_mixed (c := rlmCfg) OrcsG.nil rlmo123 (fun vs w => Tryz.call47 vs w) rlmo123_run (by kernel_rfl)
def rlmo124 : Nat × List AV × AV := (7, [(.lst 8 .full rlml21), (.int .i64 (0))], (.int .i64 (44)))
theorem rlmo124_run : evCall (rlmEnv [rlmo123]) 100000 3000 rlmo124.1 rlmo124.2.1 emptySt keep = some rlmo124.2.2 := by kernel_rfl
theorem rlmo124_ok : IsTold Tryz.prog noGlob rlmo124 := told_of rlm_names rlm_mixed (c := rlmCfg) (OrcsG.more rlmo123_ok OrcsG.nil) rlmo124 (fun vs w => Tryz.call7 vs w) rlmo124_run (by kernel_rfl)
def rlmo127 : Nat × List AV × AV := (47, [(.lst 8 .full rlml23)], (.int .i64 (44)))
theorem rlmo127_run : evCall (rlmEnv []) 100000 3000 rlmo127.1 rlmo127.2.1 emptySt keep = some rlmo127.2.2 := by kernel_rfl
theorem rlmo127_ok : IsTold Tryz.prog noGlob rlmo127 := told_of rlm_names rlm_mixed (c := rlmCfg) OrcsG.nil rlmo127 (fun vs w => Tryz.call47 vs w) rlmo127_run (by kernel_rfl)
def rlmo128 : Nat × List AV × AV := (7, [(.lst 8 .full rlml23), (.int .i64 (0))], (.int .i64 (44)))
theorem rlmo128_run : evCall (rlmEnv [rlmo127]) 100000 3000 rlmo128.1 rlmo128.2.1 emptySt keep = some rlmo128.2.2 := by kernel_rfl
theorem rlmo128_ok : IsTold Tryz.prog noGlob rlmo128 := told_of rlm_names rlm_mixed (c := rlmCfg) (OrcsG.more rlmo127_ok OrcsG.nil) rlmo128 (fun vs w => Tryz.call7 vs w) rlmo128_run (by kernel_rfl)
end Go.Proofs.YtgidgiidcnlpbaaGreat
