/- EvalTypes, run by the evaluation: what is told of small calls. -/
import Derived.Test.YtgidgiidcnlpbaaGreatDoorProg
import Derived.Test.YtgidgiidcnlpbaaGreatDoorVCfg
import Derived.KernelRfl
set_option linter.unusedSimpArgs false
set_option linter.unusedVariables false
set_option maxRecDepth 100000
namespace Go.Proofs.YtgidgiidcnlpbaaGreatDoor
open Go.VE

theorem evt_names : (Tryz.prog.funcs.toList.all fun fn => !(fn.name == "runtime.NumGoroutine")) = true := by kernel_rfl
theorem evt_mixed : Tryz.prog.follows .mixedOrders = true := by kernel_rfl
def evtCfg : Cfg := ⟨[21], [(31, 20)]⟩
noncomputable def evtEnv (l : List (Nat × List AV × AV)) : Env := envC Tryz.prog (fun _ => 0) (fun _ _ => none) (fun _ _ => none) noGlob evtCfg l
def evtl0 : List AV := [(.int .i64 (1)), (.int .i64 (9)), (.int .i64 (0)), (.str [77, 46, 65]), .nils, (.int .i32 (0)), (.str [77, 46, 97]), .nils]
def evtl1 : List AV := [(.int .i64 (1)), (.int .i64 (9)), (.int .i64 (0)), (.str [77, 46, 66]), .nils, (.int .i32 (0)), (.str [77, 46, 98]), .nils]
def evtl2 : List AV := [(.int .i64 (1)), (.int .i64 (9)), (.int .i64 (0)), (.str [77, 46, 67]), .nils, (.int .i32 (0)), (.str [77, 46, 99]), .nils]
def evtl3 : List (List AV) := [evtl0]
def evtl4 : List AV := [(.lst 1 .unk [[(.int .u8 (49))], [(.int .u8 (48))], [(.int .u8 (48))], [(.int .u8 (48))]]), (.int .i64 (1)), (.int .i64 (0))]
def evtl5 : List AV := [(.lst 1 .unk [[(.int .u8 (49))], [(.int .u8 (49))], [(.int .u8 (48))], [(.int .u8 (48))]]), (.int .i64 (1)), (.int .i64 (0))]
def evtl6 : List AV := [(.lst 1 .unk [[(.int .u8 (49))], [(.int .u8 (49))], [(.int .u8 (49))], [(.int .u8 (48))]]), (.int .i64 (1)), (.int .i64 (0))]
def evtl7 : List AV := [(.int .i64 (11)), (.lst 8 .full evtl3), .nils, .nils]
def evtl8 : List AV := [(.int .i64 (11)), (.lst 8 .full [evtl1]), .nils, .nils]
def evtl9 : List AV := [(.int .i64 (11)), (.lst 8 .full [evtl2]), .nils, .nils]
def evtl10 : List (List AV) := [[(.int .i64 (1)), (.int .i64 (1)), (.int .i64 (0)), (.str []), .nils, (.int .i32 (0)), (.str [77, 46, 105]), .nils], [(.int .i64 (0)), (.int .i64 (1)), (.int .i64 (0)), (.str []), .nils, (.int .i32 (1)), (.str []), .nils]]
def evtl11 : List (List AV) := [[(.str [97]), (.bool false), (.int .i64 (9)), (.int .i64 (0)), (.str [77, 46, 65]), .nils], [(.str [98]), (.bool false), (.int .i64 (9)), (.int .i64 (0)), (.str [77, 46, 66]), .nils], [(.str [99]), (.bool false), (.int .i64 (9)), (.int .i64 (0)), (.str [77, 46, 67]), .nils]]
def evtl12 : List AV := [(.int .i64 (0)), (.lst 8 .full [evtl0, [(.int .i64 (0)), (.int .i64 (5)), (.int .i64 (0)), (.str []), .nils, (.int .i32 (0)), (.str []), .nils]]), .nils, .nils]
def evtl13 : List UInt8 := [77, 79, 68, 85, 76, 69, 32, 77, 59, 32, 73, 77, 80, 79, 82, 84, 32, 79, 117, 116, 59, 32, 86, 65, 82, 32, 105, 58, 32, 73, 78, 84, 69, 71, 69, 82, 59, 32, 66, 69, 71, 73, 78, 32, 105, 32, 58, 61, 32, 50, 59, 32, 79, 117, 116, 46, 73, 110, 116, 40, 105, 32, 43, 32, 49, 41, 59, 32, 65, 83, 83, 69, 82, 84, 40, 105, 32, 61, 32, 49, 41, 32, 69, 78, 68, 32, 77, 46]
def evtl14 : List AV := [(.int .i64 (14)), (.lst 8 .full [[(.int .i64 (32)), (.int .i64 (1)), (.int .i64 (0)), (.str []), .nils, (.int .i32 (0)), (.str []), (.lst 8 .full [[(.int .i64 (23)), (.int .i64 (3)), (.int .i64 (0)), (.str []), .nils, (.int .i32 (0)), (.str [77, 46, 65]), (.lst 8 .full evtl3)]])]]), .nils, .nils]
def evtl15 : List AV := [(.int .i64 (14)), (.lst 8 .full [[(.int .i64 (32)), (.int .i64 (1)), (.int .i64 (0)), (.str []), .nils, (.int .i32 (0)), (.str []), (.lst 8 .full [[(.int .i64 (23)), (.int .i64 (3)), (.int .i64 (0)), (.str []), .nils, (.int .i32 (0)), (.str [77, 46, 66]), (.lst 8 .full evtl3)]])]]), .nils, .nils]
def evtl16 : List AV := [(.int .i64 (14)), (.lst 8 .full [[(.int .i64 (32)), (.int .i64 (1)), (.int .i64 (0)), (.str []), .nils, (.int .i32 (0)), (.str []), (.lst 8 .full [[(.int .i64 (23)), (.int .i64 (3)), (.int .i64 (0)), (.str []), .nils, (.int .i32 (0)), (.str [77, 46, 67]), (.lst 8 .full evtl3)]])]]), .nils, .nils]
def evtl17 : List (List AV) := [[(.str [65]), (.bool false), (.str []), (.lst 6 .unk [[(.str [120]), (.bool false), (.int .i64 (1)), (.int .i64 (0)), (.str []), .nils]])], [(.str [66]), (.bool false), (.str [77, 46, 65]), (.lst 6 .unk [[(.str [121]), (.bool false), (.int .i64 (1)), (.int .i64 (0)), (.str []), .nils]])], [(.str [67]), (.bool false), (.str [77, 46, 66]), (.lst 6 .unk [[(.str [122]), (.bool false), (.int .i64 (1)), (.int .i64 (0)), (.str []), .nils]])]]
def evtl18 : List UInt8 := [77, 79, 68, 85, 76, 69, 32, 77, 59, 32, 73, 77, 80, 79, 82, 84, 32, 79, 117, 116, 59, 32, 84, 89, 80, 69, 32, 65, 32, 61, 32, 82, 69, 67, 79, 82, 68, 32, 120, 58, 32, 73, 78, 84, 69, 71, 69, 82, 32, 69, 78, 68, 59, 32, 66, 32, 61, 32, 82, 69, 67, 79, 82, 68, 32, 40, 65, 41, 32, 121, 58, 32, 73, 78, 84, 69, 71, 69, 82, 32, 69, 78, 68, 59, 32, 67, 32, 61, 32, 82, 69, 67, 79, 82, 68, 32, 40, 66, 41, 32, 122, 58, 32, 73, 78, 84, 69, 71, 69, 82, 32, 69, 78, 68, 59, 32, 86, 65, 82, 32, 97, 58, 32, 80, 79, 73, 78, 84, 69, 82, 32, 84, 79, 32, 65, 59, 32, 98, 58, 32, 80, 79, 73, 78, 84, 69, 82, 32, 84, 79, 32, 66, 59, 32, 99, 58, 32, 80, 79, 73, 78, 84, 69, 82, 32, 84, 79, 32, 67, 59, 32, 66, 69, 71, 73, 78, 32, 78, 69, 87, 40, 97, 41, 59, 32, 78, 69, 87, 40, 98, 41, 59, 32, 78, 69, 87, 40, 99, 41, 59, 32, 79, 117, 116, 46, 73, 110, 116, 40, 79, 82, 68, 40, 97, 32, 73, 83, 32, 65, 41, 41, 59, 32, 79, 117, 116, 46, 73, 110, 116, 40, 79, 82, 68, 40, 97, 32, 73, 83, 32, 66, 41, 41, 59, 32, 79, 117, 116, 46, 73, 110, 116, 40, 79, 82, 68, 40, 97, 32, 73, 83, 32, 67, 41, 41, 59, 32, 97, 32, 58, 61, 32, 78, 73, 76, 59, 32, 79, 117, 116, 46, 73, 110, 116, 40, 79, 82, 68, 40, 97, 32, 73, 83, 32, 65, 41, 41, 32, 69, 78, 68, 32, 77, 46]
def evtl19 : List AV := [(.str [77]), (.lst 1 .unk [[(.str [79, 117, 116])]]), .nils, .nils, .nils, (.lst 6 .unk [[(.str [105]), (.bool false), (.int .i64 (1)), (.int .i64 (0)), (.str []), .nils]]), .nils, (.lst 4 .unk [[(.int .i64 (0)), (.lst 8 .full [[(.int .i64 (1)), (.int .i64 (1)), (.int .i64 (0)), (.str []), .nils, (.int .i32 (0)), (.str [77, 46, 105]), .nils], [(.int .i64 (0)), (.int .i64 (1)), (.int .i64 (0)), (.str []), .nils, (.int .i32 (2)), (.str []), .nils]]), .nils, .nils], [(.int .i64 (14)), (.lst 8 .full [[(.int .i64 (9)), (.int .i64 (1)), (.int .i64 (0)), (.str []), .nils, (.int .i32 (0)), (.str []), (.lst 8 .full evtl10)]]), .nils, .nils], [(.int .i64 (12)), (.lst 8 .full [[(.int .i64 (16)), (.int .i64 (3)), (.int .i64 (0)), (.str []), .nils, (.int .i32 (0)), (.str []), (.lst 8 .full evtl10)]]), .nils, .nils]])]
def evtl20 : List UInt8 := [77, 79, 68, 85, 76, 69, 32, 77, 59, 32, 73, 77, 80, 79, 82, 84, 32, 79, 117, 116, 59, 32, 84, 89, 80, 69, 32, 65, 32, 61, 32, 82, 69, 67, 79, 82, 68, 32, 120, 58, 32, 73, 78, 84, 69, 71, 69, 82, 32, 69, 78, 68, 59, 32, 66, 32, 61, 32, 82, 69, 67, 79, 82, 68, 32, 40, 65, 41, 32, 121, 58, 32, 73, 78, 84, 69, 71, 69, 82, 32, 69, 78, 68, 59, 32, 67, 32, 61, 32, 82, 69, 67, 79, 82, 68, 32, 40, 66, 41, 32, 122, 58, 32, 73, 78, 84, 69, 71, 69, 82, 32, 69, 78, 68, 59, 32, 86, 65, 82, 32, 97, 58, 32, 80, 79, 73, 78, 84, 69, 82, 32, 84, 79, 32, 65, 59, 32, 98, 58, 32, 80, 79, 73, 78, 84, 69, 82, 32, 84, 79, 32, 66, 59, 32, 99, 58, 32, 80, 79, 73, 78, 84, 69, 82, 32, 84, 79, 32, 67, 59, 32, 66, 69, 71, 73, 78, 32, 78, 69, 87, 40, 97, 41, 59, 32, 78, 69, 87, 40, 98, 41, 59, 32, 78, 69, 87, 40, 99, 41, 59, 32, 97, 32, 58, 61, 32, 98, 59, 32, 79, 117, 116, 46, 73, 110, 116, 40, 79, 82, 68, 40, 97, 32, 73, 83, 32, 65, 41, 41, 59, 32, 79, 117, 116, 46, 73, 110, 116, 40, 79, 82, 68, 40, 97, 32, 73, 83, 32, 66, 41, 41, 59, 32, 79, 117, 116, 46, 73, 110, 116, 40, 79, 82, 68, 40, 97, 32, 73, 83, 32, 67, 41, 41, 59, 32, 97, 32, 58, 61, 32, 78, 73, 76, 59, 32, 79, 117, 116, 46, 73, 110, 116, 40, 79, 82, 68, 40, 97, 32, 73, 83, 32, 65, 41, 41, 32, 69, 78, 68, 32, 77, 46]
def evtl21 : List UInt8 := [77, 79, 68, 85, 76, 69, 32, 77, 59, 32, 73, 77, 80, 79, 82, 84, 32, 79, 117, 116, 59, 32, 84, 89, 80, 69, 32, 65, 32, 61, 32, 82, 69, 67, 79, 82, 68, 32, 120, 58, 32, 73, 78, 84, 69, 71, 69, 82, 32, 69, 78, 68, 59, 32, 66, 32, 61, 32, 82, 69, 67, 79, 82, 68, 32, 40, 65, 41, 32, 121, 58, 32, 73, 78, 84, 69, 71, 69, 82, 32, 69, 78, 68, 59, 32, 67, 32, 61, 32, 82, 69, 67, 79, 82, 68, 32, 40, 66, 41, 32, 122, 58, 32, 73, 78, 84, 69, 71, 69, 82, 32, 69, 78, 68, 59, 32, 86, 65, 82, 32, 97, 58, 32, 80, 79, 73, 78, 84, 69, 82, 32, 84, 79, 32, 65, 59, 32, 98, 58, 32, 80, 79, 73, 78, 84, 69, 82, 32, 84, 79, 32, 66, 59, 32, 99, 58, 32, 80, 79, 73, 78, 84, 69, 82, 32, 84, 79, 32, 67, 59, 32, 66, 69, 71, 73, 78, 32, 78, 69, 87, 40, 97, 41, 59, 32, 78, 69, 87, 40, 98, 41, 59, 32, 78, 69, 87, 40, 99, 41, 59, 32, 97, 32, 58, 61, 32, 99, 59, 32, 79, 117, 116, 46, 73, 110, 116, 40, 79, 82, 68, 40, 97, 32, 73, 83, 32, 65, 41, 41, 59, 32, 79, 117, 116, 46, 73, 110, 116, 40, 79, 82, 68, 40, 97, 32, 73, 83, 32, 66, 41, 41, 59, 32, 79, 117, 116, 46, 73, 110, 116, 40, 79, 82, 68, 40, 97, 32, 73, 83, 32, 67, 41, 41, 59, 32, 97, 32, 58, 61, 32, 78, 73, 76, 59, 32, 79, 117, 116, 46, 73, 110, 116, 40, 79, 82, 68, 40, 97, 32, 73, 83, 32, 65, 41, 41, 32, 69, 78, 68, 32, 77, 46]
def evtl22 : List AV := [(.str [77]), (.lst 1 .unk [[(.str [79, 117, 116])]]), .nils, .nils, (.lst 4 .unk evtl17), (.lst 6 .unk evtl11), .nils, (.lst 4 .unk [evtl7, evtl8, evtl9, evtl14, evtl15, evtl16, evtl12, evtl14])]
def evtl23 : List AV := [.nils, (.int .i64 (100)), (.int .i64 (20000)), (.lst 8 .full [evtl22])]
def evtl24 : List AV := [(.str [77]), (.lst 1 .unk [[(.str [79, 117, 116])]]), .nils, .nils, (.lst 4 .unk evtl17), (.lst 6 .unk evtl11), .nils, (.lst 4 .unk [evtl7, evtl8, evtl9, [(.int .i64 (0)), (.lst 8 .full [evtl0, evtl1]), .nils, .nils], evtl14, evtl15, evtl16, evtl12, evtl14])]
def evtl25 : List AV := [(.str [77]), (.lst 1 .unk [[(.str [79, 117, 116])]]), .nils, .nils, (.lst 4 .unk evtl17), (.lst 6 .unk evtl11), .nils, (.lst 4 .unk [evtl7, evtl8, evtl9, [(.int .i64 (0)), (.lst 8 .full [evtl0, evtl2]), .nils, .nils], evtl14, evtl15, evtl16, evtl12, evtl14])]
def evtl26 : List AV := [.nils, (.int .i64 (100)), (.int .i64 (20000)), (.lst 8 .full [evtl24])]
def evtl27 : List AV := [.nils, (.int .i64 (100)), (.int .i64 (20000)), (.lst 8 .full [evtl25])]
def evto0 : Nat × List AV × AV := (58, [(.str [77, 79, 68, 85, 76, 69])], (.bool true))
theorem evto0_run : evCall (evtEnv []) 100000 3000 evto0.1 evto0.2.1 emptySt keep = some evto0.2.2 := by kernel_rfl
theorem evto0_ok : IsTold Tryz.prog noGlob evto0 := told_of evt_names evt_mixed (c := evtCfg) OrcsG.nil evto0 (fun vs w => Tryz.call58 vs w) evto0_run (by kernel_rfl)
def evto1 : Nat × List AV × AV := (58, [(.str [77])], (.bool false))
theorem evto1_run : evCall (evtEnv []) 100000 3000 evto1.1 evto1.2.1 emptySt keep = some evto1.2.2 := by kernel_rfl
theorem evto1_ok : IsTold Tryz.prog noGlob evto1 := told_of evt_names evt_mixed (c := evtCfg) OrcsG.nil evto1 (fun vs w => Tryz.call58 vs w) evto1_run (by kernel_rfl)
def evto2 : Nat × List AV × AV := (61, [(.str [43, 45, 42, 47, 38, 126, 61, 35, 60, 62, 46, 44, 59, 58, 40, 41, 91, 93, 123, 125, 94, 124]), (.int .u8 (59))], (.bool true))
theorem evto2_run : evCall (evtEnv []) 100000 3000 evto2.1 evto2.2.1 emptySt keep = some evto2.2.2 := by kernel_rfl
theorem evto2_ok : IsTold Tryz.prog noGlob evto2 := told_of evt_names evt_mixed (c := evtCfg) OrcsG.nil evto2 (fun vs w => Tryz.call61 vs w) evto2_run (by kernel_rfl)
def evto3 : Nat × List AV × AV := (58, [(.str [73, 77, 80, 79, 82, 84])], (.bool true))
theorem evto3_run : evCall (evtEnv []) 100000 3000 evto3.1 evto3.2.1 emptySt keep = some evto3.2.2 := by kernel_rfl
theorem evto3_ok : IsTold Tryz.prog noGlob evto3 := told_of evt_names evt_mixed (c := evtCfg) OrcsG.nil evto3 (fun vs w => Tryz.call58 vs w) evto3_run (by kernel_rfl)
def evto4 : Nat × List AV × AV := (58, [(.str [79, 117, 116])], (.bool false))
theorem evto4_run : evCall (evtEnv []) 100000 3000 evto4.1 evto4.2.1 emptySt keep = some evto4.2.2 := by kernel_rfl
theorem evto4_ok : IsTold Tryz.prog noGlob evto4 := told_of evt_names evt_mixed (c := evtCfg) OrcsG.nil evto4 (fun vs w => Tryz.call58 vs w) evto4_run (by kernel_rfl)
def evto5 : Nat × List AV × AV := (58, [(.str [86, 65, 82])], (.bool true))
theorem evto5_run : evCall (evtEnv []) 100000 3000 evto5.1 evto5.2.1 emptySt keep = some evto5.2.2 := by kernel_rfl
theorem evto5_ok : IsTold Tryz.prog noGlob evto5 := told_of evt_names evt_mixed (c := evtCfg) OrcsG.nil evto5 (fun vs w => Tryz.call58 vs w) evto5_run (by kernel_rfl)
def evto6 : Nat × List AV × AV := (58, [(.str [105])], (.bool false))
theorem evto6_run : evCall (evtEnv []) 100000 3000 evto6.1 evto6.2.1 emptySt keep = some evto6.2.2 := by kernel_rfl
theorem evto6_ok : IsTold Tryz.prog noGlob evto6 := told_of evt_names evt_mixed (c := evtCfg) OrcsG.nil evto6 (fun vs w => Tryz.call58 vs w) evto6_run (by kernel_rfl)
def evto7 : Nat × List AV × AV := (61, [(.str [43, 45, 42, 47, 38, 126, 61, 35, 60, 62, 46, 44, 59, 58, 40, 41, 91, 93, 123, 125, 94, 124]), (.int .u8 (58))], (.bool true))
theorem evto7_run : evCall (evtEnv []) 100000 3000 evto7.1 evto7.2.1 emptySt keep = some evto7.2.2 := by kernel_rfl
theorem evto7_ok : IsTold Tryz.prog noGlob evto7 := told_of evt_names evt_mixed (c := evtCfg) OrcsG.nil evto7 (fun vs w => Tryz.call61 vs w) evto7_run (by kernel_rfl)
def evto8 : Nat × List AV × AV := (58, [(.str [73, 78, 84, 69, 71, 69, 82])], (.bool false))
theorem evto8_run : evCall (evtEnv []) 100000 3000 evto8.1 evto8.2.1 emptySt keep = some evto8.2.2 := by kernel_rfl
theorem evto8_ok : IsTold Tryz.prog noGlob evto8 := told_of evt_names evt_mixed (c := evtCfg) OrcsG.nil evto8 (fun vs w => Tryz.call58 vs w) evto8_run (by kernel_rfl)
def evto9 : Nat × List AV × AV := (58, [(.str [66, 69, 71, 73, 78])], (.bool true))
theorem evto9_run : evCall (evtEnv []) 100000 3000 evto9.1 evto9.2.1 emptySt keep = some evto9.2.2 := by kernel_rfl
theorem evto9_ok : IsTold Tryz.prog noGlob evto9 := told_of evt_names evt_mixed (c := evtCfg) OrcsG.nil evto9 (fun vs w => Tryz.call58 vs w) evto9_run (by kernel_rfl)
def evto10 : Nat × List AV × AV := (61, [(.str [43, 45, 42, 47, 38, 126, 61, 35, 60, 62, 46, 44, 59, 58, 40, 41, 91, 93, 123, 125, 94, 124]), (.int .u8 (46))], (.bool true))
theorem evto10_run : evCall (evtEnv []) 100000 3000 evto10.1 evto10.2.1 emptySt keep = some evto10.2.2 := by kernel_rfl
theorem evto10_ok : IsTold Tryz.prog noGlob evto10 := told_of evt_names evt_mixed (c := evtCfg) OrcsG.nil evto10 (fun vs w => Tryz.call61 vs w) evto10_run (by kernel_rfl)
def evto11 : Nat × List AV × AV := (58, [(.str [73, 110, 116])], (.bool false))
theorem evto11_run : evCall (evtEnv []) 100000 3000 evto11.1 evto11.2.1 emptySt keep = some evto11.2.2 := by kernel_rfl
theorem evto11_ok : IsTold Tryz.prog noGlob evto11 := told_of evt_names evt_mixed (c := evtCfg) OrcsG.nil evto11 (fun vs w => Tryz.call58 vs w) evto11_run (by kernel_rfl)
def evto12 : Nat × List AV × AV := (61, [(.str [43, 45, 42, 47, 38, 126, 61, 35, 60, 62, 46, 44, 59, 58, 40, 41, 91, 93, 123, 125, 94, 124]), (.int .u8 (40))], (.bool true))
theorem evto12_run : evCall (evtEnv []) 100000 3000 evto12.1 evto12.2.1 emptySt keep = some evto12.2.2 := by kernel_rfl
theorem evto12_ok : IsTold Tryz.prog noGlob evto12 := told_of evt_names evt_mixed (c := evtCfg) OrcsG.nil evto12 (fun vs w => Tryz.call61 vs w) evto12_run (by kernel_rfl)
def evto13 : Nat × List AV × AV := (61, [(.str [43, 45, 42, 47, 38, 126, 61, 35, 60, 62, 46, 44, 59, 58, 40, 41, 91, 93, 123, 125, 94, 124]), (.int .u8 (43))], (.bool true))
theorem evto13_run : evCall (evtEnv []) 100000 3000 evto13.1 evto13.2.1 emptySt keep = some evto13.2.2 := by kernel_rfl
theorem evto13_ok : IsTold Tryz.prog noGlob evto13 := told_of evt_names evt_mixed (c := evtCfg) OrcsG.nil evto13 (fun vs w => Tryz.call61 vs w) evto13_run (by kernel_rfl)
def evto14 : Nat × List AV × AV := (61, [(.str [43, 45, 42, 47, 38, 126, 61, 35, 60, 62, 46, 44, 59, 58, 40, 41, 91, 93, 123, 125, 94, 124]), (.int .u8 (41))], (.bool true))
theorem evto14_run : evCall (evtEnv []) 100000 3000 evto14.1 evto14.2.1 emptySt keep = some evto14.2.2 := by kernel_rfl
theorem evto14_ok : IsTold Tryz.prog noGlob evto14 := told_of evt_names evt_mixed (c := evtCfg) OrcsG.nil evto14 (fun vs w => Tryz.call61 vs w) evto14_run (by kernel_rfl)
def evto15 : Nat × List AV × AV := (58, [(.str [65, 83, 83, 69, 82, 84])], (.bool false))
theorem evto15_run : evCall (evtEnv []) 100000 3000 evto15.1 evto15.2.1 emptySt keep = some evto15.2.2 := by kernel_rfl
theorem evto15_ok : IsTold Tryz.prog noGlob evto15 := told_of evt_names evt_mixed (c := evtCfg) OrcsG.nil evto15 (fun vs w => Tryz.call58 vs w) evto15_run (by kernel_rfl)
def evto16 : Nat × List AV × AV := (61, [(.str [43, 45, 42, 47, 38, 126, 61, 35, 60, 62, 46, 44, 59, 58, 40, 41, 91, 93, 123, 125, 94, 124]), (.int .u8 (61))], (.bool true))
theorem evto16_run : evCall (evtEnv []) 100000 3000 evto16.1 evto16.2.1 emptySt keep = some evto16.2.2 := by kernel_rfl
theorem evto16_ok : IsTold Tryz.prog noGlob evto16 := told_of evt_names evt_mixed (c := evtCfg) OrcsG.nil evto16 (fun vs w => Tryz.call61 vs w) evto16_run (by kernel_rfl)
def evto17 : Nat × List AV × AV := (58, [(.str [69, 78, 68])], (.bool true))
theorem evto17_run : evCall (evtEnv []) 100000 3000 evto17.1 evto17.2.1 emptySt keep = some evto17.2.2 := by kernel_rfl
theorem evto17_ok : IsTold Tryz.prog noGlob evto17 := told_of evt_names evt_mixed (c := evtCfg) OrcsG.nil evto17 (fun vs w => Tryz.call58 vs w) evto17_run (by kernel_rfl)
def evto20 : Nat × List AV × AV := (10, [.nils, (.int .i64 (0)), (.int .i64 (100)), (.lst 8 .full [evtl19])], (.agg [(.lst 1 .unk [[(.int .u8 (51))]]), (.int .i64 (2)), (.int .i64 (5))]))
theorem evto20_run : evCall (evtEnv []) 100000 3000 evto20.1 evto20.2.1 emptySt keep = some evto20.2.2 := by kernel_rfl
theorem evto20_ok : IsTold Tryz.prog noGlob evto20 := told_of evt_names evt_mixed (c := evtCfg) OrcsG.nil evto20 (fun vs w => Tryz.call10 vs w) evto20_run (by kernel_rfl)
def evto22 : Nat × List AV × AV := (58, [(.str [84, 89, 80, 69])], (.bool true))
theorem evto22_run : evCall (evtEnv []) 100000 3000 evto22.1 evto22.2.1 emptySt keep = some evto22.2.2 := by kernel_rfl
theorem evto22_ok : IsTold Tryz.prog noGlob evto22 := told_of evt_names evt_mixed (c := evtCfg) OrcsG.nil evto22 (fun vs w => Tryz.call58 vs w) evto22_run (by kernel_rfl)
def evto23 : Nat × List AV × AV := (58, [(.str [65])], (.bool false))
theorem evto23_run : evCall (evtEnv []) 100000 3000 evto23.1 evto23.2.1 emptySt keep = some evto23.2.2 := by kernel_rfl
theorem evto23_ok : IsTold Tryz.prog noGlob evto23 := told_of evt_names evt_mixed (c := evtCfg) OrcsG.nil evto23 (fun vs w => Tryz.call58 vs w) evto23_run (by kernel_rfl)
def evto24 : Nat × List AV × AV := (58, [(.str [82, 69, 67, 79, 82, 68])], (.bool true))
theorem evto24_run : evCall (evtEnv []) 100000 3000 evto24.1 evto24.2.1 emptySt keep = some evto24.2.2 := by kernel_rfl
theorem evto24_ok : IsTold Tryz.prog noGlob evto24 := told_of evt_names evt_mixed (c := evtCfg) OrcsG.nil evto24 (fun vs w => Tryz.call58 vs w) evto24_run (by kernel_rfl)
def evto25 : Nat × List AV × AV := (58, [(.str [120])], (.bool false))
theorem evto25_run : evCall (evtEnv []) 100000 3000 evto25.1 evto25.2.1 emptySt keep = some evto25.2.2 := by kernel_rfl
theorem evto25_ok : IsTold Tryz.prog noGlob evto25 := told_of evt_names evt_mixed (c := evtCfg) OrcsG.nil evto25 (fun vs w => Tryz.call58 vs w) evto25_run (by kernel_rfl)
def evto26 : Nat × List AV × AV := (58, [(.str [66])], (.bool false))
theorem evto26_run : evCall (evtEnv []) 100000 3000 evto26.1 evto26.2.1 emptySt keep = some evto26.2.2 := by kernel_rfl
theorem evto26_ok : IsTold Tryz.prog noGlob evto26 := told_of evt_names evt_mixed (c := evtCfg) OrcsG.nil evto26 (fun vs w => Tryz.call58 vs w) evto26_run (by kernel_rfl)
def evto27 : Nat × List AV × AV := (58, [(.str [121])], (.bool false))
theorem evto27_run : evCall (evtEnv []) 100000 3000 evto27.1 evto27.2.1 emptySt keep = some evto27.2.2 := by kernel_rfl
theorem evto27_ok : IsTold Tryz.prog noGlob evto27 := told_of evt_names evt_mixed (c := evtCfg) OrcsG.nil evto27 (fun vs w => Tryz.call58 vs w) evto27_run (by kernel_rfl)
def evto28 : Nat × List AV × AV := (58, [(.str [67])], (.bool false))
theorem evto28_run : evCall (evtEnv []) 100000 3000 evto28.1 evto28.2.1 emptySt keep = some evto28.2.2 := by kernel_rfl
theorem evto28_ok : IsTold Tryz.prog noGlob evto28 := told_of evt_names evt_mixed (c := evtCfg) OrcsG.nil evto28 (fun vs w => Tryz.call58 vs w) evto28_run (by kernel_rfl)
def evto29 : Nat × List AV × AV := (58, [(.str [122])], (.bool false))
theorem evto29_run : evCall (evtEnv []) 100000 3000 evto29.1 evto29.2.1 emptySt keep = some evto29.2.2 := by kernel_rfl
theorem evto29_ok : IsTold Tryz.prog noGlob evto29 := told_of evt_names evt_mixed (c := evtCfg) OrcsG.nil evto29 (fun vs w => Tryz.call58 vs w) evto29_run (by kernel_rfl)
def evto30 : Nat × List AV × AV := (58, [(.str [97])], (.bool false))
theorem evto30_run : evCall (evtEnv []) 100000 3000 evto30.1 evto30.2.1 emptySt keep = some evto30.2.2 := by kernel_rfl
theorem evto30_ok : IsTold Tryz.prog noGlob evto30 := told_of evt_names evt_mixed (c := evtCfg) OrcsG.nil evto30 (fun vs w => Tryz.call58 vs w) evto30_run (by kernel_rfl)
def evto31 : Nat × List AV × AV := (58, [(.str [80, 79, 73, 78, 84, 69, 82])], (.bool true))
theorem evto31_run : evCall (evtEnv []) 100000 3000 evto31.1 evto31.2.1 emptySt keep = some evto31.2.2 := by kernel_rfl
theorem evto31_ok : IsTold Tryz.prog noGlob evto31 := told_of evt_names evt_mixed (c := evtCfg) OrcsG.nil evto31 (fun vs w => Tryz.call58 vs w) evto31_run (by kernel_rfl)
def evto32 : Nat × List AV × AV := (58, [(.str [84, 79])], (.bool true))
theorem evto32_run : evCall (evtEnv []) 100000 3000 evto32.1 evto32.2.1 emptySt keep = some evto32.2.2 := by kernel_rfl
theorem evto32_ok : IsTold Tryz.prog noGlob evto32 := told_of evt_names evt_mixed (c := evtCfg) OrcsG.nil evto32 (fun vs w => Tryz.call58 vs w) evto32_run (by kernel_rfl)
def evto33 : Nat × List AV × AV := (58, [(.str [98])], (.bool false))
theorem evto33_run : evCall (evtEnv []) 100000 3000 evto33.1 evto33.2.1 emptySt keep = some evto33.2.2 := by kernel_rfl
theorem evto33_ok : IsTold Tryz.prog noGlob evto33 := told_of evt_names evt_mixed (c := evtCfg) OrcsG.nil evto33 (fun vs w => Tryz.call58 vs w) evto33_run (by kernel_rfl)
def evto34 : Nat × List AV × AV := (58, [(.str [99])], (.bool false))
theorem evto34_run : evCall (evtEnv []) 100000 3000 evto34.1 evto34.2.1 emptySt keep = some evto34.2.2 := by kernel_rfl
theorem evto34_ok : IsTold Tryz.prog noGlob evto34 := told_of evt_names evt_mixed (c := evtCfg) OrcsG.nil evto34 (fun vs w => Tryz.call58 vs w) evto34_run (by kernel_rfl)
def evto35 : Nat × List AV × AV := (58, [(.str [78, 69, 87])], (.bool false))
theorem evto35_run : evCall (evtEnv []) 100000 3000 evto35.1 evto35.2.1 emptySt keep = some evto35.2.2 := by kernel_rfl
theorem evto35_ok : IsTold Tryz.prog noGlob evto35 := told_of evt_names evt_mixed (c := evtCfg) OrcsG.nil evto35 (fun vs w => Tryz.call58 vs w) evto35_run (by kernel_rfl)
def evto36 : Nat × List AV × AV := (58, [(.str [79, 82, 68])], (.bool false))
theorem evto36_run : evCall (evtEnv []) 100000 3000 evto36.1 evto36.2.1 emptySt keep = some evto36.2.2 := by kernel_rfl
theorem evto36_ok : IsTold Tryz.prog noGlob evto36 := told_of evt_names evt_mixed (c := evtCfg) OrcsG.nil evto36 (fun vs w => Tryz.call58 vs w) evto36_run (by kernel_rfl)
def evto37 : Nat × List AV × AV := (58, [(.str [73, 83])], (.bool true))
theorem evto37_run : evCall (evtEnv []) 100000 3000 evto37.1 evto37.2.1 emptySt keep = some evto37.2.2 := by kernel_rfl
theorem evto37_ok : IsTold Tryz.prog noGlob evto37 := told_of evt_names evt_mixed (c := evtCfg) OrcsG.nil evto37 (fun vs w => Tryz.call58 vs w) evto37_run (by kernel_rfl)
def evto38 : Nat × List AV × AV := (58, [(.str [78, 73, 76])], (.bool true))
theorem evto38_run : evCall (evtEnv []) 100000 3000 evto38.1 evto38.2.1 emptySt keep = some evto38.2.2 := by kernel_rfl
theorem evto38_ok : IsTold Tryz.prog noGlob evto38 := told_of evt_names evt_mixed (c := evtCfg) OrcsG.nil evto38 (fun vs w => Tryz.call58 vs w) evto38_run (by kernel_rfl)
end Go.Proofs.YtgidgiidcnlpbaaGreatDoor
