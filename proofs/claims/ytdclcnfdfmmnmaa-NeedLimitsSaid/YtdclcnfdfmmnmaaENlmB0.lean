/- NeedLimits, run by the evaluation: told calls. -/
import Derived.Test.YtdclcnfdfmmnmaaENlm0
set_option linter.unusedSimpArgs false
set_option linter.unusedVariables false
set_option maxRecDepth 100000
namespace Go.Proofs.Ytdclcnfdfmmnmaa
open Go.VE

def nlmo59 : Nat × List AV × AV := (9, [(.agg nlml65), (.lst 8 .unk nlml82)], (.tup [(nlmI 16382), (.bool true)]))
theorem nlmo59_run : evCall (nlmEnv []) 100000 3000 nlmo59.1 nlmo59.2.1 emptySt keep = some nlmo59.2.2 := by kernel_rfl
theorem nlmo59_ok : IsTold Try.prog noGlob nlmo59 := told_of nlm_names nlm_mixed (c := nlmCfg) OrcsG.nil nlmo59 (fun vs w => Try.call9 vs w) nlmo59_run (by kernel_rfl)
def nlmo69 : Nat × List AV × AV := (6, [(.lst 8 .unk nlml82)], (nlmI 0))
theorem nlmo69_run : evCall (nlmEnv [nlmo58, nlmo59, nlmo63, nlmo64, nlmo65, nlmo68]) 100000 3000 nlmo69.1 nlmo69.2.1 emptySt keep = some nlmo69.2.2 := by kernel_rfl
theorem nlmo69_ok : IsTold Try.prog noGlob nlmo69 := told_of nlm_names nlm_mixed (c := nlmCfg) (OrcsG.more nlmo58_ok (OrcsG.more nlmo59_ok (OrcsG.more nlmo63_ok (OrcsG.more nlmo64_ok (OrcsG.more nlmo65_ok (OrcsG.more nlmo68_ok OrcsG.nil)))))) nlmo69 (fun vs w => Try.call6 vs w) nlmo69_run (by kernel_rfl)
def nlmo70 : Nat × List AV × AV := (9, [(.agg nlml65), (.lst 8 .full nlml70)], (.tup [(nlmI 16382), (.bool true)]))
theorem nlmo70_run : evCall (nlmEnv []) 100000 3000 nlmo70.1 nlmo70.2.1 emptySt keep = some nlmo70.2.2 := by kernel_rfl
theorem nlmo70_ok : IsTold Try.prog noGlob nlmo70 := told_of nlm_names nlm_mixed (c := nlmCfg) OrcsG.nil nlmo70 (fun vs w => Try.call9 vs w) nlmo70_run (by kernel_rfl)
def nlmo71 : Nat × List AV × AV := (6, [(.lst 8 .full nlml70)], (nlmI 0))
theorem nlmo71_run : evCall (nlmEnv [nlmo58, nlmo70, nlmo63]) 100000 3000 nlmo71.1 nlmo71.2.1 emptySt keep = some nlmo71.2.2 := by kernel_rfl
theorem nlmo71_ok : IsTold Try.prog noGlob nlmo71 := told_of nlm_names nlm_mixed (c := nlmCfg) (OrcsG.more nlmo58_ok (OrcsG.more nlmo70_ok (OrcsG.more nlmo63_ok OrcsG.nil))) nlmo71 (fun vs w => Try.call6 vs w) nlmo71_run (by kernel_rfl)
def nlmo74 : Nat × List AV × AV := (9, [(.agg nlml66), (.lst 8 .unk nlml83)], (.tup [(nlmI 16383), (.bool true)]))
theorem nlmo74_run : evCall (nlmEnv []) 100000 3000 nlmo74.1 nlmo74.2.1 emptySt keep = some nlmo74.2.2 := by kernel_rfl
theorem nlmo74_ok : IsTold Try.prog noGlob nlmo74 := told_of nlm_names nlm_mixed (c := nlmCfg) OrcsG.nil nlmo74 (fun vs w => Try.call9 vs w) nlmo74_run (by kernel_rfl)
def nlmo79 : Nat × List AV × AV := (6, [(.lst 8 .unk nlml83)], (nlmI 0))
theorem nlmo79_run : evCall (nlmEnv [nlmo73, nlmo74, nlmo77, nlmo64, nlmo78, nlmo68]) 100000 3000 nlmo79.1 nlmo79.2.1 emptySt keep = some nlmo79.2.2 := by kernel_rfl
theorem nlmo79_ok : IsTold Try.prog noGlob nlmo79 := told_of nlm_names nlm_mixed (c := nlmCfg) (OrcsG.more nlmo73_ok (OrcsG.more nlmo74_ok (OrcsG.more nlmo77_ok (OrcsG.more nlmo64_ok (OrcsG.more nlmo78_ok (OrcsG.more nlmo68_ok OrcsG.nil)))))) nlmo79 (fun vs w => Try.call6 vs w) nlmo79_run (by kernel_rfl)
def nlmo80 : Nat × List AV × AV := (9, [(.agg nlml66), (.lst 8 .full nlml71)], (.tup [(nlmI 16383), (.bool true)]))
theorem nlmo80_run : evCall (nlmEnv []) 100000 3000 nlmo80.1 nlmo80.2.1 emptySt keep = some nlmo80.2.2 := by kernel_rfl
theorem nlmo80_ok : IsTold Try.prog noGlob nlmo80 := told_of nlm_names nlm_mixed (c := nlmCfg) OrcsG.nil nlmo80 (fun vs w => Try.call9 vs w) nlmo80_run (by kernel_rfl)
def nlmo81 : Nat × List AV × AV := (6, [(.lst 8 .full nlml71)], (nlmI 0))
theorem nlmo81_run : evCall (nlmEnv [nlmo73, nlmo80, nlmo77]) 100000 3000 nlmo81.1 nlmo81.2.1 emptySt keep = some nlmo81.2.2 := by kernel_rfl
theorem nlmo81_ok : IsTold Try.prog noGlob nlmo81 := told_of nlm_names nlm_mixed (c := nlmCfg) (OrcsG.more nlmo73_ok (OrcsG.more nlmo80_ok (OrcsG.more nlmo77_ok OrcsG.nil))) nlmo81 (fun vs w => Try.call6 vs w) nlmo81_run (by kernel_rfl)
def nlmo84 : Nat × List AV × AV := (9, [(.agg nlml67), (.lst 8 .unk nlml84)], (.tup [(nlmI 16384), (.bool true)]))
theorem nlmo84_run : evCall (nlmEnv []) 100000 3000 nlmo84.1 nlmo84.2.1 emptySt keep = some nlmo84.2.2 := by kernel_rfl
theorem nlmo84_ok : IsTold Try.prog noGlob nlmo84 := told_of nlm_names nlm_mixed (c := nlmCfg) OrcsG.nil nlmo84 (fun vs w => Try.call9 vs w) nlmo84_run (by kernel_rfl)
def nlmo89 : Nat × List AV × AV := (6, [(.lst 8 .unk nlml84)], (nlmI 0))
theorem nlmo89_run : evCall (nlmEnv [nlmo83, nlmo84, nlmo87, nlmo64, nlmo88, nlmo68]) 100000 3000 nlmo89.1 nlmo89.2.1 emptySt keep = some nlmo89.2.2 := by kernel_rfl
theorem nlmo89_ok : IsTold Try.prog noGlob nlmo89 := told_of nlm_names nlm_mixed (c := nlmCfg) (OrcsG.more nlmo83_ok (OrcsG.more nlmo84_ok (OrcsG.more nlmo87_ok (OrcsG.more nlmo64_ok (OrcsG.more nlmo88_ok (OrcsG.more nlmo68_ok OrcsG.nil)))))) nlmo89 (fun vs w => Try.call6 vs w) nlmo89_run (by kernel_rfl)
def nlmo90 : Nat × List AV × AV := (9, [(.agg nlml67), (.lst 8 .full nlml72)], (.tup [(nlmI 16384), (.bool true)]))
theorem nlmo90_run : evCall (nlmEnv []) 100000 3000 nlmo90.1 nlmo90.2.1 emptySt keep = some nlmo90.2.2 := by kernel_rfl
theorem nlmo90_ok : IsTold Try.prog noGlob nlmo90 := told_of nlm_names nlm_mixed (c := nlmCfg) OrcsG.nil nlmo90 (fun vs w => Try.call9 vs w) nlmo90_run (by kernel_rfl)
def nlmo91 : Nat × List AV × AV := (6, [(.lst 8 .full nlml72)], (nlmI 0))
theorem nlmo91_run : evCall (nlmEnv [nlmo83, nlmo90, nlmo87]) 100000 3000 nlmo91.1 nlmo91.2.1 emptySt keep = some nlmo91.2.2 := by kernel_rfl
theorem nlmo91_ok : IsTold Try.prog noGlob nlmo91 := told_of nlm_names nlm_mixed (c := nlmCfg) (OrcsG.more nlmo83_ok (OrcsG.more nlmo90_ok (OrcsG.more nlmo87_ok OrcsG.nil))) nlmo91 (fun vs w => Try.call6 vs w) nlmo91_run (by kernel_rfl)
def nlmo94 : Nat × List AV × AV := (9, [(.agg nlml68), (.lst 8 .unk nlml85)], (.tup [(nlmI 16385), (.bool true)]))
theorem nlmo94_run : evCall (nlmEnv []) 100000 3000 nlmo94.1 nlmo94.2.1 emptySt keep = some nlmo94.2.2 := by kernel_rfl
theorem nlmo94_ok : IsTold Try.prog noGlob nlmo94 := told_of nlm_names nlm_mixed (c := nlmCfg) OrcsG.nil nlmo94 (fun vs w => Try.call9 vs w) nlmo94_run (by kernel_rfl)
def nlmo99 : Nat × List AV × AV := (6, [(.lst 8 .unk nlml85)], (nlmI 45))
theorem nlmo99_run : evCall (nlmEnv [nlmo93, nlmo94, nlmo97, nlmo64, nlmo98, nlmo68]) 100000 3000 nlmo99.1 nlmo99.2.1 emptySt keep = some nlmo99.2.2 := by kernel_rfl
theorem nlmo99_ok : IsTold Try.prog noGlob nlmo99 := told_of nlm_names nlm_mixed (c := nlmCfg) (OrcsG.more nlmo93_ok (OrcsG.more nlmo94_ok (OrcsG.more nlmo97_ok (OrcsG.more nlmo64_ok (OrcsG.more nlmo98_ok (OrcsG.more nlmo68_ok OrcsG.nil)))))) nlmo99 (fun vs w => Try.call6 vs w) nlmo99_run (by kernel_rfl)
def nlmo100 : Nat × List AV × AV := (9, [(.agg nlml68), (.lst 8 .full nlml73)], (.tup [(nlmI 16385), (.bool true)]))
theorem nlmo100_run : evCall (nlmEnv []) 100000 3000 nlmo100.1 nlmo100.2.1 emptySt keep = some nlmo100.2.2 := by kernel_rfl
theorem nlmo100_ok : IsTold Try.prog noGlob nlmo100 := told_of nlm_names nlm_mixed (c := nlmCfg) OrcsG.nil nlmo100 (fun vs w => Try.call9 vs w) nlmo100_run (by kernel_rfl)
def nlmo101 : Nat × List AV × AV := (6, [(.lst 8 .full nlml73)], (nlmI 45))
theorem nlmo101_run : evCall (nlmEnv [nlmo93, nlmo100, nlmo97]) 100000 3000 nlmo101.1 nlmo101.2.1 emptySt keep = some nlmo101.2.2 := by kernel_rfl
theorem nlmo101_ok : IsTold Try.prog noGlob nlmo101 := told_of nlm_names nlm_mixed (c := nlmCfg) (OrcsG.more nlmo93_ok (OrcsG.more nlmo100_ok (OrcsG.more nlmo97_ok OrcsG.nil))) nlmo101 (fun vs w => Try.call6 vs w) nlmo101_run (by kernel_rfl)
def nlmo104 : Nat × List AV × AV := (9, [(.agg nlml69), (.lst 8 .unk nlml86)], (.tup [(nlmI 16386), (.bool true)]))
theorem nlmo104_run : evCall (nlmEnv []) 100000 3000 nlmo104.1 nlmo104.2.1 emptySt keep = some nlmo104.2.2 := by kernel_rfl
theorem nlmo104_ok : IsTold Try.prog noGlob nlmo104 := told_of nlm_names nlm_mixed (c := nlmCfg) OrcsG.nil nlmo104 (fun vs w => Try.call9 vs w) nlmo104_run (by kernel_rfl)
def nlmo109 : Nat × List AV × AV := (6, [(.lst 8 .unk nlml86)], (nlmI 45))
theorem nlmo109_run : evCall (nlmEnv [nlmo103, nlmo104, nlmo107, nlmo64, nlmo108, nlmo68]) 100000 3000 nlmo109.1 nlmo109.2.1 emptySt keep = some nlmo109.2.2 := by kernel_rfl
theorem nlmo109_ok : IsTold Try.prog noGlob nlmo109 := told_of nlm_names nlm_mixed (c := nlmCfg) (OrcsG.more nlmo103_ok (OrcsG.more nlmo104_ok (OrcsG.more nlmo107_ok (OrcsG.more nlmo64_ok (OrcsG.more nlmo108_ok (OrcsG.more nlmo68_ok OrcsG.nil)))))) nlmo109 (fun vs w => Try.call6 vs w) nlmo109_run (by kernel_rfl)
def nlmo110 : Nat × List AV × AV := (9, [(.agg nlml69), (.lst 8 .full nlml74)], (.tup [(nlmI 16386), (.bool true)]))
theorem nlmo110_run : evCall (nlmEnv []) 100000 3000 nlmo110.1 nlmo110.2.1 emptySt keep = some nlmo110.2.2 := by kernel_rfl
theorem nlmo110_ok : IsTold Try.prog noGlob nlmo110 := told_of nlm_names nlm_mixed (c := nlmCfg) OrcsG.nil nlmo110 (fun vs w => Try.call9 vs w) nlmo110_run (by kernel_rfl)
def nlmo111 : Nat × List AV × AV := (6, [(.lst 8 .full nlml74)], (nlmI 45))
theorem nlmo111_run : evCall (nlmEnv [nlmo103, nlmo110, nlmo107]) 100000 3000 nlmo111.1 nlmo111.2.1 emptySt keep = some nlmo111.2.2 := by kernel_rfl
theorem nlmo111_ok : IsTold Try.prog noGlob nlmo111 := told_of nlm_names nlm_mixed (c := nlmCfg) (OrcsG.more nlmo103_ok (OrcsG.more nlmo110_ok (OrcsG.more nlmo107_ok OrcsG.nil))) nlmo111 (fun vs w => Try.call6 vs w) nlmo111_run (by kernel_rfl)
def nlmo113 : Nat × List AV × AV := (16, [(.lst 4 .unk (List.replicate 998 [(nlmI 17), .nils, .nils, .nils]))], (nlmI 0))
theorem nlmo113_run : evCall (nlmEnv []) 100000 3000 nlmo113.1 nlmo113.2.1 emptySt keep = some nlmo113.2.2 := by kernel_rfl
theorem nlmo113_ok : IsTold Try.prog noGlob nlmo113 := told_of nlm_names nlm_mixed (c := nlmCfg) OrcsG.nil nlmo113 (fun vs w => Try.call16 vs w) nlmo113_run (by kernel_rfl)
def nlmo114 : Nat × List AV × AV := (10, nlml28, (nlmI 0))
theorem nlmo114_run : evCall (nlmEnv [nlmo112, nlmo113]) 100000 3000 nlmo114.1 nlmo114.2.1 emptySt keep = some nlmo114.2.2 := by kernel_rfl
theorem nlmo114_ok : IsTold Try.prog noGlob nlmo114 := told_of nlm_names nlm_mixed (c := nlmCfg) (OrcsG.more nlmo112_ok (OrcsG.more nlmo113_ok OrcsG.nil)) nlmo114 (fun vs w => Try.call10 vs w) nlmo114_run (by kernel_rfl)
def nlme116 : Eff := ⟨26, [(.ptr 1 0), (.lst 4 .unk (List.replicate 998 [(nlmI 17), .nils, .nils, .nils]))], ⟨(.n (.n .e (some (.cells 2 (.n (.n .e (some (nlmI 0)) .e) (some (nlmI 0)) .e) 0)) .e) (some (.cells 8 (.n (.n (.n (.n .e (some (.lst 4 .unk nlml3)) .e) (some .nils) .e) (some .nils) (.n .e (some .nils) .e)) (some (.str [77])) (.n (.n .e (some .nils) .e) (some .nils) (.n .e (some (.lst 10 .unk nlml23)) .e))) 0)) (.n .e (some (.cells 10 (.n (.n (.n (.n .e (some .nils) .e) (some (nlmI 0)) .e) (some (.bool false)) (.n (.n .e (some .nils) .e) (some (.str [])) .e)) (some (.str [])) (.n (.n (.n .e (some (.lst 4 .unk (List.replicate 998 [(nlmI 17), .nils, .nils, .nils]))) .e) (some (nlmI 0)) .e) (some .nils) (.n .e (some .nils) .e))) 1)) .e)), 3, .e⟩, (.tup []), ⟨(.n (.n .e (some (.cells 2 (.n (.n .e (some (nlmI 998)) .e) (some (nlmI 0)) .e) 998)) .e) (some (.cells 8 (.n (.n (.n (.n .e (some (.lst 4 .unk nlml3)) .e) (some .nils) .e) (some .nils) (.n .e (some .nils) .e)) (some (.str [77])) (.n (.n .e (some .nils) .e) (some .nils) (.n .e (some (.lst 10 .unk nlml23)) .e))) 0)) (.n .e (some (.cells 10 (.n (.n (.n (.n .e (some .nils) .e) (some (nlmI 0)) .e) (some (.bool false)) (.n (.n .e (some .nils) .e) (some (.str [])) .e)) (some (.str [])) (.n (.n (.n .e (some (.lst 4 .unk (List.replicate 998 [(nlmI 17), .nils, .nils, .nils]))) .e) (some (nlmI 0)) .e) (some .nils) (.n .e (some .nils) .e))) 1)) .e)), 3, .e⟩⟩
theorem nlme116_run : evCallP (envC Try.prog (fun _ => 0) (fun _ _ => none) (fun _ _ => none) noGlob nlmCfg []) 100000 3000 nlme116.f nlme116.args nlme116.st (cut nlme116.st) (fun _ _ => none) = some (nlme116.v, nlme116.st') := by kernel_rfl
theorem nlme116_ok : IsEff Try.prog nlme116 := ⟨nlmCfg, [], 100000, 3000, OrcsG.nil, fun vs w => Try.call26 vs w, nlme116_run⟩
end Go.Proofs.Ytdclcnfdfmmnmaa
