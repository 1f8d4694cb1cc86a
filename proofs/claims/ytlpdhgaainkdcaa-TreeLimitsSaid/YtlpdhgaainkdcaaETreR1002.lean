/- TreeLimits: 1002 statements of nothing, by the document. -/
import Derived.Test.YtlpdhgaainkdcaaETre
set_option linter.unusedSimpArgs false
set_option linter.unusedVariables false
namespace Go.Proofs.Ytlpdhgaainkdcaa
open Go.VE

theorem t_nR1002_run : evCall (plainE []) 3000 60 33 [lstN 1002] emptySt keep = some (.int .i64 1) := by kernel_rfl
theorem t_nR1002 : ∀ E : Env, E.P = Try.prog → Orc1 E 33 [lstN 1002] (.int .i64 1) := orc_told ev_names ev_mixed .nil (fun vs w => Try.call33 vs w) t_nR1002_run (by kernel_rfl)
theorem t_bR1002_run : evCall (plainE [(31, [.int .i64 0], .bool true), (35, [.nils], .bool true)]) 3000 60 34 [lstN 1002] emptySt keep = some (.bool false) := by kernel_rfl
theorem t_bR1002 : ∀ E : Env, E.P = Try.prog → Orc1 E 34 [lstN 1002] (.bool false) := orc_told ev_names ev_mixed (.cons t_few (.cons t_exprs .nil)) (fun vs w => Try.call34 vs w) t_bR1002_run (by kernel_rfl)
end Go.Proofs.Ytlpdhgaainkdcaa
