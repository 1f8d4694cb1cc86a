/- TreeLimits: 1002 statements of nothing, by the program. -/
import Derived.Test.YtlpdhgaainkdcaaETre
set_option linter.unusedSimpArgs false
set_option linter.unusedVariables false
namespace Go.Proofs.Ytlpdhgaainkdcaa
open Go.VE

theorem t_nP1002_run : evCall (plainE []) 3000 60 15 [lstN 1002] emptySt keep = some (.int .i64 1) := by kernel_rfl
theorem t_nP1002 : ∀ E : Env, E.P = Try.prog → Orc1 E 15 [lstN 1002] (.int .i64 1) := orc_told ev_names ev_mixed .nil (fun vs w => Try.call15 vs w) t_nP1002_run (by kernel_rfl)
theorem t_bP1002_run : evCall (plainE [(15, [lstN 1002], .int .i64 1), (72, [.agg zst], .bool true)]) 3000 60 30 [lstN 1002] emptySt keep = some (.bool false) := by kernel_rfl
theorem t_bP1002 : ∀ E : Env, E.P = Try.prog → Orc1 E 30 [lstN 1002] (.bool false) := orc_told ev_names ev_mixed (.cons t_nP1002 (.cons t_stmt .nil)) (fun vs w => Try.call30 vs w) t_bP1002_run (by kernel_rfl)
end Go.Proofs.Ytlpdhgaainkdcaa
