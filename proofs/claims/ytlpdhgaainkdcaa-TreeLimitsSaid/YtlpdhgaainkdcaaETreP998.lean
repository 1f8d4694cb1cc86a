/- TreeLimits: 998 statements of nothing, by the program. -/
import Derived.Test.YtlpdhgaainkdcaaETre
set_option linter.unusedSimpArgs false
set_option linter.unusedVariables false
namespace Go.Proofs.Ytlpdhgaainkdcaa
open Go.VE

theorem t_nP998_run : evCall (plainE []) 3000 60 15 [lstN 998] emptySt keep = some (.int .i64 1) := by kernel_rfl
theorem t_nP998 : ∀ E : Env, E.P = Try.prog → Orc1 E 15 [lstN 998] (.int .i64 1) := orc_told ev_names ev_mixed .nil (fun vs w => Try.call15 vs w) t_nP998_run (by kernel_rfl)
theorem t_bP998_run : evCall (plainE [(15, [lstN 998], .int .i64 1), (72, [.agg zst], .bool true)]) 3000 60 30 [lstN 998] emptySt keep = some (.bool true) := by kernel_rfl
theorem t_bP998 : ∀ E : Env, E.P = Try.prog → Orc1 E 30 [lstN 998] (.bool true) := orc_told ev_names ev_mixed (.cons t_nP998 (.cons t_stmt .nil)) (fun vs w => Try.call30 vs w) t_bP998_run (by kernel_rfl)
end Go.Proofs.Ytlpdhgaainkdcaa
