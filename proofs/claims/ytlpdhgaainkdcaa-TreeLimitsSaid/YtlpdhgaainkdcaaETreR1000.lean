/- TreeLimits: 1000 statements of nothing, by the document. -/
import Derived.Test.YtlpdhgaainkdcaaETre
set_option linter.unusedSimpArgs false
set_option linter.unusedVariables false
namespace Go.Proofs.Ytlpdhgaainkdcaa
open Go.VE

theorem t_nR1000_run : evCall (plainE []) 3000 60 33 [lstN 1000] emptySt keep = some (.int .i64 1) := by kernel_rfl
theorem t_nR1000 : ∀ E : Env, E.P = Try.prog → Orc1 E 33 [lstN 1000] (.int .i64 1) := orc_told ev_names ev_mixed .nil (fun vs w => Try.call33 vs w) t_nR1000_run (by kernel_rfl)
theorem t_bR1000_run : evCall (plainE [(31, [.int .i64 0], .bool true), (35, [.nils], .bool true)]) 3000 60 34 [lstN 1000] emptySt keep = some (.bool true) := by kernel_rfl
theorem t_bR1000 : ∀ E : Env, E.P = Try.prog → Orc1 E 34 [lstN 1000] (.bool true) := orc_told ev_names ev_mixed (.cons t_few (.cons t_exprs .nil)) (fun vs w => Try.call34 vs w) t_bR1000_run (by kernel_rfl)
end Go.Proofs.Ytlpdhgaainkdcaa
