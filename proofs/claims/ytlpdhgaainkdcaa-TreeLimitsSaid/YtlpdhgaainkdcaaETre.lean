/- TreeLimits, run by the evaluation: the chapter's example, and small calls. -/
import Derived.Test.YtlpdhgaainkdcaaProg
import Derived.Test.YtlpdhgaainkdcaaVUse
import Derived.KernelRfl
set_option linter.unusedSimpArgs false
set_option linter.unusedVariables false
namespace Go.Proofs.Ytlpdhgaainkdcaa
open Go.VE

theorem ev_names : (Try.prog.funcs.toList.all fun fn => !(fn.name == "runtime.NumGoroutine")) = true := by kernel_rfl
theorem ev_mixed : Try.prog.follows .mixedOrders = true := by kernel_rfl
noncomputable def plainE (l : List (Nat × List AV × AV)) : Env := envOf Try.prog (fun _ => 0) (fun _ _ => none) (fun _ _ => none) l
/-- A statement of nothing; so many of them; a module of them. -/
def zst : List AV := [.int .i64 0, .nils, .nils, .nils]
def lstN (k : Nat) : AV := .lst 4 .full (List.replicate k zst)
def modN (k : Nat) : AV := .agg [.str [77], .nils, .nils, .nils, .nils, .nils, .nils, lstN k]
theorem t_known_run : evCall (plainE []) 3000 60 5 [] emptySt keep = some (.bool true) := by kernel_rfl
theorem t_known : ∀ E : Env, E.P = Try.prog → Orc1 E 5 [] (.bool true) := orc_told ev_names ev_mixed .nil (fun vs w => Try.call5 vs w) t_known_run (by kernel_rfl)
theorem t_stmt_run : evCall (plainE []) 3000 60 72 [.agg zst] emptySt keep = some (.bool true) := by kernel_rfl
theorem t_stmt : ∀ E : Env, E.P = Try.prog → Orc1 E 72 [.agg zst] (.bool true) := orc_told ev_names ev_mixed .nil (fun vs w => Try.call72 vs w) t_stmt_run (by kernel_rfl)
theorem t_few_run : evCall (plainE []) 3000 60 31 [.int .i64 0] emptySt keep = some (.bool true) := by kernel_rfl
theorem t_few : ∀ E : Env, E.P = Try.prog → Orc1 E 31 [.int .i64 0] (.bool true) := orc_told ev_names ev_mixed .nil (fun vs w => Try.call31 vs w) t_few_run (by kernel_rfl)
theorem t_exprs_run : evCall (plainE []) 3000 60 35 [.nils] emptySt keep = some (.bool true) := by kernel_rfl
theorem t_exprs : ∀ E : Env, E.P = Try.prog → Orc1 E 35 [.nils] (.bool true) := orc_told ev_names ev_mixed .nil (fun vs w => Try.call35 vs w) t_exprs_run (by kernel_rfl)
end Go.Proofs.Ytlpdhgaainkdcaa
