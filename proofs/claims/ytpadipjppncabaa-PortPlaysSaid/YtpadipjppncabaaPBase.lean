/- Ports in memory: a channel and a flag; the flag's Load and Store. -/
import Derived.Test.YtpadipjppncabaaProg
import Derived.Test.YtpadipjppncabaaMem
import Derived.Conc.LoneCalls
import Derived.Conc.LoneSelect
import Derived.Conc.LoneSelectN
import Derived.Laws.LoneSync
import Derived.Tactics2
import Derived.RegionCalls
set_option linter.unusedSimpArgs false
set_option linter.unusedVariables false
namespace Go.Proofs.Ytpadipjppncabaa
open Go.RowKit Go.Conc M

def flagV (b : Bool) : Value := .int .u32 (if b then 1 else 0)
theorem load_any (p : Nat) (x : Bool) (w : World) (hc : w.cell? ⟨p, 1, none⟩ = some (flagV x)) :
    Calls Try.prog 30 #[.pointer (some ⟨p, 1, none⟩)] w fun e w' => e = .returned (.bool x) ∧ w' = w := by
  have hlt := World.block_lt_of_cell? w _ hc
  have hl := fun y (h : w.cell? ⟨p, 1, none⟩ = some (.int .u32 y)) => run_call_load (P := Try.prog) Try.func47 (by kernel_rfl) (by kernel_rfl) (by kernel_rfl) .u32 (by kernel_rfl) h
  cases x
  · have hl0 := hl 0 hc
    clear hl
    go_enter Try.func30, Try.ntmps30
    go_wp2
    go_ret
    exact ⟨rfl, rfl⟩
  · have hl1 := hl 1 hc
    clear hl
    go_enter Try.func30, Try.ntmps30
    go_wp2
    go_ret
    exact ⟨rfl, rfl⟩
set_option maxRecDepth 100000 in
set_option maxHeartbeats 1600000 in
theorem store_any (p : Nat) (x : Bool) (w : World) (hc : w.cell? ⟨p, 1, none⟩ = some (flagV x)) (hf : w.frozen? ⟨p, 1, none⟩ = false) :
    Calls Try.prog 29 #[.pointer (some ⟨p, 1, none⟩), .bool true] w fun e w' => e = .returned (.tuple #[]) ∧ w' = (w.setCell ⟨p, 1, none⟩ (flagV true)).drew := by
  have hlt := World.block_lt_of_cell? w _ hc
  have hs := run_call_store (P := Try.prog) Try.func45 (by kernel_rfl) (by kernel_rfl) (by kernel_rfl) (by kernel_rfl) (k := .u32) (y := 1) (w := w.drew) (show w.drew.cell? ⟨p, 1, none⟩ = _ from hc) hf
  go_enter Try.func29, Try.ntmps29
  go_wp2_with fail
  go_region_calls
  all_goals
    go_wp2_with fail
    refine bodyPost_end (results_none rfl _ _ _) rfl ?_
    exact ⟨rfl, rfl⟩
/-- A call inside a walk of the machine of one: by the callee's contract. -/
theorem LoneTo.call {P : Program} {Q : Goroutine → World → Prop} {f : FuncId} {fn : Func} {cd : Code} {args args' : Array Value} {w : World} {R : Ending → World → Prop} {c : Frame} {cs : List Frame}
    (hf : P.funcs[f]? = some fn) (hb : fn.body = some cd) (ha : args' = args) (h : Calls P f args w R) (hR : ∀ e w', R e w' → ∃ v, e = .returned v ∧ LoneTo P Q (G (c.finish v) cs) w') :
    LoneTo P Q (G ((base f).at { tmps := args' ++ Array.replicate (fn.ntmps - args'.size) undef, defers := [] } [.code cd]) (c :: cs)) w := by
  subst ha
  rw [← enter_at args' hf hb]
  obtain ⟨e, w', fr, hr, hs, hfn, hl⟩ := h (c :: cs)
  obtain ⟨v, rfl, g2, w2, hs2, hq2⟩ := hR e w' hr
  exact ⟨g2, w2, Steps.trans hs (Steps.head (step_leave_returned hl) hs2), hq2⟩
end Go.Proofs.Ytpadipjppncabaa
