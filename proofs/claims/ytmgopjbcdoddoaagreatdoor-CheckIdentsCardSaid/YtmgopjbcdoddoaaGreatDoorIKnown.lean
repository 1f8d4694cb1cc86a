/- Identifiers: the chapter's example holds. -/
import Derived.Test.YtmgopjbcdoddoaaGreatDoorEMod
set_option linter.unusedSimpArgs false
set_option linter.unusedVariables false
namespace Go.Proofs.YtmgopjbcdoddoaaGreatDoor
open Go.VE

theorem known17_run (m : Int) : evCall (envG Tryz.prog (fun _ => 0) (fun _ _ => none) (fun _ _ => none) (globM 0 m) contL) 3000 200 4 [] emptySt toldTrue = some () := by kernel_rfl
theorem known17_any (m : Int) (w : World) (hm : w.cell? ⟨0, 0, none⟩ = some (.int .i64 m)) : Calls Tryz.prog 4 #[] w fun e w' => e = .returned (.bool true) ∧ Go.RowKit.Below w.heap.size w w' :=
  lawG_told ev_names ev_mixed (contL_ok m) (fun i k r h => by cases h) (fun i n r h => by cases h) (known17_run m) (vs := []) (fun g hg => by simp only [Rl]) w hm
end Go.Proofs.YtmgopjbcdoddoaaGreatDoor
