/- EvalTypes returns true, whatever its numbers are. -/
import Derived.Test.YtgidgiidcnlpbaaGreatDoorEEvtC0
set_option linter.unusedSimpArgs false
set_option linter.unusedVariables false
set_option maxRecDepth 100000
namespace Go.Proofs.YtgidgiidcnlpbaaGreatDoor
open Go.VE

theorem evalTypes_of (x0 : Nat) (h0 : x0 < 256) (w : World) {l : List (Nat × List AV × AV)} {r0 : Nat} (hl : OrcsG Tryz.prog noGlob l) (hrun : evCall (envC Tryz.prog (valsOf [x0]) (remsOf [(3, r0)]) (fun _ _ => none) noGlob evtCfg l) 100000 3000 3 [.sym .u8 0] emptySt toldTrue = some ()) : x0 % 3 = r0 → Calls Tryz.prog 3 #[.int .u8 (x0 : Int)] w fun e w' => e = .returned (.bool true) ∧ Go.RowKit.Below w.heap.size w w' := by
  intro e0
  refine law_of evt_names evt_mixed hl (remsOf_ok (xs := [x0]) fun i m r h => ?_) (fun _ _ _ h => none_some h) hrun (vs := [.int .u8 (x0 : Int)]) (fun g hg => ?_) w
  · match i, h with
    | 0, h => cases h; exact ⟨x0, rfl, h0, by decide, e0⟩
    | i + 1, h => cases h
  · refine Rl.one ?_ <;> simp only [Rv, hg] <;> rfl
theorem evalTypes_any (x0 : Nat) (h0 : x0 < 256) (w : World) : Calls Tryz.prog 3 #[.int .u8 (x0 : Int)] w fun e w' => e = .returned (.bool true) ∧ Go.RowKit.Below w.heap.size w w' := by
  have m0 : x0 % 3 = 0 ∨ x0 % 3 = 1 ∨ x0 % 3 = 2 := by omega
  rcases m0 with e0 | e0 | e0
  · exact evalTypes_of x0 h0 w evtOk_0 (evtCase_0 _) e0
  · exact evalTypes_of x0 h0 w evtOk_1 (evtCase_1 _) e0
  · exact evalTypes_of x0 h0 w evtOk_2 (evtCase_2 _) e0
end Go.Proofs.YtgidgiidcnlpbaaGreatDoor
