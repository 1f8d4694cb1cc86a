/- StackLimits returns true, whatever its numbers are. -/
import Derived.Test.YtgidgiidcnlpbaaGreatESlmC0
set_option linter.unusedSimpArgs false
set_option linter.unusedVariables false
set_option maxRecDepth 100000
namespace Go.Proofs.YtgidgiidcnlpbaaGreat
open Go.VE

theorem stackLimits_of (x0 x1 : Nat) (h0 : x0 < 256) (h1 : x1 < 256) (w : World) {l : List (Nat × List AV × AV)} {r0 r1 : Nat} (hl : OrcsG Tryz.prog noGlob l) (hrun : evCall (envC Tryz.prog (valsOf [x0, x1]) (remsOf [(5, r0), (3, r1)]) (fun _ _ => none) noGlob slmCfg l) 100000 3000 4 [.sym .u8 0, .sym .u8 1] emptySt toldTrue = some ()) : x0 % 5 = r0 → x1 % 3 = r1 → Calls Tryz.prog 4 #[.int .u8 (x0 : Int), .int .u8 (x1 : Int)] w fun e w' => e = .returned (.bool true) ∧ Go.RowKit.Below w.heap.size w w' := by
  intro e0 e1
  refine law_of slm_names slm_mixed hl (remsOf_ok (xs := [x0, x1]) fun i m r h => ?_) (fun _ _ _ h => none_some h) hrun (vs := [.int .u8 (x0 : Int), .int .u8 (x1 : Int)]) (fun g hg => ?_) w
  · match i, h with
    | 0, h => cases h; exact ⟨x0, rfl, h0, by decide, e0⟩
    | 1, h => cases h; exact ⟨x1, rfl, h1, by decide, e1⟩
    | i + 2, h => cases h
  · refine Rl.cons ?_ (Rl.one ?_) <;> simp only [Rv, hg] <;> rfl
theorem stackLimits_any (x0 x1 : Nat) (h0 : x0 < 256) (h1 : x1 < 256) (w : World) : Calls Tryz.prog 4 #[.int .u8 (x0 : Int), .int .u8 (x1 : Int)] w fun e w' => e = .returned (.bool true) ∧ Go.RowKit.Below w.heap.size w w' := by
  have m0 : x0 % 5 = 0 ∨ x0 % 5 = 1 ∨ x0 % 5 = 2 ∨ x0 % 5 = 3 ∨ x0 % 5 = 4 := by omega
  have m1 : x1 % 3 = 0 ∨ x1 % 3 = 1 ∨ x1 % 3 = 2 := by omega
  rcases m0 with e0 | e0 | e0 | e0 | e0
  · rcases m1 with e1 | e1 | e1
    · exact stackLimits_of x0 x1 h0 h1 w slmOk_0_0 (slmCase_0_0 _) e0 e1
    · exact stackLimits_of x0 x1 h0 h1 w slmOk_0_1 (slmCase_0_1 _) e0 e1
    · exact stackLimits_of x0 x1 h0 h1 w slmOk_0_2 (slmCase_0_2 _) e0 e1
  · rcases m1 with e1 | e1 | e1
    · exact stackLimits_of x0 x1 h0 h1 w slmOk_1_0 (slmCase_1_0 _) e0 e1
    · exact stackLimits_of x0 x1 h0 h1 w slmOk_1_1 (slmCase_1_1 _) e0 e1
    · exact stackLimits_of x0 x1 h0 h1 w slmOk_1_2 (slmCase_1_2 _) e0 e1
  · rcases m1 with e1 | e1 | e1
    · exact stackLimits_of x0 x1 h0 h1 w slmOk_2_0 (slmCase_2_0 _) e0 e1
    · exact stackLimits_of x0 x1 h0 h1 w slmOk_2_1 (slmCase_2_1 _) e0 e1
    · exact stackLimits_of x0 x1 h0 h1 w slmOk_2_2 (slmCase_2_2 _) e0 e1
  · rcases m1 with e1 | e1 | e1
    · exact stackLimits_of x0 x1 h0 h1 w slmOk_3_0 (slmCase_3_0 _) e0 e1
    · exact stackLimits_of x0 x1 h0 h1 w slmOk_3_1 (slmCase_3_1 _) e0 e1
    · exact stackLimits_of x0 x1 h0 h1 w slmOk_3_2 (slmCase_3_2 _) e0 e1
  · rcases m1 with e1 | e1 | e1
    · exact stackLimits_of x0 x1 h0 h1 w slmOk_4_0 (slmCase_4_0 _) e0 e1
    · exact stackLimits_of x0 x1 h0 h1 w slmOk_4_1 (slmCase_4_1 _) e0 e1
    · exact stackLimits_of x0 x1 h0 h1 w slmOk_4_2 (slmCase_4_2 _) e0 e1
end Go.Proofs.YtgidgiidcnlpbaaGreat
