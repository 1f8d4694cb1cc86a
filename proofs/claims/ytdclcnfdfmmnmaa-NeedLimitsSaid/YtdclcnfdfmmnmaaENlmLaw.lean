/- NeedLimits returns true, whatever its numbers are. -/
import Derived.Test.YtdclcnfdfmmnmaaENlmC0
set_option linter.unusedSimpArgs false
set_option linter.unusedVariables false
set_option maxRecDepth 100000
namespace Go.Proofs.Ytdclcnfdfmmnmaa
open Go.VE

theorem needLimits_of (x0 x1 : Nat) (h0 : x0 < 256) (h1 : x1 < 256) (b0 : Bool) (w : World) {l : List (Nat × List AV × AV)} {r0 r1 : Nat} (hl : OrcsG Try.prog noGlob l) (hrun : evCall (envC Try.prog (valsOf [x0, x1]) (remsOf [(3, r0), (5, r1)]) (fun _ _ => none) noGlob nlmCfg l) 100000 3000 3 [.sym .u8 0, .sym .u8 1, .bool b0] emptySt toldTrue = some ()) : x0 % 3 = r0 → x1 % 5 = r1 → Calls Try.prog 3 #[.int .u8 (x0 : Int), .int .u8 (x1 : Int), .bool b0] w fun e w' => e = .returned (.bool true) ∧ Go.RowKit.Below w.heap.size w w' := by
  intro e0 e1
  refine law_of nlm_names nlm_mixed hl (remsOf_ok (xs := [x0, x1]) fun i m r h => ?_) (fun _ _ _ h => none_some h) hrun (vs := [.int .u8 (x0 : Int), .int .u8 (x1 : Int), .bool b0]) (fun g hg => ?_) w
  · match i, h with
    | 0, h => cases h; exact ⟨x0, rfl, h0, by decide, e0⟩
    | 1, h => cases h; exact ⟨x1, rfl, h1, by decide, e1⟩
    | i + 2, h => cases h
  · refine Rl.cons ?_ (Rl.cons ?_ (Rl.one ?_)) <;> simp only [Rv, hg] <;> try rfl
theorem needLimits_any (x0 x1 : Nat) (h0 : x0 < 256) (h1 : x1 < 256) (b0 : Bool) (w : World) : Calls Try.prog 3 #[.int .u8 (x0 : Int), .int .u8 (x1 : Int), .bool b0] w fun e w' => e = .returned (.bool true) ∧ Go.RowKit.Below w.heap.size w w' := by
  have m0 : x0 % 3 = 0 ∨ x0 % 3 = 1 ∨ x0 % 3 = 2 := by omega
  have m1 : x1 % 5 = 0 ∨ x1 % 5 = 1 ∨ x1 % 5 = 2 ∨ x1 % 5 = 3 ∨ x1 % 5 = 4 := by omega
  rcases m0 with e0 | e0 | e0
  · rcases m1 with e1 | e1 | e1 | e1 | e1
    · cases b0
      · exact needLimits_of x0 x1 h0 h1 false w nlmOk_0_0_false (nlmCase_0_0_false _) e0 e1
      · exact needLimits_of x0 x1 h0 h1 true w nlmOk_0_0_true (nlmCase_0_0_true _) e0 e1
    · cases b0
      · exact needLimits_of x0 x1 h0 h1 false w nlmOk_0_1_false (nlmCase_0_1_false _) e0 e1
      · exact needLimits_of x0 x1 h0 h1 true w nlmOk_0_1_true (nlmCase_0_1_true _) e0 e1
    · cases b0
      · exact needLimits_of x0 x1 h0 h1 false w nlmOk_0_2_false (nlmCase_0_2_false _) e0 e1
      · exact needLimits_of x0 x1 h0 h1 true w nlmOk_0_2_true (nlmCase_0_2_true _) e0 e1
    · cases b0
      · exact needLimits_of x0 x1 h0 h1 false w nlmOk_0_3_false (nlmCase_0_3_false _) e0 e1
      · exact needLimits_of x0 x1 h0 h1 true w nlmOk_0_3_true (nlmCase_0_3_true _) e0 e1
    · cases b0
      · exact needLimits_of x0 x1 h0 h1 false w nlmOk_0_4_false (nlmCase_0_4_false _) e0 e1
      · exact needLimits_of x0 x1 h0 h1 true w nlmOk_0_4_true (nlmCase_0_4_true _) e0 e1
  · rcases m1 with e1 | e1 | e1 | e1 | e1
    · cases b0
      · exact needLimits_of x0 x1 h0 h1 false w nlmOk_1_0_false (nlmCase_1_0_false _) e0 e1
      · exact needLimits_of x0 x1 h0 h1 true w nlmOk_1_0_true (nlmCase_1_0_true _) e0 e1
    · cases b0
      · exact needLimits_of x0 x1 h0 h1 false w nlmOk_1_1_false (nlmCase_1_1_false _) e0 e1
      · exact needLimits_of x0 x1 h0 h1 true w nlmOk_1_1_true (nlmCase_1_1_true _) e0 e1
    · cases b0
      · exact needLimits_of x0 x1 h0 h1 false w nlmOk_1_2_false (nlmCase_1_2_false _) e0 e1
      · exact needLimits_of x0 x1 h0 h1 true w nlmOk_1_2_true (nlmCase_1_2_true _) e0 e1
    · cases b0
      · exact needLimits_of x0 x1 h0 h1 false w nlmOk_1_3_false (nlmCase_1_3_false _) e0 e1
      · exact needLimits_of x0 x1 h0 h1 true w nlmOk_1_3_true (nlmCase_1_3_true _) e0 e1
    · cases b0
      · exact needLimits_of x0 x1 h0 h1 false w nlmOk_1_4_false (nlmCase_1_4_false _) e0 e1
      · exact needLimits_of x0 x1 h0 h1 true w nlmOk_1_4_true (nlmCase_1_4_true _) e0 e1
  · rcases m1 with e1 | e1 | e1 | e1 | e1
    · cases b0
      · exact needLimits_of x0 x1 h0 h1 false w nlmOk_2_0_false (nlmCase_2_0_false _) e0 e1
      · exact needLimits_of x0 x1 h0 h1 true w nlmOk_2_0_true (nlmCase_2_0_true _) e0 e1
    · cases b0
      · exact needLimits_of x0 x1 h0 h1 false w nlmOk_2_1_false (nlmCase_2_1_false _) e0 e1
      · exact needLimits_of x0 x1 h0 h1 true w nlmOk_2_1_true (nlmCase_2_1_true _) e0 e1
    · cases b0
      · exact needLimits_of x0 x1 h0 h1 false w nlmOk_2_2_false (nlmCase_2_2_false _) e0 e1
      · exact needLimits_of x0 x1 h0 h1 true w nlmOk_2_2_true (nlmCase_2_2_true _) e0 e1
    · cases b0
      · exact needLimits_of x0 x1 h0 h1 false w nlmOk_2_3_false (nlmCase_2_3_false _) e0 e1
      · exact needLimits_of x0 x1 h0 h1 true w nlmOk_2_3_true (nlmCase_2_3_true _) e0 e1
    · cases b0
      · exact needLimits_of x0 x1 h0 h1 false w nlmOk_2_4_false (nlmCase_2_4_false _) e0 e1
      · exact needLimits_of x0 x1 h0 h1 true w nlmOk_2_4_true (nlmCase_2_4_true _) e0 e1
end Go.Proofs.Ytdclcnfdfmmnmaa
