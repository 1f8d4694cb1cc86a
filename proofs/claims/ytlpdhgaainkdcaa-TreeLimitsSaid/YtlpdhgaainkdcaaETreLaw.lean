/- TreeLimits returns true, whatever its numbers are. -/
import Derived.Test.YtlpdhgaainkdcaaETreC0
import Derived.Test.YtlpdhgaainkdcaaETreC1
import Derived.Test.YtlpdhgaainkdcaaETreC2
import Derived.Test.YtlpdhgaainkdcaaETreC3
import Derived.Test.YtlpdhgaainkdcaaETreC4
set_option linter.unusedSimpArgs false
set_option linter.unusedVariables false
namespace Go.Proofs.Ytlpdhgaainkdcaa
open Go.VE

set_option maxRecDepth 100000 in
theorem treeLimits_any (x y : Nat) (hx : x < 256) (hy : y < 256) (w : World) : Calls Try.prog 3 #[.int .u8 (x : Int), .int .u8 (y : Int)] w fun e w' => e = .returned (.bool true) ∧ Go.RowKit.Below w.heap.size w w' := by
  have hall : ∀ c, c < 5 → ∀ d, d < 5 → treOne (valsOf [x, y]) c d = true := fun c hc d hd => by
    match c, hc, d, hd with
    | 0, _, 0, _ => exact treOne_0_0 _
    | 0, _, 1, _ => exact treOne_0_1 _
    | 0, _, 2, _ => exact treOne_0_2 _
    | 0, _, 3, _ => exact treOne_0_3 _
    | 0, _, 4, _ => exact treOne_0_4 _
    | 1, _, 0, _ => exact treOne_1_0 _
    | 1, _, 1, _ => exact treOne_1_1 _
    | 1, _, 2, _ => exact treOne_1_2 _
    | 1, _, 3, _ => exact treOne_1_3 _
    | 1, _, 4, _ => exact treOne_1_4 _
    | 2, _, 0, _ => exact treOne_2_0 _
    | 2, _, 1, _ => exact treOne_2_1 _
    | 2, _, 2, _ => exact treOne_2_2 _
    | 2, _, 3, _ => exact treOne_2_3 _
    | 2, _, 4, _ => exact treOne_2_4 _
    | 3, _, 0, _ => exact treOne_3_0 _
    | 3, _, 1, _ => exact treOne_3_1 _
    | 3, _, 2, _ => exact treOne_3_2 _
    | 3, _, 3, _ => exact treOne_3_3 _
    | 3, _, 4, _ => exact treOne_3_4 _
    | 4, _, 0, _ => exact treOne_4_0 _
    | 4, _, 1, _ => exact treOne_4_1 _
    | 4, _, 2, _ => exact treOne_4_2 _
    | 4, _, 3, _ => exact treOne_4_3 _
    | 4, _, 4, _ => exact treOne_4_4 _
  have hone := hall (x % 5) (Nat.mod_lt _ (by decide)) (y % 5) (Nat.mod_lt _ (by decide))
  have hrun : evCall (envOf Try.prog (valsOf [x, y]) (remsOf [(5, x % 5), (5, y % 5)]) (fun _ _ => none) (treL (y % 5))) 3000 300 3 [.sym .u8 0, .sym .u8 1] emptySt toldTrue = some () := by
    unfold treOne at hone
    split at hone
    · assumption
    · cases hone
  refine law_told ev_names ev_mixed (treL_ok (y % 5) (Nat.mod_lt _ (by decide))) (remsOf_ok fun i m r h => ?_) (fun _ _ _ h => none_some h) hrun (vs := [.int .u8 (x : Int), .int .u8 (y : Int)]) (fun g hg => ?_) w
  · match i, h with
    | 0, h => cases h; exact ⟨x, rfl, hx, by decide, rfl⟩
    | 1, h => cases h; exact ⟨y, rfl, hy, by decide, rfl⟩
    | i + 2, h => cases h
  · refine Rl.cons ?_ (Rl.one ?_) <;> simp only [Rv, hg] <;> rfl
end Go.Proofs.Ytlpdhgaainkdcaa
