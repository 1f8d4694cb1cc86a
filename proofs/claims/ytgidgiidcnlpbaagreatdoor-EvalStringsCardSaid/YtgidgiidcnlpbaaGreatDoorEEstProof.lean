/- A world that meets what the row's condition says of the library's tables. -/
import Derived.Test.YtgidgiidcnlpbaaGreatDoorRows
import Derived.Test.YtgidgiidcnlpbaaGreatDoorGTabs
import Derived.LaidMore
import Derived.LaidLaws
import Derived.ProofKit
import Derived.OpenShut
import Derived.Stop.Joined
import Derived.MakeChecks
import Derived.Lay
import Derived.Test.YtgidgiidcnlpbaaGreatDoorEEstC0
import Derived.Test.YtgidgiidcnlpbaaGreatDoorGArgs
import Derived.Test.YtgidgiidcnlpbaaGreatDoorTie
import Derived.Test.YtgidgiidcnlpbaaGreatDoorCards
import Derived.SevenTiedAt
import Derived.ShutString
set_option linter.unusedSimpArgs false
set_option linter.unusedVariables false
namespace Go.Proofs.YtgidgiidcnlpbaaGreatDoor
open Go.Joins Go.ChangeShapes Go.WideShapes Go.RowKit M
def laidV : List (String × DataW Unit) := Rows.evalStringsRow.laid
theorem laid_met (os : Os) (args : Array Value) : laidMetH Tryz.prog laidV ((World.laidAll Tryz.prog os laidV).forCall (fun _ _ => 0) ⟨#[], args, []⟩).memory := by
  rw [MakeChecks.laidMetH_plain _ _ _ (by kernel_rfl)]
  exact laidMet_laidAll _ (by kernel_rfl) (by kernel_rfl)
end Go.Proofs.YtgidgiidcnlpbaaGreatDoor

/- EvalStrings returns true, whatever its numbers are. -/
set_option linter.unusedSimpArgs false
set_option linter.unusedVariables false
set_option maxRecDepth 100000
namespace Go.Proofs.YtgidgiidcnlpbaaGreatDoor
open Go.VE

theorem evalStrings_of (x0 x1 : Nat) (h0 : x0 < 256) (h1 : x1 < 256) (w : World) {l : List (Nat × List AV × AV)} {r0 r1 : Nat} (hl : OrcsG Tryz.prog noGlob l) (hrun : evCall (envC Tryz.prog (valsOf [x0, x1]) (remsOf [(10, r0), (12, r1)]) (fun _ _ => none) noGlob estCfg l) 100000 3000 4 [.sym .u8 0, .sym .u8 1] emptySt toldTrue = some ()) : x0 % 10 = r0 → x1 % 12 = r1 → Calls Tryz.prog 4 #[.int .u8 (x0 : Int), .int .u8 (x1 : Int)] w fun e w' => e = .returned (.bool true) ∧ Go.RowKit.Below w.heap.size w w' := by
  intro e0 e1
  refine law_of est_names est_mixed hl (remsOf_ok (xs := [x0, x1]) fun i m r h => ?_) (fun _ _ _ h => none_some h) hrun (vs := [.int .u8 (x0 : Int), .int .u8 (x1 : Int)]) (fun g hg => ?_) w
  · match i, h with
    | 0, h => cases h; exact ⟨x0, rfl, h0, by decide, e0⟩
    | 1, h => cases h; exact ⟨x1, rfl, h1, by decide, e1⟩
    | i + 2, h => cases h
  · refine Rl.cons ?_ (Rl.one ?_) <;> simp only [Rv, hg] <;> rfl
theorem evalStrings_any (x0 x1 : Nat) (h0 : x0 < 256) (h1 : x1 < 256) (w : World) : Calls Tryz.prog 4 #[.int .u8 (x0 : Int), .int .u8 (x1 : Int)] w fun e w' => e = .returned (.bool true) ∧ Go.RowKit.Below w.heap.size w w' := by
  have m0 : x0 % 10 = 0 ∨ x0 % 10 = 1 ∨ x0 % 10 = 2 ∨ x0 % 10 = 3 ∨ x0 % 10 = 4 ∨ x0 % 10 = 5 ∨ x0 % 10 = 6 ∨ x0 % 10 = 7 ∨ x0 % 10 = 8 ∨ x0 % 10 = 9 := by omega
  have m1 : x1 % 12 = 0 ∨ x1 % 12 = 1 ∨ x1 % 12 = 2 ∨ x1 % 12 = 3 ∨ x1 % 12 = 4 ∨ x1 % 12 = 5 ∨ x1 % 12 = 6 ∨ x1 % 12 = 7 ∨ x1 % 12 = 8 ∨ x1 % 12 = 9 ∨ x1 % 12 = 10 ∨ x1 % 12 = 11 := by omega
  rcases m0 with e0 | e0 | e0 | e0 | e0 | e0 | e0 | e0 | e0 | e0
  · rcases m1 with e1 | e1 | e1 | e1 | e1 | e1 | e1 | e1 | e1 | e1 | e1 | e1
    · exact evalStrings_of x0 x1 h0 h1 w estOk_0_0 (estCase_0_0 _) e0 e1
    · exact evalStrings_of x0 x1 h0 h1 w estOk_0_1 (estCase_0_1 _) e0 e1
    · exact evalStrings_of x0 x1 h0 h1 w estOk_0_2 (estCase_0_2 _) e0 e1
    · exact evalStrings_of x0 x1 h0 h1 w estOk_0_3 (estCase_0_3 _) e0 e1
    · exact evalStrings_of x0 x1 h0 h1 w estOk_0_4 (estCase_0_4 _) e0 e1
    · exact evalStrings_of x0 x1 h0 h1 w estOk_0_5 (estCase_0_5 _) e0 e1
    · exact evalStrings_of x0 x1 h0 h1 w estOk_0_6 (estCase_0_6 _) e0 e1
    · exact evalStrings_of x0 x1 h0 h1 w estOk_0_7 (estCase_0_7 _) e0 e1
    · exact evalStrings_of x0 x1 h0 h1 w estOk_0_8 (estCase_0_8 _) e0 e1
    · exact evalStrings_of x0 x1 h0 h1 w estOk_0_9 (estCase_0_9 _) e0 e1
    · exact evalStrings_of x0 x1 h0 h1 w estOk_0_10 (estCase_0_10 _) e0 e1
    · exact evalStrings_of x0 x1 h0 h1 w estOk_0_11 (estCase_0_11 _) e0 e1
  · rcases m1 with e1 | e1 | e1 | e1 | e1 | e1 | e1 | e1 | e1 | e1 | e1 | e1
    · exact evalStrings_of x0 x1 h0 h1 w estOk_1_0 (estCase_1_0 _) e0 e1
    · exact evalStrings_of x0 x1 h0 h1 w estOk_1_1 (estCase_1_1 _) e0 e1
    · exact evalStrings_of x0 x1 h0 h1 w estOk_1_2 (estCase_1_2 _) e0 e1
    · exact evalStrings_of x0 x1 h0 h1 w estOk_1_3 (estCase_1_3 _) e0 e1
    · exact evalStrings_of x0 x1 h0 h1 w estOk_1_4 (estCase_1_4 _) e0 e1
    · exact evalStrings_of x0 x1 h0 h1 w estOk_1_5 (estCase_1_5 _) e0 e1
    · exact evalStrings_of x0 x1 h0 h1 w estOk_1_6 (estCase_1_6 _) e0 e1
    · exact evalStrings_of x0 x1 h0 h1 w estOk_1_7 (estCase_1_7 _) e0 e1
    · exact evalStrings_of x0 x1 h0 h1 w estOk_1_8 (estCase_1_8 _) e0 e1
    · exact evalStrings_of x0 x1 h0 h1 w estOk_1_9 (estCase_1_9 _) e0 e1
    · exact evalStrings_of x0 x1 h0 h1 w estOk_1_10 (estCase_1_10 _) e0 e1
    · exact evalStrings_of x0 x1 h0 h1 w estOk_1_11 (estCase_1_11 _) e0 e1
  · rcases m1 with e1 | e1 | e1 | e1 | e1 | e1 | e1 | e1 | e1 | e1 | e1 | e1
    · exact evalStrings_of x0 x1 h0 h1 w estOk_2_0 (estCase_2_0 _) e0 e1
    · exact evalStrings_of x0 x1 h0 h1 w estOk_2_1 (estCase_2_1 _) e0 e1
    · exact evalStrings_of x0 x1 h0 h1 w estOk_2_2 (estCase_2_2 _) e0 e1
    · exact evalStrings_of x0 x1 h0 h1 w estOk_2_3 (estCase_2_3 _) e0 e1
    · exact evalStrings_of x0 x1 h0 h1 w estOk_2_4 (estCase_2_4 _) e0 e1
    · exact evalStrings_of x0 x1 h0 h1 w estOk_2_5 (estCase_2_5 _) e0 e1
    · exact evalStrings_of x0 x1 h0 h1 w estOk_2_6 (estCase_2_6 _) e0 e1
    · exact evalStrings_of x0 x1 h0 h1 w estOk_2_7 (estCase_2_7 _) e0 e1
    · exact evalStrings_of x0 x1 h0 h1 w estOk_2_8 (estCase_2_8 _) e0 e1
    · exact evalStrings_of x0 x1 h0 h1 w estOk_2_9 (estCase_2_9 _) e0 e1
    · exact evalStrings_of x0 x1 h0 h1 w estOk_2_10 (estCase_2_10 _) e0 e1
    · exact evalStrings_of x0 x1 h0 h1 w estOk_2_11 (estCase_2_11 _) e0 e1
  · rcases m1 with e1 | e1 | e1 | e1 | e1 | e1 | e1 | e1 | e1 | e1 | e1 | e1
    · exact evalStrings_of x0 x1 h0 h1 w estOk_3_0 (estCase_3_0 _) e0 e1
    · exact evalStrings_of x0 x1 h0 h1 w estOk_3_1 (estCase_3_1 _) e0 e1
    · exact evalStrings_of x0 x1 h0 h1 w estOk_3_2 (estCase_3_2 _) e0 e1
    · exact evalStrings_of x0 x1 h0 h1 w estOk_3_3 (estCase_3_3 _) e0 e1
    · exact evalStrings_of x0 x1 h0 h1 w estOk_3_4 (estCase_3_4 _) e0 e1
    · exact evalStrings_of x0 x1 h0 h1 w estOk_3_5 (estCase_3_5 _) e0 e1
    · exact evalStrings_of x0 x1 h0 h1 w estOk_3_6 (estCase_3_6 _) e0 e1
    · exact evalStrings_of x0 x1 h0 h1 w estOk_3_7 (estCase_3_7 _) e0 e1
    · exact evalStrings_of x0 x1 h0 h1 w estOk_3_8 (estCase_3_8 _) e0 e1
    · exact evalStrings_of x0 x1 h0 h1 w estOk_3_9 (estCase_3_9 _) e0 e1
    · exact evalStrings_of x0 x1 h0 h1 w estOk_3_10 (estCase_3_10 _) e0 e1
    · exact evalStrings_of x0 x1 h0 h1 w estOk_3_11 (estCase_3_11 _) e0 e1
  · rcases m1 with e1 | e1 | e1 | e1 | e1 | e1 | e1 | e1 | e1 | e1 | e1 | e1
    · exact evalStrings_of x0 x1 h0 h1 w estOk_4_0 (estCase_4_0 _) e0 e1
    · exact evalStrings_of x0 x1 h0 h1 w estOk_4_1 (estCase_4_1 _) e0 e1
    · exact evalStrings_of x0 x1 h0 h1 w estOk_4_2 (estCase_4_2 _) e0 e1
    · exact evalStrings_of x0 x1 h0 h1 w estOk_4_3 (estCase_4_3 _) e0 e1
    · exact evalStrings_of x0 x1 h0 h1 w estOk_4_4 (estCase_4_4 _) e0 e1
    · exact evalStrings_of x0 x1 h0 h1 w estOk_4_5 (estCase_4_5 _) e0 e1
    · exact evalStrings_of x0 x1 h0 h1 w estOk_4_6 (estCase_4_6 _) e0 e1
    · exact evalStrings_of x0 x1 h0 h1 w estOk_4_7 (estCase_4_7 _) e0 e1
    · exact evalStrings_of x0 x1 h0 h1 w estOk_4_8 (estCase_4_8 _) e0 e1
    · exact evalStrings_of x0 x1 h0 h1 w estOk_4_9 (estCase_4_9 _) e0 e1
    · exact evalStrings_of x0 x1 h0 h1 w estOk_4_10 (estCase_4_10 _) e0 e1
    · exact evalStrings_of x0 x1 h0 h1 w estOk_4_11 (estCase_4_11 _) e0 e1
  · rcases m1 with e1 | e1 | e1 | e1 | e1 | e1 | e1 | e1 | e1 | e1 | e1 | e1
    · exact evalStrings_of x0 x1 h0 h1 w estOk_5_0 (estCase_5_0 _) e0 e1
    · exact evalStrings_of x0 x1 h0 h1 w estOk_5_1 (estCase_5_1 _) e0 e1
    · exact evalStrings_of x0 x1 h0 h1 w estOk_5_2 (estCase_5_2 _) e0 e1
    · exact evalStrings_of x0 x1 h0 h1 w estOk_5_3 (estCase_5_3 _) e0 e1
    · exact evalStrings_of x0 x1 h0 h1 w estOk_5_4 (estCase_5_4 _) e0 e1
    · exact evalStrings_of x0 x1 h0 h1 w estOk_5_5 (estCase_5_5 _) e0 e1
    · exact evalStrings_of x0 x1 h0 h1 w estOk_5_6 (estCase_5_6 _) e0 e1
    · exact evalStrings_of x0 x1 h0 h1 w estOk_5_7 (estCase_5_7 _) e0 e1
    · exact evalStrings_of x0 x1 h0 h1 w estOk_5_8 (estCase_5_8 _) e0 e1
    · exact evalStrings_of x0 x1 h0 h1 w estOk_5_9 (estCase_5_9 _) e0 e1
    · exact evalStrings_of x0 x1 h0 h1 w estOk_5_10 (estCase_5_10 _) e0 e1
    · exact evalStrings_of x0 x1 h0 h1 w estOk_5_11 (estCase_5_11 _) e0 e1
  · rcases m1 with e1 | e1 | e1 | e1 | e1 | e1 | e1 | e1 | e1 | e1 | e1 | e1
    · exact evalStrings_of x0 x1 h0 h1 w estOk_6_0 (estCase_6_0 _) e0 e1
    · exact evalStrings_of x0 x1 h0 h1 w estOk_6_1 (estCase_6_1 _) e0 e1
    · exact evalStrings_of x0 x1 h0 h1 w estOk_6_2 (estCase_6_2 _) e0 e1
    · exact evalStrings_of x0 x1 h0 h1 w estOk_6_3 (estCase_6_3 _) e0 e1
    · exact evalStrings_of x0 x1 h0 h1 w estOk_6_4 (estCase_6_4 _) e0 e1
    · exact evalStrings_of x0 x1 h0 h1 w estOk_6_5 (estCase_6_5 _) e0 e1
    · exact evalStrings_of x0 x1 h0 h1 w estOk_6_6 (estCase_6_6 _) e0 e1
    · exact evalStrings_of x0 x1 h0 h1 w estOk_6_7 (estCase_6_7 _) e0 e1
    · exact evalStrings_of x0 x1 h0 h1 w estOk_6_8 (estCase_6_8 _) e0 e1
    · exact evalStrings_of x0 x1 h0 h1 w estOk_6_9 (estCase_6_9 _) e0 e1
    · exact evalStrings_of x0 x1 h0 h1 w estOk_6_10 (estCase_6_10 _) e0 e1
    · exact evalStrings_of x0 x1 h0 h1 w estOk_6_11 (estCase_6_11 _) e0 e1
  · rcases m1 with e1 | e1 | e1 | e1 | e1 | e1 | e1 | e1 | e1 | e1 | e1 | e1
    · exact evalStrings_of x0 x1 h0 h1 w estOk_7_0 (estCase_7_0 _) e0 e1
    · exact evalStrings_of x0 x1 h0 h1 w estOk_7_1 (estCase_7_1 _) e0 e1
    · exact evalStrings_of x0 x1 h0 h1 w estOk_7_2 (estCase_7_2 _) e0 e1
    · exact evalStrings_of x0 x1 h0 h1 w estOk_7_3 (estCase_7_3 _) e0 e1
    · exact evalStrings_of x0 x1 h0 h1 w estOk_7_4 (estCase_7_4 _) e0 e1
    · exact evalStrings_of x0 x1 h0 h1 w estOk_7_5 (estCase_7_5 _) e0 e1
    · exact evalStrings_of x0 x1 h0 h1 w estOk_7_6 (estCase_7_6 _) e0 e1
    · exact evalStrings_of x0 x1 h0 h1 w estOk_7_7 (estCase_7_7 _) e0 e1
    · exact evalStrings_of x0 x1 h0 h1 w estOk_7_8 (estCase_7_8 _) e0 e1
    · exact evalStrings_of x0 x1 h0 h1 w estOk_7_9 (estCase_7_9 _) e0 e1
    · exact evalStrings_of x0 x1 h0 h1 w estOk_7_10 (estCase_7_10 _) e0 e1
    · exact evalStrings_of x0 x1 h0 h1 w estOk_7_11 (estCase_7_11 _) e0 e1
  · rcases m1 with e1 | e1 | e1 | e1 | e1 | e1 | e1 | e1 | e1 | e1 | e1 | e1
    · exact evalStrings_of x0 x1 h0 h1 w estOk_8_0 (estCase_8_0 _) e0 e1
    · exact evalStrings_of x0 x1 h0 h1 w estOk_8_1 (estCase_8_1 _) e0 e1
    · exact evalStrings_of x0 x1 h0 h1 w estOk_8_2 (estCase_8_2 _) e0 e1
    · exact evalStrings_of x0 x1 h0 h1 w estOk_8_3 (estCase_8_3 _) e0 e1
    · exact evalStrings_of x0 x1 h0 h1 w estOk_8_4 (estCase_8_4 _) e0 e1
    · exact evalStrings_of x0 x1 h0 h1 w estOk_8_5 (estCase_8_5 _) e0 e1
    · exact evalStrings_of x0 x1 h0 h1 w estOk_8_6 (estCase_8_6 _) e0 e1
    · exact evalStrings_of x0 x1 h0 h1 w estOk_8_7 (estCase_8_7 _) e0 e1
    · exact evalStrings_of x0 x1 h0 h1 w estOk_8_8 (estCase_8_8 _) e0 e1
    · exact evalStrings_of x0 x1 h0 h1 w estOk_8_9 (estCase_8_9 _) e0 e1
    · exact evalStrings_of x0 x1 h0 h1 w estOk_8_10 (estCase_8_10 _) e0 e1
    · exact evalStrings_of x0 x1 h0 h1 w estOk_8_11 (estCase_8_11 _) e0 e1
  · rcases m1 with e1 | e1 | e1 | e1 | e1 | e1 | e1 | e1 | e1 | e1 | e1 | e1
    · exact evalStrings_of x0 x1 h0 h1 w estOk_9_0 (estCase_9_0 _) e0 e1
    · exact evalStrings_of x0 x1 h0 h1 w estOk_9_1 (estCase_9_1 _) e0 e1
    · exact evalStrings_of x0 x1 h0 h1 w estOk_9_2 (estCase_9_2 _) e0 e1
    · exact evalStrings_of x0 x1 h0 h1 w estOk_9_3 (estCase_9_3 _) e0 e1
    · exact evalStrings_of x0 x1 h0 h1 w estOk_9_4 (estCase_9_4 _) e0 e1
    · exact evalStrings_of x0 x1 h0 h1 w estOk_9_5 (estCase_9_5 _) e0 e1
    · exact evalStrings_of x0 x1 h0 h1 w estOk_9_6 (estCase_9_6 _) e0 e1
    · exact evalStrings_of x0 x1 h0 h1 w estOk_9_7 (estCase_9_7 _) e0 e1
    · exact evalStrings_of x0 x1 h0 h1 w estOk_9_8 (estCase_9_8 _) e0 e1
    · exact evalStrings_of x0 x1 h0 h1 w estOk_9_9 (estCase_9_9 _) e0 e1
    · exact evalStrings_of x0 x1 h0 h1 w estOk_9_10 (estCase_9_10 _) e0 e1
    · exact evalStrings_of x0 x1 h0 h1 w estOk_9_11 (estCase_9_11 _) e0 e1
end Go.Proofs.YtgidgiidcnlpbaaGreatDoor

/- What is proved: for every input the Go function wafer/waferlaw23.EvalStrings returns true, and its arguments read behind the call as they read before. No condition is laid on the input. -/
set_option linter.unusedSimpArgs false
set_option linter.unusedVariables false
namespace Go.Proofs.YtgidgiidcnlpbaaGreatDoor.evalStrings
open Go.ChangeShapes Go.WideShapes Go.ChangeAt Go.RowKit M

set_option maxRecDepth 100000 in
theorem lifted (os : Os) (started : os.Started) (H : Type) (enc : TypeId × Value → H) :
    ReturnsInHanded {} Tryz.checked os 4 .any (fun w args => (Rows.evalStringsSpec.pre enc Tryz.prog Tryz.f4 [] false w args ∧ laidMetH Tryz.prog laidV w) ∧ sizedMet enc Tryz.prog Tryz.f4 (OpenSpec.ofChange Rows.evalStringsSpec) false w args)
      (Rows.evalStringsSpec.post enc Tryz.prog Tryz.f4 false true false false) := by
  refine returnsInHanded_of_change_and (C := Tryz.checked) (X := fun w _ => laidMetH Tryz.prog laidV w) (fun _ _ _ hh h => h.of_heap hh) own started (by kernel_rfl) Tryz.func4
    (ChangeSpec.witness_shaped (enc := enc) (C := Tryz.checked) (os := os) (X := fun w _ => laidMetH Tryz.prog laidV w) false (World.laidAll Tryz.prog os laidV) #[.int .u8 0, .int .u8 0] 8 (World.laidAll_os _ _ _) (World.shaped_of_ZipB (by kernel_rfl) (by kernel_rfl)) (by kernel_rfl) (by kernel_rfl) (by kernel_rfl) (laid_met os _)) ?_
  intro W base args ds gs before hval0 hW _ hsz hL _
  have hval : ∀ (j : Nat) t v, Tryz.f4.params[j]? = some t → args[j]? = some v → Value.okWide Tryz.prog W .any base t v := hval0
  have hW' := hW
  obtain ⟨p, q, hA0, hV, rfl, hfz, hnd⟩ := hW
  have hA : DataW.TrodAll enc Tryz.prog W 0 (fun _ => true) true Tryz.f4.params.toList args.toList ds p := hA0
  rw [Tryz.params4] at hA hval
  obtain ⟨v0, vs0, d0, ds0, p0, q0, hargs, rfl, rfl, h0, r0⟩ := trodAll_cons hA
  obtain ⟨v1, vs1, d1, ds1, p1, q1, rfl, rfl, rfl, h1, r1⟩ := trodAll_cons r0
  obtain ⟨rfl, rfl, rfl⟩ := trodAll_nil r1
  obtain rfl : args = #[v0, v1] := by cases args; simp_all
  obtain ⟨rfl, rfl⟩ := trodVars_none hV
  obtain ⟨a0, rfl, rfl, rfl, w0⟩ := open_int Tryz.underlying5 (hval 0 5 v0 rfl rfl) h0
  have c0 := bounds_u8 w0
  obtain ⟨x0, rfl⟩ : ∃ n : Nat, a0 = n := ⟨a0.toNat, by omega⟩
  obtain ⟨a1, rfl, rfl, rfl, w1⟩ := open_int Tryz.underlying5 (hval 1 5 v1 rfl rfl) h1
  have c1 := bounds_u8 w1
  obtain ⟨x1, rfl⟩ : ∃ n : Nat, a1 = n := ⟨a1.toNat, by omega⟩
  clear hA0 hval0
  refine (evalStrings_any x0 x1 (by omega) (by omega) W).mono fun e W' ⟨he, ho⟩ => ?_
  subst he
  have bel : Below W.heap.size W W' := ho
  exact ⟨_, rfl, _, _, _, [], _, [], hW', trodAll_mk1 (shut_bool Tryz.underlying4 _), (trodAll_cons_mk (shut_int Tryz.underlying5 w0) (trodAll_cons_mk (shut_int Tryz.underlying5 w1) trodAll_mk0)), rfl, bel.frame _, fun h => by cases h⟩

theorem over : Rows.evalStringsRow.holds Tryz.pinned (OpenSpec.ofChange Rows.evalStringsSpec) :=
  OpenClaim.holds_of_wide 4 Tryz.f4 rfl rfl rfl rfl rfl rfl rfl ⟨rfl, rfl, rfl, rfl, rfl⟩ rfl rfl rfl rfl rfl (by kernel_rfl) Tryz.func4 (by kernel_rfl)
    (of_decide_eq_true (by kernel_rfl)) (by unfold Func.isWrapper; first | (rw [if_pos (by decide +kernel)]; kernel_rfl) | (rw [if_neg (by decide +kernel)]; exact ⟨rfl, rfl⟩))
    (fun os started H enc _ => lifted os started H enc)

theorem evalStrings_holds : Rows.EvalStringsCardSaid :=
  Claim7.holds_tied_plain_at .later [] _ _ _ _
    over (fun _ h => by cases h) (by kernel_rfl) (fun _ h => by cases h) evalStrings_row_tie rfl ⟨rfl, rfl⟩ (by kernel_rfl) rfl
    (fun f fn hf hfn => by
      obtain rfl : f = 4 := Option.some.inj ((show Tryz.prog.funcNamed "wafer/waferlaw23.EvalStrings" = some 4 by kernel_rfl).symm.trans hf) |>.symm
      obtain rfl : fn = Tryz.f4 := (Option.some.inj (Tryz.func4.symm.trans hfn)).symm
      exact ⟨by kernel_rfl, fun j t ht => by
        rw [Tryz.params4] at ht
        have hm : t ∈ [5, 5] := by simpa using Array.mem_of_getElem? ht
        have hall : ([5, 5].all fun u => !Tryz.prog.wantsStandIn u) = true := by kernel_rfl
        exact (show Tryz.prog.wantsStandIn t = false by simpa using List.all_eq_true.1 hall t hm)⟩)
    (by kernel_rfl)
#print axioms evalStrings_holds
end Go.Proofs.YtgidgiidcnlpbaaGreatDoor.evalStrings

