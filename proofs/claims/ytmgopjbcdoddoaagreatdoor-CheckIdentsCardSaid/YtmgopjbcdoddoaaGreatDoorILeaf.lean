/- Identifiers: letters, digits, the standard names. -/
import Derived.Test.YtmgopjbcdoddoaaGreatDoorIMath
import Derived.Test.YtmgopjbcdoddoaaGreatDoorVRow
import Derived.Outline
set_option linter.unusedSimpArgs false
set_option linter.unusedVariables false
namespace Go.Proofs.YtmgopjbcdoddoaaGreatDoor
open Go.RowKit M

theorem retB {a b : Bool} (h : a = b) : Ending.returned (.bool a) = .returned (.bool b) := by rw [h]
def letN (c : Nat) : Bool := (65 ≤ c && c ≤ 90) || (97 ≤ c && c ≤ 122)
set_option maxHeartbeats 1600000 in
theorem isLetterI_any (c : Nat) (w : World) : Calls Tryz.prog 9 #[.int .u8 c] w fun e w' => e = .returned (.bool (letN c)) ∧ w = w' := by
  go_enter Tryz.func9, Tryz.ntmps9
  go_wp2
  all_goals go_ret
  all_goals refine ⟨retB ?_, rfl⟩
  all_goals (unfold letN; rw [Bool.eq_iff_iff]; (try simp at *); (try simp); omega)
def digN (c : Nat) : Bool := 48 ≤ c && c ≤ 57
set_option maxHeartbeats 1600000 in
theorem isDigitI_any (c : Nat) (w : World) : Calls Tryz.prog 8 #[.int .u8 c] w fun e w' => e = .returned (.bool (digN c)) ∧ w = w' := by
  go_enter Tryz.func8, Tryz.ntmps8
  go_wp2
  all_goals go_ret
  all_goals refine ⟨retB ?_, rfl⟩
  all_goals (unfold digN; rw [Bool.eq_iff_iff]; (try simp at *); (try simp); omega)
end Go.Proofs.YtmgopjbcdoddoaaGreatDoor
