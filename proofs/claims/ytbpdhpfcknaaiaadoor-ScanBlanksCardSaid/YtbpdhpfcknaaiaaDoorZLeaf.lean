/- Symbols: which byte is what, both sides. -/
import Derived.Test.YtbpdhpfcknaaiaaDoorZMath
import Derived.Test.YtbpdhpfcknaaiaaDoorVRow
import Derived.Outline
set_option linter.unusedSimpArgs false
set_option linter.unusedVariables false
namespace Go.Proofs.YtbpdhpfcknaaiaaDoor
open Go.RowKit M

theorem retB {a b : Bool} (h : a = b) : Ending.returned (.bool a) = .returned (.bool b) := by rw [h]
set_option maxHeartbeats 1600000 in
theorem isLetter_any (c : Nat) (w : World) : Calls Tryd.prog 32 #[.int .u8 c] w fun e w' => e = .returned (.bool (letB c)) ∧ w = w' := by
  go_enter Tryd.func32, Tryd.ntmps32
  go_wp2
  all_goals go_ret
  all_goals refine ⟨retB ?_, rfl⟩
  all_goals (unfold letB; rw [Bool.eq_iff_iff]; (try simp at *); (try simp); omega)
set_option maxHeartbeats 1600000 in
theorem isDigit_any (c : Nat) (w : World) : Calls Tryd.prog 34 #[.int .u8 c] w fun e w' => e = .returned (.bool (digB c)) ∧ w = w' := by
  go_enter Tryd.func34, Tryd.ntmps34
  go_wp2
  all_goals go_ret
  all_goals refine ⟨retB ?_, rfl⟩
  all_goals (unfold digB; rw [Bool.eq_iff_iff]; (try simp at *); (try simp); omega)
set_option maxHeartbeats 1600000 in
theorem isBlank_any (c : Nat) (w : World) : Calls Tryd.prog 29 #[.int .u8 c] w fun e w' => e = .returned (.bool (blaB c)) ∧ w = w' := by
  go_enter Tryd.func29, Tryd.ntmps29
  go_wp2
  all_goals go_ret
  all_goals refine ⟨retB ?_, rfl⟩
  all_goals (unfold blaB; rw [Bool.eq_iff_iff]; (try simp at *); (try simp); omega)
set_option maxHeartbeats 1600000 in
theorem letter_any (c : Nat) (w : World) : Calls Tryd.prog 23 #[.int .u8 c] w fun e w' => e = .returned (.bool (letB c)) ∧ w = w' := by
  go_enter Tryd.func23, Tryd.ntmps23
  go_wp2
  all_goals go_ret
  all_goals refine ⟨retB ?_, rfl⟩
  all_goals (unfold letB; rw [Bool.eq_iff_iff]; (try simp at *); (try simp); omega)
set_option maxHeartbeats 1600000 in
theorem digit_any (c : Nat) (w : World) : Calls Tryd.prog 24 #[.int .u8 c] w fun e w' => e = .returned (.bool (digB c)) ∧ w = w' := by
  go_enter Tryd.func24, Tryd.ntmps24
  go_wp2
  all_goals go_ret
  all_goals refine ⟨retB ?_, rfl⟩
  all_goals (unfold digB; rw [Bool.eq_iff_iff]; (try simp at *); (try simp); omega)
set_option maxHeartbeats 1600000 in
theorem blank_any (c : Nat) (w : World) : Calls Tryd.prog 22 #[.int .u8 c] w fun e w' => e = .returned (.bool (blaB c)) ∧ w = w' := by
  go_enter Tryd.func22, Tryd.ntmps22
  go_wp2
  all_goals go_ret
  all_goals refine ⟨retB ?_, rfl⟩
  all_goals (unfold blaB; rw [Bool.eq_iff_iff]; (try simp at *); (try simp); omega)
end Go.Proofs.YtbpdhpfcknaaiaaDoor
