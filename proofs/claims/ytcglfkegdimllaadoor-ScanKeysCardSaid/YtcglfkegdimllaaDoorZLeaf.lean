/- Symbols: which byte is what, both sides. -/
import Derived.Test.YtcglfkegdimllaaDoorZMath
import Derived.Test.YtcglfkegdimllaaDoorVRow
import Derived.Outline
set_option linter.unusedSimpArgs false
set_option linter.unusedVariables false
namespace Go.Proofs.YtcglfkegdimllaaDoor
open Go.RowKit M

theorem retB {a b : Bool} (h : a = b) : Ending.returned (.bool a) = .returned (.bool b) := by rw [h]
set_option maxHeartbeats 1600000 in
theorem isLetter_any (c : Nat) (w : World) : Calls Tryd.prog 68 #[.int .u8 c] w fun e w' => e = .returned (.bool (letB c)) ∧ w = w' := by
  go_enter Tryd.func68, Tryd.ntmps68
  go_wp2
  all_goals go_ret
  all_goals refine ⟨retB ?_, rfl⟩
  all_goals (unfold letB; rw [Bool.eq_iff_iff]; (try simp at *); (try simp); omega)
set_option maxHeartbeats 1600000 in
theorem isDigit_any (c : Nat) (w : World) : Calls Tryd.prog 70 #[.int .u8 c] w fun e w' => e = .returned (.bool (digB c)) ∧ w = w' := by
  go_enter Tryd.func70, Tryd.ntmps70
  go_wp2
  all_goals go_ret
  all_goals refine ⟨retB ?_, rfl⟩
  all_goals (unfold digB; rw [Bool.eq_iff_iff]; (try simp at *); (try simp); omega)
set_option maxHeartbeats 1600000 in
theorem isBlank_any (c : Nat) (w : World) : Calls Tryd.prog 65 #[.int .u8 c] w fun e w' => e = .returned (.bool (blaB c)) ∧ w = w' := by
  go_enter Tryd.func65, Tryd.ntmps65
  go_wp2
  all_goals go_ret
  all_goals refine ⟨retB ?_, rfl⟩
  all_goals (unfold blaB; rw [Bool.eq_iff_iff]; (try simp at *); (try simp); omega)
set_option maxHeartbeats 1600000 in
theorem letter_any (c : Nat) (w : World) : Calls Tryd.prog 60 #[.int .u8 c] w fun e w' => e = .returned (.bool (letB c)) ∧ w = w' := by
  go_enter Tryd.func60, Tryd.ntmps60
  go_wp2
  all_goals go_ret
  all_goals refine ⟨retB ?_, rfl⟩
  all_goals (unfold letB; rw [Bool.eq_iff_iff]; (try simp at *); (try simp); omega)
set_option maxHeartbeats 1600000 in
theorem digit_any (c : Nat) (w : World) : Calls Tryd.prog 61 #[.int .u8 c] w fun e w' => e = .returned (.bool (digB c)) ∧ w = w' := by
  go_enter Tryd.func61, Tryd.ntmps61
  go_wp2
  all_goals go_ret
  all_goals refine ⟨retB ?_, rfl⟩
  all_goals (unfold digB; rw [Bool.eq_iff_iff]; (try simp at *); (try simp); omega)
set_option maxHeartbeats 1600000 in
theorem blank_any (c : Nat) (w : World) : Calls Tryd.prog 59 #[.int .u8 c] w fun e w' => e = .returned (.bool (blaB c)) ∧ w = w' := by
  go_enter Tryd.func59, Tryd.ntmps59
  go_wp2
  all_goals go_ret
  all_goals refine ⟨retB ?_, rfl⟩
  all_goals (unfold blaB; rw [Bool.eq_iff_iff]; (try simp at *); (try simp); omega)
end Go.Proofs.YtcglfkegdimllaaDoor
