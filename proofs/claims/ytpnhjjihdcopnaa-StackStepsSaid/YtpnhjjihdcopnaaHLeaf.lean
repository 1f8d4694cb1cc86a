/- Code that is looked at ahead: the small functions, both sides. -/
import Derived.Test.YtpnhjjihdcopnaaHMath
import Derived.Test.YtpnhjjihdcopnaaCPut
import Derived.Deep.DeepCutAuto
import Derived.Outline
set_option linter.unusedSimpArgs false
set_option linter.unusedVariables false
namespace Go.Proofs.Ytpnhjjihdcopnaa
open Go.RowKit M

theorem goesOn_no {op : Int} (h : op = 0 ∨ op = 25 ∨ op = 29 ∨ op = 30) : goesOn op = false := by unfold goesOn; simp [h]
theorem goesOn_yes {op : Int} (h : ¬ (op = 0 ∨ op = 25 ∨ op = 29 ∨ op = 30)) : goesOn op = true := by unfold goesOn; simp [h]

theorem tup_of {x y : Int} {a b : Bool} (h : x = y) (k : a = b) : Ending.returned (.tuple #[.int .i64 x, .bool a]) = .returned (.tuple #[.int .i64 y, .bool b]) := by rw [h, k]
theorem op_cases {op : Int} (h1 : 0 ≤ op) (h2 : op < 34) : op = 0 ∨ op = 1 ∨ op = 2 ∨ op = 3 ∨ op = 4 ∨ op = 5 ∨ op = 6 ∨ op = 7 ∨ op = 8 ∨ op = 9 ∨ op = 10 ∨ op = 11 ∨ op = 12 ∨ op = 13 ∨ op = 14 ∨ op = 15 ∨ op = 16 ∨ op = 17 ∨ op = 18 ∨ op = 19 ∨ op = 20 ∨ op = 21 ∨ op = 22 ∨ op = 23 ∨ op = 24 ∨ op = 25 ∨ op = 26 ∨ op = 27 ∨ op = 28 ∨ op = 29 ∨ op = 30 ∨ op = 31 ∨ op = 32 ∨ op = 33 := by omega
set_option maxHeartbeats 3200000 in
theorem effectR_any (op : Int) (h1 : 0 ≤ op) (h2 : op < 34) (w : World) : Calls Try.prog 49 #[.int .i64 op] w fun e w' => e = .returned (.tuple #[.int .i64 (takesV op : Nat), .int .i64 (leavesV op : Nat)]) ∧ w = w' := by
  rcases op_cases h1 h2 with rfl | rfl | rfl | rfl | rfl | rfl | rfl | rfl | rfl | rfl | rfl | rfl | rfl | rfl | rfl | rfl | rfl | rfl | rfl | rfl | rfl | rfl | rfl | rfl | rfl | rfl | rfl | rfl | rfl | rfl | rfl | rfl | rfl | rfl
  all_goals
    clear h1 h2
    go_enter Try.func49, Try.ntmps49
    go_wp2
    go_ret2
    exact ⟨rfl, rfl⟩

end Go.Proofs.Ytpnhjjihdcopnaa
