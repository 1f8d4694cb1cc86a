/- Code that is looked at ahead: the small functions, both sides. -/
import Derived.Test.YtbgmdckfkfkglaaHMath
import Derived.Test.YtbgmdckfkfkglaaCEnc
import Derived.Deep.DeepCutAuto
import Derived.Outline
set_option linter.unusedSimpArgs false
set_option linter.unusedVariables false
namespace Go.Proofs.Ytbgmdckfkfkglaa
open Go.RowKit M

theorem goesOn_no {op : Int} (h : op = 0 ∨ op = 25 ∨ op = 29 ∨ op = 30) : goesOn op = false := by unfold goesOn; simp [h]
theorem goesOn_yes {op : Int} (h : ¬ (op = 0 ∨ op = 25 ∨ op = 29 ∨ op = 30)) : goesOn op = true := by unfold goesOn; simp [h]

set_option maxHeartbeats 1600000 in
theorem goesOn_any (op : Int) (w : World) : Calls Try.prog 45 #[.int .i64 op] w fun e w' => e = .returned (.bool (goesOn op)) ∧ w = w' := by
  by_cases h : op = 0 ∨ op = 25 ∨ op = 29 ∨ op = 30
  · rw [goesOn_no h]
    rcases h with rfl | rfl | rfl | rfl
    all_goals
      go_enter Try.func45, Try.ntmps45
      go_wp2
      go_ret
      exact ⟨rfl, rfl⟩
  · rw [goesOn_yes h]
    have h1 : (op == 0) = false := not_beq (by omega)
    have h2 : (op == 25) = false := not_beq (by omega)
    have h3 : (op == 29) = false := not_beq (by omega)
    have h4 : (op == 30) = false := not_beq (by omega)
    clear h
    go_enter Try.func45, Try.ntmps45
    go_wp2
    go_ret
    exact ⟨rfl, rfl⟩

set_option maxHeartbeats 1600000 in
theorem ends_any (op : Int) (w : World) : Calls Try.prog 48 #[.int .i64 op] w fun e w' => e = .returned (.bool (!goesOn op)) ∧ w = w' := by
  by_cases h : op = 0 ∨ op = 25 ∨ op = 29 ∨ op = 30
  · rw [goesOn_no h]
    rcases h with rfl | rfl | rfl | rfl
    all_goals
      go_enter Try.func48, Try.ntmps48
      go_wp2
      go_ret
      exact ⟨rfl, rfl⟩
  · rw [goesOn_yes h]
    have h1 : (op == 0) = false := not_beq (by omega)
    have h2 : (op == 25) = false := not_beq (by omega)
    have h3 : (op == 29) = false := not_beq (by omega)
    have h4 : (op == 30) = false := not_beq (by omega)
    clear h
    go_enter Try.func48, Try.ntmps48
    go_wp2
    go_ret
    exact ⟨rfl, rfl⟩

theorem tup_of {x y : Int} {a b : Bool} (h : x = y) (k : a = b) : Ending.returned (.tuple #[.int .i64 x, .bool a]) = .returned (.tuple #[.int .i64 y, .bool b]) := by rw [h, k]
theorem op_cases {op : Int} (h1 : 0 ≤ op) (h2 : op < 34) : op = 0 ∨ op = 1 ∨ op = 2 ∨ op = 3 ∨ op = 4 ∨ op = 5 ∨ op = 6 ∨ op = 7 ∨ op = 8 ∨ op = 9 ∨ op = 10 ∨ op = 11 ∨ op = 12 ∨ op = 13 ∨ op = 14 ∨ op = 15 ∨ op = 16 ∨ op = 17 ∨ op = 18 ∨ op = 19 ∨ op = 20 ∨ op = 21 ∨ op = 22 ∨ op = 23 ∨ op = 24 ∨ op = 25 ∨ op = 26 ∨ op = 27 ∨ op = 28 ∨ op = 29 ∨ op = 30 ∨ op = 31 ∨ op = 32 ∨ op = 33 := by omega
set_option maxHeartbeats 3200000 in
theorem effectI_any (op : Int) (h1 : 0 ≤ op) (h2 : op < 34) (w : World) : Calls Try.prog 59 #[.int .i64 op] w fun e w' => e = .returned (.tuple #[.int .i64 (takesV op : Nat), .int .i64 (leavesV op : Nat)]) ∧ w = w' := by
  rcases op_cases h1 h2 with rfl | rfl | rfl | rfl | rfl | rfl | rfl | rfl | rfl | rfl | rfl | rfl | rfl | rfl | rfl | rfl | rfl | rfl | rfl | rfl | rfl | rfl | rfl | rfl | rfl | rfl | rfl | rfl | rfl | rfl | rfl | rfl | rfl | rfl
  all_goals
    clear h1 h2
    go_enter Try.func59, Try.ntmps59
    go_wp2
    go_ret2
    exact ⟨rfl, rfl⟩
set_option maxHeartbeats 3200000 in
theorem effectR_any (op : Int) (h1 : 0 ≤ op) (h2 : op < 34) (w : World) : Calls Try.prog 52 #[.int .i64 op] w fun e w' => e = .returned (.tuple #[.int .i64 (takesV op : Nat), .int .i64 (leavesV op : Nat)]) ∧ w = w' := by
  rcases op_cases h1 h2 with rfl | rfl | rfl | rfl | rfl | rfl | rfl | rfl | rfl | rfl | rfl | rfl | rfl | rfl | rfl | rfl | rfl | rfl | rfl | rfl | rfl | rfl | rfl | rfl | rfl | rfl | rfl | rfl | rfl | rfl | rfl | rfl | rfl | rfl
  all_goals
    clear h1 h2
    go_enter Try.func52, Try.ntmps52
    go_wp2
    go_ret2
    exact ⟨rfl, rfl⟩

set_option maxHeartbeats 800000 in
theorem behind_any (op : Int) (h1 : 0 ≤ op) (h2 : op < 34) (h : Nat) (hh : h ≤ 1000) (w : World) :
    Calls Try.prog 49 #[.int .i64 op, .int .i64 h] w fun e w' => e = .returned (.tuple #[.int .i64 ((h : Int) - (takesV op : Nat) + (leavesV op : Nat)), .bool (decide (takesV op ≤ h ∧ h - takesV op + leavesV op ≤ 1000))]) ∧ w = w' := by
  have cE := effectI_any op h1 h2 w
  have b1 := takesV_le op
  have b2 := leavesV_le op
  obtain ⟨a, ha⟩ : ∃ a, takesV op = a := ⟨_, rfl⟩
  obtain ⟨b, hb⟩ : ∃ b, leavesV op = b := ⟨_, rfl⟩
  rw [ha] at cE b1 ⊢
  rw [hb] at cE b2 ⊢
  have e1 : wrap64 (wrap64 ((h : Int) - (a : Int)) + (b : Int)) = (h : Int) - a + b := by unfold wrap64; omega
  clear h1 h2 ha hb
  by_cases g1 : a ≤ h
  · have g1' : (a : Int) ≤ (h : Int) := by omega
    go_enter Try.func49, Try.ntmps49
    go_wp2_with fail
    refine cE.mono ?_
    rintro e w1 ⟨rfl, rfl⟩
    clear cE
    go_wp2_with fail
    go_ret2
    exact ⟨tup_of rfl (by rw [decide_eq_decide]; omega), rfl⟩
  · have g1' : decide ((a : Int) ≤ (h : Int)) = false := by simp; omega
    go_enter Try.func49, Try.ntmps49
    go_wp2_with fail
    refine cE.mono ?_
    rintro e w1 ⟨rfl, rfl⟩
    clear cE
    go_wp2_with fail
    go_ret2
    exact ⟨tup_of rfl (by simp only [g1, false_and, decide_false]), rfl⟩
end Go.Proofs.Ytbgmdckfkfkglaa
