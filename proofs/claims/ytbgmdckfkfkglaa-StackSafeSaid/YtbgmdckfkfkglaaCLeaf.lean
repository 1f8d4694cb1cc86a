/- The small functions of the stack machine's code, by contracts; rows of instructions. -/
import Derived.Test.YtbgmdckfkfkglaaCPut
import Derived.Test.YtbgmdckfkfkglaaCMath
import Derived.Deep.RegionHeld3
import Derived.Outline
set_option linter.unusedSimpArgs false
set_option linter.unusedVariables false
namespace Go.Proofs.Ytbgmdckfkfkglaa
open Go.RowKit M

theorem hasK_not {op : Int} (h1 : ¬ op = 1) (h5 : ¬ op = 5) (h8 : ¬ op = 8) (h25 : ¬ op = 25) (h26 : ¬ op = 26) (h27 : ¬ op = 27) (h28 : ¬ op = 28) (h30 : ¬ op = 30) : hasK op = false := by
  unfold hasK; simp [h1, h5, h8, h25, h26, h27, h28, h30]
theorem not_beq {a b : Int} (h : ¬ a = b) : (a == b) = false := by simpa using h

set_option maxHeartbeats 1600000 in
theorem has_any (op : Int) (w : World) : Calls Try.prog 60 #[.int .i64 op] w fun e w' => e = .returned (.bool (hasK op)) ∧ w = w' := by
  by_cases h : op = 1 ∨ op = 5 ∨ op = 8 ∨ op = 25 ∨ op = 26 ∨ op = 27 ∨ op = 28 ∨ op = 30
  · rcases h with rfl | rfl | rfl | rfl | rfl | rfl | rfl | rfl
    all_goals
      go_enter Try.func60, Try.ntmps60
      go_wp2
      go_ret
      exact ⟨rfl, rfl⟩
  · have e : hasK op = false := hasK_not (by omega) (by omega) (by omega) (by omega) (by omega) (by omega) (by omega) (by omega)
    rw [e]
    have h1 : (op == 1) = false := not_beq (by omega)
    have h5 : (op == 5) = false := not_beq (by omega)
    have h8 : (op == 8) = false := not_beq (by omega)
    have h25 : (op == 25) = false := not_beq (by omega)
    have h26 : (op == 26) = false := not_beq (by omega)
    have h27 : (op == 27) = false := not_beq (by omega)
    have h28 : (op == 28) = false := not_beq (by omega)
    have h30 : (op == 30) = false := not_beq (by omega)
    clear h e
    go_enter Try.func60, Try.ntmps60
    go_wp2
    go_ret
    exact ⟨rfl, rfl⟩

set_option maxHeartbeats 1600000 in
theorem hasK_any (op : Int) (w : World) : Calls Try.prog 43 #[.int .i64 op] w fun e w' => e = .returned (.bool (hasK op)) ∧ w = w' := by
  by_cases h : op = 1 ∨ op = 5 ∨ op = 8 ∨ op = 25 ∨ op = 26 ∨ op = 27 ∨ op = 28 ∨ op = 30
  · rcases h with rfl | rfl | rfl | rfl | rfl | rfl | rfl | rfl
    all_goals
      go_enter Try.func43, Try.ntmps43
      go_wp2
      go_ret
      exact ⟨rfl, rfl⟩
  · have e : hasK op = false := hasK_not (by omega) (by omega) (by omega) (by omega) (by omega) (by omega) (by omega) (by omega)
    rw [e]
    have h1 : (op == 1) = false := not_beq (by omega)
    have h5 : (op == 5) = false := not_beq (by omega)
    have h8 : (op == 8) = false := not_beq (by omega)
    have h25 : (op == 25) = false := not_beq (by omega)
    have h26 : (op == 26) = false := not_beq (by omega)
    have h27 : (op == 27) = false := not_beq (by omega)
    have h28 : (op == 28) = false := not_beq (by omega)
    have h30 : (op == 30) = false := not_beq (by omega)
    clear h e
    go_enter Try.func43, Try.ntmps43
    go_wp2
    go_ret
    exact ⟨rfl, rfl⟩

def _root_.Go.Proofs.Ytbgmdckfkfkglaa.M.Cod.val (c : Cod) : Value := .agg #[.int .i64 c.op, .int .i32 c.k]

theorem M.Only.drewN {S : Nat → Prop} {a w : World} (h : Only S a w) (q : Nat) : Only S a (w.drewN q) := ⟨h.os, h.tape, h.output, h.size, h.block⟩
theorem ret_eq {a b : Value} (h : a = b) : Ending.returned a = .returned b := by rw [h]
theorem ret_bool {a b : Bool} (h : a = b) : Ending.returned (.bool a) = .returned (.bool b) := by rw [h]

set_option maxHeartbeats 1600000 in
theorem isRight_any (op k : Int) (w : World) : Calls Try.prog 67 #[.agg #[.int .i64 op, .int .i32 k]] w fun e w' => e = .returned (.bool (decide (Cod.mk op k).Good)) ∧ Only Nil w w' := by
  obtain ⟨h, hh⟩ : ∃ h, hasK op = h := ⟨_, rfl⟩
  have cH := fun w => has_any op w
  rw [hh] at cH
  have hG : decide (Cod.mk op k).Good = (decide (0 ≤ op) && (decide (op < 34) && (k == 0 || h))) := by
    unfold Cod.Good
    simp only [hh]
    by_cases h1 : 0 ≤ op <;> by_cases h2 : op < 34 <;> by_cases h3 : k = 0 <;> cases h <;> simp [h1, h2, h3]
  have HG := Lib.hid hG
  clear hG hh
  by_cases h1 : 0 ≤ op
  · by_cases h2 : op < 34
    · by_cases h3 : k = 0
      · subst h3
        go_enter Try.func67, Try.ntmps67
        go_wp2_with (go_at_call 60; refine (cH _).mono ?_; rintro e w1 ⟨rfl, rfl⟩)
        go_ret
        exact ⟨ret_bool (by rw [HG.out]; simp [h1, h2]), (Only.refl Nil w).alloc _⟩
      · have h3' : (k == 0) = false := not_beq h3
        go_enter Try.func67, Try.ntmps67
        go_wp2_with (go_at_call 60; refine (cH _).mono ?_; rintro e w1 ⟨rfl, rfl⟩)
        go_ret
        exact ⟨ret_bool (by rw [HG.out]; simp [h1, h2, h3]), (Only.refl Nil w).alloc _⟩
    · go_enter Try.func67, Try.ntmps67
      go_wp2_with (go_at_call 60; refine (cH _).mono ?_; rintro e w1 ⟨rfl, rfl⟩)
      go_ret
      exact ⟨ret_bool (by rw [HG.out]; simp; omega), (Only.refl Nil w).alloc _⟩
  · go_enter Try.func67, Try.ntmps67
    go_wp2_with (go_at_call 60; refine (cH _).mono ?_; rintro e w1 ⟨rfl, rfl⟩)
    go_ret
    exact ⟨ret_bool (by rw [HG.out]; simp; omega), (Only.refl Nil w).alloc _⟩

set_option maxHeartbeats 1600000 in
theorem in_any (n a b : Int) (w : World) : Calls Try.prog 47 #[.int .i64 n, .int .i64 a, .int .i64 b] w fun e w' => e = .returned (.bool (decide (a ≤ n) && decide (n ≤ b))) ∧ w = w' := by
  by_cases h1 : a ≤ n
  · by_cases h2 : n ≤ b
    · go_enter Try.func47, Try.ntmps47
      go_wp2
      go_ret
      exact ⟨ret_bool (by simp [h1, h2]), rfl⟩
    · go_enter Try.func47, Try.ntmps47
      go_wp2
      go_ret
      exact ⟨ret_bool (by simp [h1, h2]), rfl⟩
  · go_enter Try.func47, Try.ntmps47
    go_wp2
    go_ret
    exact ⟨ret_bool (by simp; omega), rfl⟩

set_option maxHeartbeats 1600000 in
theorem good_any (op k : Int) (w : World) : Calls Try.prog 46 #[.agg #[.int .i64 op, .int .i32 k]] w fun e w' => e = .returned (.bool (decide (Cod.mk op k).Good)) ∧ Only Nil w w' := by
  obtain ⟨h, hh⟩ : ∃ h, hasK op = h := ⟨_, rfl⟩
  have cH := fun w => hasK_any op w
  rw [hh] at cH
  obtain ⟨i, hi⟩ : ∃ i, (decide (0 ≤ op) && decide (op ≤ 33)) = i := ⟨_, rfl⟩
  have cI := fun w => in_any op 0 33 w
  rw [hi] at cI
  have hG : decide (Cod.mk op k).Good = (i && (h || k == 0)) := by
    rw [← hi]
    unfold Cod.Good
    simp only [hh]
    by_cases h1 : 0 ≤ op <;> by_cases h2 : op ≤ 33 <;> by_cases h3 : k = 0 <;> cases h <;> simp [h1, h2, h3, show (op < 34) = (op ≤ 33) from propext ⟨fun h => by omega, fun h => by omega⟩]
  have HG := Lib.hid hG
  clear hG hh hi
  cases i
  · go_enter Try.func46, Try.ntmps46
    go_wp2_with (go_at_call 47; refine (cI _).mono ?_; rintro e w1 ⟨rfl, rfl⟩)
    go_ret
    exact ⟨ret_bool (by rw [HG.out]; simp), (Only.refl Nil w).alloc _⟩
  · cases h
    · go_enter Try.func46, Try.ntmps46
      go_wp2_with (first | (go_at_call 47; refine (cI _).mono ?_; rintro e w1 ⟨rfl, rfl⟩) | (go_at_call 43; refine (cH _).mono ?_; rintro e w1 ⟨rfl, rfl⟩))
      go_ret
      exact ⟨ret_bool (by rw [HG.out]; simp), (Only.refl Nil w).alloc _⟩
    · go_enter Try.func46, Try.ntmps46
      go_wp2_with (first | (go_at_call 47; refine (cI _).mono ?_; rintro e w1 ⟨rfl, rfl⟩) | (go_at_call 43; refine (cH _).mono ?_; rintro e w1 ⟨rfl, rfl⟩))
      go_ret
      exact ⟨ret_bool (by rw [HG.out]; simp), (Only.refl Nil w).alloc _⟩

/-- What Place tells. -/
def placeV (k n : Int) : Int := if k.tmod n < 0 then k.tmod n + n else k.tmod n
end Go.Proofs.Ytbgmdckfkfkglaa
