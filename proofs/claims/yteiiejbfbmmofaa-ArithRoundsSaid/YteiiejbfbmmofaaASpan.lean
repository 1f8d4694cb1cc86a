/- The document's own spans; the chapter's example. -/
import Derived.Test.YteiiejbfbmmofaaABits
namespace Go.Proofs.Yteiiejbfbmmofaa
open Go.RowKit M

theorem span_no1 (a b : Int) (w : World) (h : ¬ (0 ≤ a ∧ a < 32 ∧ 0 ≤ b ∧ b < 32)) :
    Calls Try.prog 28 #[.int .i32 a, .int .i32 b] w fun e w' => e = .returned (.tuple #[.int .i32 0, .bool false]) ∧ w = w' := by
  have hc : a < 0 ∨ (0 ≤ a ∧ 32 ≤ a) ∨ (0 ≤ a ∧ a < 32 ∧ b < 0) ∨ (0 ≤ a ∧ a < 32 ∧ 0 ≤ b ∧ 32 ≤ b) := by omega
  clear h
  rcases hc with h | ⟨h1, h2⟩ | ⟨h1, h2, h3⟩ | ⟨h1, h2, h3, h4⟩
  all_goals
    go_enter Try.func28, Try.ntmps28
    go_wp2
    go_ret2
    exact ⟨rfl, rfl⟩

theorem span_any1 (a b : Nat) (w : World) (ha : a < 32) (hb : b < 32) :
    Calls Try.prog 28 #[.int .i32 a, .int .i32 b] w fun e w' => e = .returned (.tuple #[.int .i32 (S (spanV a b)), .bool true]) ∧ w = w' := by
  have h0 : ∃ i : Nat, i = a ∧ (0 : Int) = S (seg a i) := ⟨a, rfl, by rw [seg_none]; rfl⟩
  go_enter Try.func28, Try.ntmps28
  go_wp2
  go_loopg [6, 7] (b + 1 - a) (fun g s k wr => w = wr ∧ ∃ i : Nat, k = .int .i32 i ∧ a ≤ i ∧ (i ≤ b + 1 ∨ i = a) ∧ g = b + 1 - i ∧ s = .int .i32 (S (seg a i)))
  case atStart =>
    obtain ⟨i, rfl, h1⟩ := h0
    exact ⟨rfl, i, rfl, Nat.le_refl _, Or.inr rfl, rfl, by rw [← h1]⟩
  case round =>
    clear h0
    obtain ⟨rfl, i, rfl, h1, h2, h3, rfl⟩ := hrel
    by_cases hi : i ≤ b
    · have hor := or_S (seg a i) (2 ^ i) (seg_lt a i (by omega)) (by have := pow32 (show i < 32 by omega); omega)
      rw [seg_next a i ha h1 (by omega)] at hor
      have hbit := bit_any1 i w (by omega)
      clear h2
      go_wp2_with (go_at_call 24; refine hbit.mono ?_; rintro e w1 ⟨rfl, rfl⟩)
      go_roundg (b + 1 - (i + 1))
      case measure => omega
      case rel => exact ⟨rfl, i + 1, by go_num, by omega, Or.inl (by omega), rfl, rfl⟩
    · have he : S (seg a i) = S (spanV a b) := by
        by_cases hab : a ≤ b
        · rw [show i = b + 1 by omega, seg_end a b hab]
        · rw [show i = a by omega, seg_none]; unfold spanV; rw [if_neg hab]
      have HE := Lib.hid he
      clear he h2
      go_wp2
      go_ret2
      exact ⟨by rw [← HE.out]; rfl, rfl⟩

set_option maxHeartbeats 800000 in
theorem known_any (w : World) :
    Calls Try.prog 9 #[] w fun e w' => e = .returned (.bool true) ∧ w = w' := by
  have h1 := fun w => div_any (-7) 2 w (by unfold I32; omega) (by decide) (by decide)
  have h2 := fun w => mod_any (-7) 2 w (by unfold I32; omega) (by decide) (by decide)
  have h3 := fun w => div_no 1 0 w (by decide)
  have h4 := fun w => span_any 1 3 w (by decide) (by decide)
  have h5 := fun w => has_any 2 14 w (by decide)
  have h6 := fun w => add_any 1 2 w (by unfold I32; omega) (by unfold I32; omega)
  rw [show (-7 : Int) / 2 = -4 by decide] at h1
  rw [show (-7 : Int) % 2 = 1 by decide] at h2
  rw [show S (spanV 1 3) = 14 by decide] at h4
  rw [show (U 14).testBit 2 = true by decide] at h5
  rw [show wrap32 (1 + 2) = 3 by unfold wrap32; decide] at h6
  go_enter Try.func9, Try.ntmps9
  go_wp2_with fail
  refine (h1 w).mono ?_
  rintro e w1 ⟨rfl, rfl⟩
  go_wp2_with fail
  refine (h2 w).mono ?_
  rintro e w1 ⟨rfl, rfl⟩
  go_wp2_with fail
  refine (h3 w).mono ?_
  rintro e w1 ⟨rfl, rfl⟩
  go_wp2_with fail
  refine (h4 w).mono ?_
  rintro e w1 ⟨rfl, rfl⟩
  go_wp2_with fail
  refine (h5 w).mono ?_
  rintro e w1 ⟨rfl, rfl⟩
  go_wp2_with fail
  refine (h6 w).mono ?_
  rintro e w1 ⟨rfl, rfl⟩
  go_wp2_with fail
  go_ret
  exact ⟨rfl, rfl⟩
end Go.Proofs.Yteiiejbfbmmofaa
