/- The document's own spans; the chapter's example. -/
import Derived.Test.YtgicibblkmeoeaaABits
set_option linter.unusedSimpArgs false
set_option linter.unusedVariables false
namespace Go.Proofs.Ytgicibblkmeoeaa
open Go.RowKit M

theorem span_no1 (a b : Int) (w : World) (h : ¬ (0 ≤ a ∧ a < 32 ∧ 0 ≤ b ∧ b < 32)) :
    Calls Try.prog 117 #[.int .i32 a, .int .i32 b] w fun e w' => e = .returned (.tuple #[.int .i32 0, .bool false]) ∧ w = w' := by
  have hc : a < 0 ∨ (0 ≤ a ∧ 32 ≤ a) ∨ (0 ≤ a ∧ a < 32 ∧ b < 0) ∨ (0 ≤ a ∧ a < 32 ∧ 0 ≤ b ∧ 32 ≤ b) := by omega
  clear h
  rcases hc with h | ⟨h1, h2⟩ | ⟨h1, h2, h3⟩ | ⟨h1, h2, h3, h4⟩
  all_goals
    go_enter Try.func117, Try.ntmps117
    go_wp2
    go_ret2
    exact ⟨rfl, rfl⟩

theorem span_any1 (a b : Nat) (w : World) (ha : a < 32) (hb : b < 32) :
    Calls Try.prog 117 #[.int .i32 a, .int .i32 b] w fun e w' => e = .returned (.tuple #[.int .i32 (S (spanV a b)), .bool true]) ∧ w = w' := by
  have h0 : ∃ i : Nat, i = a ∧ (0 : Int) = S (seg a i) := ⟨a, rfl, by rw [seg_none]; rfl⟩
  go_enter Try.func117, Try.ntmps117
  go_wp2
  go_loopg [6, 7] (b + 1 - a) (fun g s k wr => w = wr ∧ ∃ i : Nat, k = .int .i32 i ∧ a ≤ i ∧ (i ≤ b + 1 ∨ i = a) ∧ g = b + 1 - i ∧ s = .int .i32 (S (seg a i)))
  case atStart =>
    obtain ⟨i, rfl, h1⟩ := h0
    exact ⟨rfl, i, rfl, Nat.le_refl _, Or.inr rfl, rfl, by rw [← h1]⟩
  case round =>
    clear h0
    obtain ⟨rfl, i, rfl, h1, h2, h3, rfl⟩ := hrel
    by_cases hi : i ≤ b
    · have hor := or_S (seg a i) (2 ^ i) (seg_lt a i (by omega)) (by have := pow32 (show i < 32 by omega); omega)
      rw [seg_next a i ha h1 (by omega)] at hor
      have hbit := bit_any1 i w (by omega)
      clear h2
      go_wp2_with (go_at_call 153; refine hbit.mono ?_; rintro e w1 ⟨rfl, rfl⟩)
      go_roundg (b + 1 - (i + 1))
      case measure => omega
      case rel => exact ⟨rfl, i + 1, by go_num, by omega, Or.inl (by omega), rfl, rfl⟩
    · have he : S (seg a i) = S (spanV a b) := by
        by_cases hab : a ≤ b
        · rw [show i = b + 1 by omega, seg_end a b hab]
        · rw [show i = a by omega, seg_none]; unfold spanV; rw [if_neg hab]
      have HE := Lib.hid he
      clear he h2
      go_wp2
      go_ret2
      exact ⟨by rw [← HE.out]; rfl, rfl⟩

end Go.Proofs.Ytgicibblkmeoeaa
