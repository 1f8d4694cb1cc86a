/- The calls of arith, and of the document's own reckoning. -/
import Derived.Test.YtgicibblkmeoeaaProg
import Derived.Test.YtgicibblkmeoeaaAMath
import Derived.Test.YtgicibblkmeoeaaVNum
import Derived.Lib.Hide
import Derived.Deep.LoopGhost
import Derived.Deep.DeepCutAuto
set_option linter.unusedSimpArgs false
set_option linter.unusedVariables false
namespace Go.Proofs.Ytgicibblkmeoeaa
open Go.RowKit M

theorem ret_of {k : IntKind} {a b : Int} (h : a = b) : Ending.returned (.int k a) = .returned (.int k b) := by rw [h]
theorem pair_of {a b : Int} {k : Bool} (h : a = b) : Ending.returned (.tuple #[.int .i32 a, .bool k]) = .returned (.tuple #[.int .i32 b, .bool k]) := by rw [h]

theorem add_any (a b : Int) (w : World) (ha : I32 a) (hb : I32 b) :
    Calls Try.prog 145 #[.int .i32 a, .int .i32 b] w fun e w' => e = .returned (.int .i32 (wrap32 (a + b))) ∧ w = w' := by
  unfold I32 at ha hb
  go_enter Try.func145, Try.ntmps145
  go_wp2
  go_ret
  exact ⟨rfl, rfl⟩

theorem sub_any (a b : Int) (w : World) (ha : I32 a) (hb : I32 b) :
    Calls Try.prog 144 #[.int .i32 a, .int .i32 b] w fun e w' => e = .returned (.int .i32 (wrap32 (a - b))) ∧ w = w' := by
  unfold I32 at ha hb
  go_enter Try.func144, Try.ntmps144
  go_wp2
  go_ret
  exact ⟨rfl, rfl⟩

theorem mul_any (a b : Int) (w : World) (ha : I32 a) (hb : I32 b) :
    Calls Try.prog 146 #[.int .i32 a, .int .i32 b] w fun e w' => e = .returned (.int .i32 (wrap32 (a * b))) ∧ w = w' := by
  unfold I32 at ha hb
  go_enter Try.func146, Try.ntmps146
  go_wp2
  go_ret
  exact ⟨ret_of (wrap_32_64 _), rfl⟩

theorem div_no (a b : Int) (w : World) (hb : b < 1) :
    Calls Try.prog 147 #[.int .i32 a, .int .i32 b] w fun e w' => e = .returned (.tuple #[.int .i32 0, .bool false]) ∧ w = w' := by
  go_enter Try.func147, Try.ntmps147
  go_wp2
  go_ret2
  exact ⟨rfl, rfl⟩
theorem mod_no (a b : Int) (w : World) (hb : b < 1) :
    Calls Try.prog 148 #[.int .i32 a, .int .i32 b] w fun e w' => e = .returned (.tuple #[.int .i32 0, .bool false]) ∧ w = w' := by
  go_enter Try.func148, Try.ntmps148
  go_wp2
  go_ret2
  exact ⟨rfl, rfl⟩
theorem div_no1 (a b : Int) (w : World) (hb : b < 1) :
    Calls Try.prog 154 #[.int .i32 a, .int .i32 b] w fun e w' => e = .returned (.tuple #[.int .i32 0, .bool false]) ∧ w = w' := by
  go_enter Try.func154, Try.ntmps154
  go_wp2
  go_ret2
  exact ⟨rfl, rfl⟩
theorem mod_no1 (a b : Int) (w : World) (hb : b < 1) :
    Calls Try.prog 155 #[.int .i32 a, .int .i32 b] w fun e w' => e = .returned (.tuple #[.int .i32 0, .bool false]) ∧ w = w' := by
  go_enter Try.func155, Try.ntmps155
  go_wp2
  go_ret2
  exact ⟨rfl, rfl⟩


theorem div_any (a b : Int) (w : World) (ha : I32 a) (hb1 : 1 ≤ b) (hb2 : b ≤ 2147483647) :
    Calls Try.prog 147 #[.int .i32 a, .int .i32 b] w fun e w' => e = .returned (.tuple #[.int .i32 (a / b), .bool true]) ∧ w = w' := by
  have ht := tdiv_i32 a b ha hb1
  have hd := div_i32 a b ha hb1
  have hf := div_facts a b hb1
  have HF := Lib.hid hf
  by_cases h : a.tmod b < 0
  · have h1 := (hf.1 h).1
    rw [← h1] at hd
    unfold I32 at ha hd ht
    clear hf h1
    go_enter Try.func147, Try.ntmps147
    go_wp2
    go_ret2
    exact ⟨pair_of ((HF.out.1 h).1), rfl⟩
  · have h' : 0 ≤ a.tmod b := by omega
    unfold I32 at ha ht
    clear hf hd h
    go_enter Try.func147, Try.ntmps147
    go_wp2
    go_ret2
    exact ⟨pair_of ((HF.out.2 h').1), rfl⟩
theorem div_any1 (a b : Int) (w : World) (ha : I32 a) (hb1 : 1 ≤ b) (hb2 : b ≤ 2147483647) :
    Calls Try.prog 154 #[.int .i32 a, .int .i32 b] w fun e w' => e = .returned (.tuple #[.int .i32 (a / b), .bool true]) ∧ w = w' := by
  have ht := tdiv_i32 a b ha hb1
  have hd := div_i32 a b ha hb1
  have hf := div_facts a b hb1
  have HF := Lib.hid hf
  by_cases h : a.tmod b < 0
  · have h1 := (hf.1 h).1
    rw [← h1] at hd
    unfold I32 at ha hd ht
    clear hf h1
    go_enter Try.func154, Try.ntmps154
    go_wp2
    go_ret2
    exact ⟨pair_of ((HF.out.1 h).1), rfl⟩
  · have h' : 0 ≤ a.tmod b := by omega
    unfold I32 at ha ht
    clear hf hd h
    go_enter Try.func154, Try.ntmps154
    go_wp2
    go_ret2
    exact ⟨pair_of ((HF.out.2 h').1), rfl⟩
theorem mod_any (a b : Int) (w : World) (ha : I32 a) (hb1 : 1 ≤ b) (hb2 : b ≤ 2147483647) :
    Calls Try.prog 148 #[.int .i32 a, .int .i32 b] w fun e w' => e = .returned (.tuple #[.int .i32 (a % b), .bool true]) ∧ w = w' := by
  have hf := div_facts a b hb1
  have hm : a % b < b := Int.emod_lt_of_pos a (by omega)
  have hm0 : 0 ≤ a % b := Int.emod_nonneg a (by omega)
  have HF := Lib.hid hf
  by_cases h : a.tmod b < 0
  · have h1 := (hf.1 h).2
    rw [← h1] at hm hm0
    unfold I32 at ha
    clear hf h1
    go_enter Try.func148, Try.ntmps148
    go_wp2
    go_ret2
    exact ⟨pair_of ((HF.out.1 h).2), rfl⟩
  · have h' : 0 ≤ a.tmod b := by omega
    unfold I32 at ha
    clear hf h hm hm0
    go_enter Try.func148, Try.ntmps148
    go_wp2
    go_ret2
    exact ⟨pair_of ((HF.out.2 h').2), rfl⟩
theorem mod_any1 (a b : Int) (w : World) (ha : I32 a) (hb1 : 1 ≤ b) (hb2 : b ≤ 2147483647) :
    Calls Try.prog 155 #[.int .i32 a, .int .i32 b] w fun e w' => e = .returned (.tuple #[.int .i32 (a % b), .bool true]) ∧ w = w' := by
  have hf := div_facts a b hb1
  have hm : a % b < b := Int.emod_lt_of_pos a (by omega)
  have hm0 : 0 ≤ a % b := Int.emod_nonneg a (by omega)
  have HF := Lib.hid hf
  by_cases h : a.tmod b < 0
  · have h1 := (hf.1 h).2
    rw [← h1] at hm hm0
    unfold I32 at ha
    clear hf h1
    go_enter Try.func155, Try.ntmps155
    go_wp2
    go_ret2
    exact ⟨pair_of ((HF.out.1 h).2), rfl⟩
  · have h' : 0 ≤ a.tmod b := by omega
    have h2 : a.tmod b < b := by rw [(hf.2 h').2]; exact hm
    unfold I32 at ha
    clear hf h hm hm0
    go_enter Try.func155, Try.ntmps155
    go_wp2
    go_ret2
    exact ⟨pair_of ((HF.out.2 h').2), rfl⟩

end Go.Proofs.Ytgicibblkmeoeaa
