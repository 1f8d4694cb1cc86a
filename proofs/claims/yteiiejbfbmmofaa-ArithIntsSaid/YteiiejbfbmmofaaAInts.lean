/- The walks of the laws ArithInts and ArithShifts. -/
import Derived.Test.YteiiejbfbmmofaaASpan
import Derived.Test.YteiiejbfbmmofaaMem
namespace Go.Proofs.Yteiiejbfbmmofaa
open Go.RowKit M

theorem div_back (a b : Int) (ha : I32 a) : wrap32 (wrap32 (a / b * b) + a % b) = a := by
  have h := Int.mul_ediv_add_emod a b
  rw [Int.mul_comm] at h
  obtain ⟨x, hx⟩ : ∃ x, a / b * b = x := ⟨_, rfl⟩
  obtain ⟨y, hy⟩ : ∃ y, a % b = y := ⟨_, rfl⟩
  rw [hx, hy] at h
  rw [hx, hy]
  unfold I32 at ha
  unfold wrap32
  omega
theorem w32_I32 (x : Int) : I32 (wrap32 x) := by unfold I32 wrap32; omega

set_option maxHeartbeats 800000 in
theorem ints_any (a b : Int) (w : World) (ha : I32 a) (hb : I32 b) :
    Calls Try.prog 3 #[.int .i32 a, .int .i32 b] w fun e w' => e = .returned (.bool true) ∧ w = w' := by
  have cAdd := fun w => add_any a b w ha hb
  have cSub := fun w => sub_any a b w ha hb
  have cMul := fun w => mul_any a b w ha hb
  by_cases h : b < 1
  · have c1 := fun w => div_no a b w h
    have c2 := fun w => mod_no a b w h
    have c3 := fun w => div_no1 a b w h
    have c4 := fun w => mod_no1 a b w h
    unfold I32 at ha hb
    go_enter Try.func3, Try.ntmps3
    go_wp2_with (first
      | (go_at_call 9; refine (known_any w).mono ?_; rintro e w1 ⟨rfl, rfl⟩)
      | (go_at_call 10; refine (c1 w).mono ?_; rintro e w1 ⟨rfl, rfl⟩)
      | (go_at_call 11; refine (c2 w).mono ?_; rintro e w1 ⟨rfl, rfl⟩)
      | (go_at_call 12; refine (c3 w).mono ?_; rintro e w1 ⟨rfl, rfl⟩)
      | (go_at_call 13; refine (c4 w).mono ?_; rintro e w1 ⟨rfl, rfl⟩)
      | (go_at_call 14; refine (cAdd w).mono ?_; rintro e w1 ⟨rfl, rfl⟩)
      | (go_at_call 16; refine (cSub w).mono ?_; rintro e w1 ⟨rfl, rfl⟩)
      | (go_at_call 15; refine (cMul w).mono ?_; rintro e w1 ⟨rfl, rfl⟩))
    go_ret
    exact ⟨rfl, rfl⟩
  · have h1 : 1 ≤ b := by omega
    have h2 : b ≤ 2147483647 := hb.2
    have c1 := fun w => div_any a b w ha h1 h2
    have c2 := fun w => mod_any a b w ha h1 h2
    have c3 := fun w => div_any1 a b w ha h1 h2
    have c4 := fun w => mod_any1 a b w ha h1 h2
    have hq := div_i32 a b ha h1
    have hm : a % b < b := Int.emod_lt_of_pos a (by omega)
    have hm0 : 0 ≤ a % b := Int.emod_nonneg a (by omega)
    have hk := div_back a b ha
    obtain ⟨q, hq'⟩ : ∃ q, a / b = q := ⟨_, rfl⟩
    obtain ⟨r, hr'⟩ : ∃ r, a % b = r := ⟨_, rfl⟩
    simp only [hq', hr'] at c1 c2 c3 c4 hq hm hm0 hk
    have c5 := fun w => mul_any q b w hq hb
    have hb' := hb
    have ha' := ha
    unfold I32 at ha hb
    have c6 := fun w => add_any (wrap32 (q * b)) r w (w32_I32 _) (by unfold I32; omega)
    rw [hk] at c6
    have d1 : decide (r < 0) = false := by simp; omega
    have d2 : decide (b ≤ r) = false := by simp; omega
    clear hq' hr' hk hq hb' ha' h
    go_enter Try.func3, Try.ntmps3
    go_wp2_with (first
      | (go_at_call 9; refine (known_any w).mono ?_; rintro e w1 ⟨rfl, rfl⟩)
      | (go_at_call 10; refine (c1 w).mono ?_; rintro e w1 ⟨rfl, rfl⟩)
      | (go_at_call 11; refine (c2 w).mono ?_; rintro e w1 ⟨rfl, rfl⟩)
      | (go_at_call 12; refine (c3 w).mono ?_; rintro e w1 ⟨rfl, rfl⟩)
      | (go_at_call 13; refine (c4 w).mono ?_; rintro e w1 ⟨rfl, rfl⟩))
    refine (c5 w).mono ?_
    rintro e w1 ⟨rfl, rfl⟩
    go_wp2_with fail
    refine (c6 w).mono ?_
    rintro e w1 ⟨rfl, rfl⟩
    go_wp2_with (first
      | (go_at_call 14; refine (cAdd w).mono ?_; rintro e w1 ⟨rfl, rfl⟩)
      | (go_at_call 16; refine (cSub w).mono ?_; rintro e w1 ⟨rfl, rfl⟩)
      | (go_at_call 15; refine (cMul w).mono ?_; rintro e w1 ⟨rfl, rfl⟩))
    go_ret
    exact ⟨rfl, rfl⟩

theorem and31s (n : Int) (hn : I32 n) : bits .and .i32 n 31 = (K n : Int) := by
  have := and_mask n 5 hn (by decide)
  rw [show ((2 ^ 5 - 1 : Nat) : Int) = 31 from rfl] at this
  rw [this]; rfl

set_option maxHeartbeats 800000 in
theorem shifts_any (a n : Int) (w : World) (ha : I32 a) (hn : I32 n) :
    Calls Try.prog 4 #[.int .i32 a, .int .i32 n] w fun e w' => e = .returned (.bool true) ∧ w = w' := by
  have h31 := and31s n hn
  have c1 := fun w => lsl_any a n w
  have c2 := fun w => lsl_any1 a n w
  have c3 := fun w => asr_any a n w
  have c4 := fun w => asr_any1 a n w
  have c5 := fun w => ror_any a n w
  have c6 := fun w => ror_any1 a n w
  have hk := K_lt n
  have c7 := fun w => ror_any (S (rorN (U a) (K n))) (32 - (K n : Int)) w
  rw [U_S _ (rorN_lt _ _ (U_lt a)), show K (32 - (K n : Int)) = (32 - K n) % 32 by unfold K U at *; omega, rorN_back _ _ (U_lt a) hk, S_U a ha] at c7
  obtain ⟨v1, hv1⟩ : ∃ v, lslV a (K n) = v := ⟨_, rfl⟩
  obtain ⟨v2, hv2⟩ : ∃ v, a / 2 ^ K n = v := ⟨_, rfl⟩
  obtain ⟨v3, hv3⟩ : ∃ v, S (rorN (U a) (K n)) = v := ⟨_, rfl⟩
  simp only [hv1, hv2, hv3] at c1 c2 c3 c4 c5 c6 c7
  obtain ⟨k, hk'⟩ : ∃ k, K n = k := ⟨_, rfl⟩
  simp only [hk'] at h31 hk c7
  clear hv1 hv2 hv3 hk'
  go_enter Try.func4, Try.ntmps4
  go_wp2_with (first
    | (go_at_call 9; refine (known_any w).mono ?_; rintro e w1 ⟨rfl, rfl⟩)
    | (go_at_call 17; refine (c1 w).mono ?_; rintro e w1 ⟨rfl, rfl⟩)
    | (go_at_call 18; refine (c2 w).mono ?_; rintro e w1 ⟨rfl, rfl⟩)
    | (go_at_call 19; refine (c3 w).mono ?_; rintro e w1 ⟨rfl, rfl⟩)
    | (go_at_call 20; refine (c4 w).mono ?_; rintro e w1 ⟨rfl, rfl⟩))
  refine (c5 w).mono ?_
  rintro e w1 ⟨rfl, rfl⟩
  go_wp2_with fail
  refine (c6 w).mono ?_
  rintro e w1 ⟨rfl, rfl⟩
  go_wp2_with fail
  refine (c5 w).mono ?_
  rintro e w1 ⟨rfl, rfl⟩
  go_wp2_with fail
  refine (c7 w).mono ?_
  rintro e w1 ⟨rfl, rfl⟩
  go_wp2_with fail
  go_ret
  exact ⟨rfl, rfl⟩
end Go.Proofs.Yteiiejbfbmmofaa
