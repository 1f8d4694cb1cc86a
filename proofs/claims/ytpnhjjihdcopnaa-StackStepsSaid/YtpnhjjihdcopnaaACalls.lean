/- The calls of arith, and of the document's own reckoning. -/
import Derived.Test.YtpnhjjihdcopnaaProg
import Derived.Test.YtpnhjjihdcopnaaCMath
import Derived.Test.YtpnhjjihdcopnaaVNum
import Derived.Lib.Hide
import Derived.Deep.LoopGhost
import Derived.Deep.DeepCutAuto
set_option linter.unusedSimpArgs false
set_option linter.unusedVariables false
namespace Go.Proofs.Ytpnhjjihdcopnaa
open Go.RowKit M

theorem pair_of {a b : Int} {k : Bool} (h : a = b) : Ending.returned (.tuple #[.int .i32 a, .bool k]) = .returned (.tuple #[.int .i32 b, .bool k]) := by rw [h]

theorem add_any (a b : Int) (w : World) (ha : I32 a) (hb : I32 b) :
    Calls Try.prog 60 #[.int .i32 a, .int .i32 b] w fun e w' => e = .returned (.int .i32 (wrap32 (a + b))) ∧ w = w' := by
  unfold I32 at ha hb
  go_enter Try.func60, Try.ntmps60
  go_wp2
  go_ret
  exact ⟨rfl, rfl⟩

theorem sub_any (a b : Int) (w : World) (ha : I32 a) (hb : I32 b) :
    Calls Try.prog 73 #[.int .i32 a, .int .i32 b] w fun e w' => e = .returned (.int .i32 (wrap32 (a - b))) ∧ w = w' := by
  unfold I32 at ha hb
  go_enter Try.func73, Try.ntmps73
  go_wp2
  go_ret
  exact ⟨rfl, rfl⟩

theorem mul_any (a b : Int) (w : World) (ha : I32 a) (hb : I32 b) :
    Calls Try.prog 77 #[.int .i32 a, .int .i32 b] w fun e w' => e = .returned (.int .i32 (wrap32 (a * b))) ∧ w = w' := by
  unfold I32 at ha hb
  go_enter Try.func77, Try.ntmps77
  go_wp2
  go_ret
  exact ⟨ret_of (wrap_32_64 _), rfl⟩

theorem div_no (a b : Int) (w : World) (hb : b < 1) :
    Calls Try.prog 78 #[.int .i32 a, .int .i32 b] w fun e w' => e = .returned (.tuple #[.int .i32 0, .bool false]) ∧ w = w' := by
  go_enter Try.func78, Try.ntmps78
  go_wp2
  go_ret2
  exact ⟨rfl, rfl⟩
theorem mod_no (a b : Int) (w : World) (hb : b < 1) :
    Calls Try.prog 79 #[.int .i32 a, .int .i32 b] w fun e w' => e = .returned (.tuple #[.int .i32 0, .bool false]) ∧ w = w' := by
  go_enter Try.func79, Try.ntmps79
  go_wp2
  go_ret2
  exact ⟨rfl, rfl⟩
theorem div_no1 (a b : Int) (w : World) (hb : b < 1) :
    Calls Try.prog 66 #[.int .i32 a, .int .i32 b] w fun e w' => e = .returned (.tuple #[.int .i32 0, .bool false]) ∧ w = w' := by
  go_enter Try.func66, Try.ntmps66
  go_wp2
  go_ret2
  exact ⟨rfl, rfl⟩
theorem mod_no1 (a b : Int) (w : World) (hb : b < 1) :
    Calls Try.prog 67 #[.int .i32 a, .int .i32 b] w fun e w' => e = .returned (.tuple #[.int .i32 0, .bool false]) ∧ w = w' := by
  go_enter Try.func67, Try.ntmps67
  go_wp2
  go_ret2
  exact ⟨rfl, rfl⟩


theorem div_any (a b : Int) (w : World) (ha : I32 a) (hb1 : 1 ≤ b) (hb2 : b ≤ 2147483647) :
    Calls Try.prog 78 #[.int .i32 a, .int .i32 b] w fun e w' => e = .returned (.tuple #[.int .i32 (a / b), .bool true]) ∧ w = w' := by
  have ht := tdiv_i32 a b ha hb1
  have hd := div_i32 a b ha hb1
  have hf := div_facts a b hb1
  have HF := Lib.hid hf
  by_cases h : a.tmod b < 0
  · have h1 := (hf.1 h).1
    rw [← h1] at hd
    unfold I32 at ha hd ht
    clear hf h1
    go_enter Try.func78, Try.ntmps78
    go_wp2
    go_ret2
    exact ⟨pair_of ((HF.out.1 h).1), rfl⟩
  · have h' : 0 ≤ a.tmod b := by omega
    unfold I32 at ha ht
    clear hf hd h
    go_enter Try.func78, Try.ntmps78
    go_wp2
    go_ret2
    exact ⟨pair_of ((HF.out.2 h').1), rfl⟩
theorem div_any1 (a b : Int) (w : World) (ha : I32 a) (hb1 : 1 ≤ b) (hb2 : b ≤ 2147483647) :
    Calls Try.prog 66 #[.int .i32 a, .int .i32 b] w fun e w' => e = .returned (.tuple #[.int .i32 (a / b), .bool true]) ∧ w = w' := by
  have ht := tdiv_i32 a b ha hb1
  have hd := div_i32 a b ha hb1
  have hf := div_facts a b hb1
  have HF := Lib.hid hf
  by_cases h : a.tmod b < 0
  · have h1 := (hf.1 h).1
    rw [← h1] at hd
    unfold I32 at ha hd ht
    clear hf h1
    go_enter Try.func66, Try.ntmps66
    go_wp2
    go_ret2
    exact ⟨pair_of ((HF.out.1 h).1), rfl⟩
  · have h' : 0 ≤ a.tmod b := by omega
    unfold I32 at ha ht
    clear hf hd h
    go_enter Try.func66, Try.ntmps66
    go_wp2
    go_ret2
    exact ⟨pair_of ((HF.out.2 h').1), rfl⟩
theorem mod_any (a b : Int) (w : World) (ha : I32 a) (hb1 : 1 ≤ b) (hb2 : b ≤ 2147483647) :
    Calls Try.prog 79 #[.int .i32 a, .int .i32 b] w fun e w' => e = .returned (.tuple #[.int .i32 (a % b), .bool true]) ∧ w = w' := by
  have hf := div_facts a b hb1
  have hm : a % b < b := Int.emod_lt_of_pos a (by omega)
  have hm0 : 0 ≤ a % b := Int.emod_nonneg a (by omega)
  have HF := Lib.hid hf
  by_cases h : a.tmod b < 0
  · have h1 := (hf.1 h).2
    rw [← h1] at hm hm0
    unfold I32 at ha
    clear hf h1
    go_enter Try.func79, Try.ntmps79
    go_wp2
    go_ret2
    exact ⟨pair_of ((HF.out.1 h).2), rfl⟩
  · have h' : 0 ≤ a.tmod b := by omega
    unfold I32 at ha
    clear hf h hm hm0
    go_enter Try.func79, Try.ntmps79
    go_wp2
    go_ret2
    exact ⟨pair_of ((HF.out.2 h').2), rfl⟩
theorem mod_any1 (a b : Int) (w : World) (ha : I32 a) (hb1 : 1 ≤ b) (hb2 : b ≤ 2147483647) :
    Calls Try.prog 67 #[.int .i32 a, .int .i32 b] w fun e w' => e = .returned (.tuple #[.int .i32 (a % b), .bool true]) ∧ w = w' := by
  have hf := div_facts a b hb1
  have hm : a % b < b := Int.emod_lt_of_pos a (by omega)
  have hm0 : 0 ≤ a % b := Int.emod_nonneg a (by omega)
  have HF := Lib.hid hf
  by_cases h : a.tmod b < 0
  · have h1 := (hf.1 h).2
    rw [← h1] at hm hm0
    unfold I32 at ha
    clear hf h1
    go_enter Try.func67, Try.ntmps67
    go_wp2
    go_ret2
    exact ⟨pair_of ((HF.out.1 h).2), rfl⟩
  · have h' : 0 ≤ a.tmod b := by omega
    have h2 : a.tmod b < b := by rw [(hf.2 h').2]; exact hm
    unfold I32 at ha
    clear hf h hm hm0
    go_enter Try.func67, Try.ntmps67
    go_wp2
    go_ret2
    exact ⟨pair_of ((HF.out.2 h').2), rfl⟩

end Go.Proofs.Ytpnhjjihdcopnaa

/- arith and the document's own reckoning: bits. -/
set_option linter.unusedSimpArgs false
set_option linter.unusedVariables false
namespace Go.Proofs.Ytpnhjjihdcopnaa
open Go.RowKit M

def K (n : Int) : Nat := U n % 32
theorem K_lt (n : Int) : K n < 32 := Nat.mod_lt _ (by decide)
theorem K_eq (n : Int) : n % 4294967296 % 32 = (K n : Int) := by unfold K U; omega
theorem U_eq (n : Int) : n % 4294967296 = (U n : Int) := by unfold U; omega
theorem and31 (n : Int) : bits .and .u32 (n % 4294967296) 31 = (K n : Int) := by
  have := u32_and_nat (U n) 31 (U_lt n) (by decide)
  rw [U_eq, show (31 : Int) = ((31 : Nat) : Int) from rfl, this, nat_mask5]; rfl

def lslV (a : Int) (k : Nat) : Int := wrap32 (a % 4294967296 * 2 ^ k % 4294967296)
theorem ror_eq (a : Int) (k : Nat) : wrap32 (bits BinOp.or IntKind.u32 (a % 4294967296 / 2 ^ k) (a % 4294967296 * 2 ^ (32 - k) % 4294967296)) = S (rorN (U a) k) := by
  have h1 : U a / 2 ^ k < 4294967296 := Nat.lt_of_le_of_lt (Nat.div_le_self _ _) (U_lt a)
  have h2 : U a * 2 ^ (32 - k) % 4294967296 < 4294967296 := Nat.mod_lt _ (by decide)
  have e1 : ((U a : Int) / ((2 ^ k : Nat) : Int)) = ((U a / 2 ^ k : Nat) : Int) := rfl
  have e2 : ((U a : Int) * ((2 ^ (32 - k) : Nat) : Int) % 4294967296) = ((U a * 2 ^ (32 - k) % 4294967296 : Nat) : Int) := by
    rw [← Int.natCast_mul]; rfl
  rw [U_eq, pow_cast, pow_cast, e1, e2, u32_or_nat _ _ h1 h2]; exact w32_nat _ (rorN_lt _ _ (U_lt a))

theorem places_any (n : Int) (w : World) :
    Calls Try.prog 83 #[.int .i32 n] w fun e w' => e = .returned (.int .u32 (K n : Int)) ∧ w = w' := by
  have HK := Lib.hid (K_eq n)
  go_enter Try.func83, Try.ntmps83
  go_wp2
  go_ret
  exact ⟨ret_of HK.out, rfl⟩
theorem lsl_any (a n : Int) (w : World) :
    Calls Try.prog 80 #[.int .i32 a, .int .i32 n] w fun e w' => e = .returned (.int .i32 (lslV a (K n))) ∧ w = w' := by
  have hk := K_lt n
  go_enter Try.func80, Try.ntmps80
  go_wp2_with (go_at_call 83; refine (places_any _ w).mono ?_; rintro e w1 ⟨rfl, rfl⟩)
  go_ret
  exact ⟨rfl, rfl⟩
theorem lsl_any1 (a n : Int) (w : World) :
    Calls Try.prog 68 #[.int .i32 a, .int .i32 n] w fun e w' => e = .returned (.int .i32 (lslV a (K n))) ∧ w = w' := by
  have hk := K_lt n
  have h31 := and31 n
  go_enter Try.func68, Try.ntmps68
  go_wp2
  go_ret
  exact ⟨rfl, rfl⟩
theorem asr_any (a n : Int) (w : World) :
    Calls Try.prog 81 #[.int .i32 a, .int .i32 n] w fun e w' => e = .returned (.int .i32 (a / 2 ^ K n)) ∧ w = w' := by
  have hk := K_lt n
  go_enter Try.func81, Try.ntmps81
  go_wp2_with (go_at_call 83; refine (places_any _ w).mono ?_; rintro e w1 ⟨rfl, rfl⟩)
  go_ret
  exact ⟨rfl, rfl⟩
theorem asr_any1 (a n : Int) (w : World) :
    Calls Try.prog 69 #[.int .i32 a, .int .i32 n] w fun e w' => e = .returned (.int .i32 (a / 2 ^ K n)) ∧ w = w' := by
  have hk := K_lt n
  have h31 := and31 n
  go_enter Try.func69, Try.ntmps69
  go_wp2
  go_ret
  exact ⟨rfl, rfl⟩
theorem ror_any (a n : Int) (w : World) :
    Calls Try.prog 82 #[.int .i32 a, .int .i32 n] w fun e w' => e = .returned (.int .i32 (S (rorN (U a) (K n)))) ∧ w = w' := by
  have hk := K_lt n
  go_enter Try.func82, Try.ntmps82
  go_wp2_with (go_at_call 83; refine (places_any _ w).mono ?_; rintro e w1 ⟨rfl, rfl⟩)
  go_ret
  exact ⟨ret_of (ror_eq _ _), rfl⟩
theorem ror_any1 (a n : Int) (w : World) :
    Calls Try.prog 70 #[.int .i32 a, .int .i32 n] w fun e w' => e = .returned (.int .i32 (S (rorN (U a) (K n)))) ∧ w = w' := by
  have hk := K_lt n
  have h31 := and31 n
  go_enter Try.func70, Try.ntmps70
  go_wp2
  go_ret
  exact ⟨ret_of (ror_eq _ _), rfl⟩

theorem span_eq (a b : Nat) (ha : a < 32) (hb : b < 32) : wrap32 (bits BinOp.and IntKind.u32 (4294967295 * 2 ^ a % 4294967296) (4294967295 / 2 ^ (31 - b))) = S (spanV a b) := by
  have h1 : 4294967295 * 2 ^ a % 4294967296 < 4294967296 := Nat.mod_lt _ (by decide)
  have h2 : 4294967295 / 2 ^ (31 - b) < 4294967296 := Nat.lt_of_le_of_lt (Nat.div_le_self _ _) (by decide)
  have e1 : ((4294967295 : Int) * ((2 ^ a : Nat) : Int) % 4294967296) = ((4294967295 * 2 ^ a % 4294967296 : Nat) : Int) := by omega
  have e2 : ((4294967295 : Int) / ((2 ^ (31 - b) : Nat) : Int)) = ((4294967295 / 2 ^ (31 - b) : Nat) : Int) := rfl
  have h3 : (4294967295 * 2 ^ a % 4294967296) &&& (4294967295 / 2 ^ (31 - b)) = spanV a b := spanN_eq a b ha hb
  rw [pow_cast, pow_cast, e1, e2, u32_and_nat _ _ h1 h2, h3, w32_nat _ (spanV_lt a b hb)]
theorem one_shl (n : Nat) (h : n < 32) : wrap32 (2 ^ n % 4294967296) = S (2 ^ n) := by
  have := pow32 h
  rw [pow_cast]
  obtain ⟨p, hp⟩ : ∃ p, 2 ^ n = p := ⟨_, rfl⟩
  rw [hp] at this ⊢
  rw [show ((p : Int) % 4294967296) = (p : Int) by omega, w32_nat _ (by omega)]
theorem bit_eq (s : Int) (n : Nat) : (bits BinOp.and IntKind.u32 (s % 4294967296 / 2 ^ n) 1 == 1) = (U s).testBit n := by
  have h1 : U s / 2 ^ n < 4294967296 := Nat.lt_of_le_of_lt (Nat.div_le_self _ _) (U_lt s)
  have := u32_and_nat (U s / 2 ^ n) 1 h1 (by decide)
  rw [show ((1 : Nat) : Int) = 1 from rfl] at this
  rw [U_eq, pow_cast, show ((U s : Int) / ((2 ^ n : Nat) : Int)) = ((U s / 2 ^ n : Nat) : Int) from rfl, this, Nat.and_one_is_mod, Nat.testBit_eq_decide_div_mod_eq]
  rcases Nat.mod_two_eq_zero_or_one (U s / 2 ^ n) with h | h <;> simp [h]
theorem bit_eq1 (s : Int) (n : Nat) (h : n < 32) (hs : I32 s) : (bits BinOp.and IntKind.i32 s (S (2 ^ n)) != 0) = (U s).testBit n := by
  have h1 := pow32 h
  conv => lhs; arg 1; arg 3; rw [← S_U s hs]
  rw [and_S _ _ (U_lt s) (by omega)]
  have h2 := S_inj (u := U s &&& 2 ^ n) (v := 0) (Nat.and_lt_two_pow (n := 32) _ (by omega)) (by decide)
  rw [show S 0 = 0 from rfl] at h2
  rw [bne, h2, testBit_and, Bool.not_not]
end Go.Proofs.Ytpnhjjihdcopnaa

