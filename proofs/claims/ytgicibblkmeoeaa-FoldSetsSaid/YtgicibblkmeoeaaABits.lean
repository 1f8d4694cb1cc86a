/- arith and the document's own reckoning: bits. -/
import Derived.Test.YtgicibblkmeoeaaACalls
set_option linter.unusedSimpArgs false
set_option linter.unusedVariables false
namespace Go.Proofs.Ytgicibblkmeoeaa
open Go.RowKit M

def K (n : Int) : Nat := U n % 32
theorem K_lt (n : Int) : K n < 32 := Nat.mod_lt _ (by decide)
theorem K_eq (n : Int) : n % 4294967296 % 32 = (K n : Int) := by unfold K U; omega
theorem U_eq (n : Int) : n % 4294967296 = (U n : Int) := by unfold U; omega
theorem and31 (n : Int) : bits .and .u32 (n % 4294967296) 31 = (K n : Int) := by
  have := u32_and_nat (U n) 31 (U_lt n) (by decide)
  rw [U_eq, show (31 : Int) = ((31 : Nat) : Int) from rfl, this, nat_mask5]; rfl

def lslV (a : Int) (k : Nat) : Int := wrap32 (a % 4294967296 * 2 ^ k % 4294967296)
theorem ror_eq (a : Int) (k : Nat) : wrap32 (bits BinOp.or IntKind.u32 (a % 4294967296 / 2 ^ k) (a % 4294967296 * 2 ^ (32 - k) % 4294967296)) = S (rorN (U a) k) := by
  have h1 : U a / 2 ^ k < 4294967296 := Nat.lt_of_le_of_lt (Nat.div_le_self _ _) (U_lt a)
  have h2 : U a * 2 ^ (32 - k) % 4294967296 < 4294967296 := Nat.mod_lt _ (by decide)
  have e1 : ((U a : Int) / ((2 ^ k : Nat) : Int)) = ((U a / 2 ^ k : Nat) : Int) := rfl
  have e2 : ((U a : Int) * ((2 ^ (32 - k) : Nat) : Int) % 4294967296) = ((U a * 2 ^ (32 - k) % 4294967296 : Nat) : Int) := by
    rw [← Int.natCast_mul]; rfl
  rw [U_eq, pow_cast, pow_cast, e1, e2, u32_or_nat _ _ h1 h2]; exact w32_nat _ (rorN_lt _ _ (U_lt a))

theorem places_any (n : Int) (w : World) :
    Calls Try.prog 169 #[.int .i32 n] w fun e w' => e = .returned (.int .u32 (K n : Int)) ∧ w = w' := by
  have HK := Lib.hid (K_eq n)
  go_enter Try.func169, Try.ntmps169
  go_wp2
  go_ret
  exact ⟨ret_of HK.out, rfl⟩
theorem lsl_any (a n : Int) (w : World) :
    Calls Try.prog 149 #[.int .i32 a, .int .i32 n] w fun e w' => e = .returned (.int .i32 (lslV a (K n))) ∧ w = w' := by
  have hk := K_lt n
  go_enter Try.func149, Try.ntmps149
  go_wp2_with (go_at_call 169; refine (places_any _ w).mono ?_; rintro e w1 ⟨rfl, rfl⟩)
  go_ret
  exact ⟨rfl, rfl⟩
theorem lsl_any1 (a n : Int) (w : World) :
    Calls Try.prog 158 #[.int .i32 a, .int .i32 n] w fun e w' => e = .returned (.int .i32 (lslV a (K n))) ∧ w = w' := by
  have hk := K_lt n
  have h31 := and31 n
  go_enter Try.func158, Try.ntmps158
  go_wp2
  go_ret
  exact ⟨rfl, rfl⟩
theorem asr_any (a n : Int) (w : World) :
    Calls Try.prog 150 #[.int .i32 a, .int .i32 n] w fun e w' => e = .returned (.int .i32 (a / 2 ^ K n)) ∧ w = w' := by
  have hk := K_lt n
  go_enter Try.func150, Try.ntmps150
  go_wp2_with (go_at_call 169; refine (places_any _ w).mono ?_; rintro e w1 ⟨rfl, rfl⟩)
  go_ret
  exact ⟨rfl, rfl⟩
theorem asr_any1 (a n : Int) (w : World) :
    Calls Try.prog 159 #[.int .i32 a, .int .i32 n] w fun e w' => e = .returned (.int .i32 (a / 2 ^ K n)) ∧ w = w' := by
  have hk := K_lt n
  have h31 := and31 n
  go_enter Try.func159, Try.ntmps159
  go_wp2
  go_ret
  exact ⟨rfl, rfl⟩
theorem ror_any (a n : Int) (w : World) :
    Calls Try.prog 151 #[.int .i32 a, .int .i32 n] w fun e w' => e = .returned (.int .i32 (S (rorN (U a) (K n)))) ∧ w = w' := by
  have hk := K_lt n
  go_enter Try.func151, Try.ntmps151
  go_wp2_with (go_at_call 169; refine (places_any _ w).mono ?_; rintro e w1 ⟨rfl, rfl⟩)
  go_ret
  exact ⟨ret_of (ror_eq _ _), rfl⟩
theorem ror_any1 (a n : Int) (w : World) :
    Calls Try.prog 160 #[.int .i32 a, .int .i32 n] w fun e w' => e = .returned (.int .i32 (S (rorN (U a) (K n)))) ∧ w = w' := by
  have hk := K_lt n
  have h31 := and31 n
  go_enter Try.func160, Try.ntmps160
  go_wp2
  go_ret
  exact ⟨ret_of (ror_eq _ _), rfl⟩

theorem span_eq (a b : Nat) (ha : a < 32) (hb : b < 32) : wrap32 (bits BinOp.and IntKind.u32 (4294967295 * 2 ^ a % 4294967296) (4294967295 / 2 ^ (31 - b))) = S (spanV a b) := by
  have h1 : 4294967295 * 2 ^ a % 4294967296 < 4294967296 := Nat.mod_lt _ (by decide)
  have h2 : 4294967295 / 2 ^ (31 - b) < 4294967296 := Nat.lt_of_le_of_lt (Nat.div_le_self _ _) (by decide)
  have e1 : ((4294967295 : Int) * ((2 ^ a : Nat) : Int) % 4294967296) = ((4294967295 * 2 ^ a % 4294967296 : Nat) : Int) := by omega
  have e2 : ((4294967295 : Int) / ((2 ^ (31 - b) : Nat) : Int)) = ((4294967295 / 2 ^ (31 - b) : Nat) : Int) := rfl
  have h3 : (4294967295 * 2 ^ a % 4294967296) &&& (4294967295 / 2 ^ (31 - b)) = spanV a b := spanN_eq a b ha hb
  rw [pow_cast, pow_cast, e1, e2, u32_and_nat _ _ h1 h2, h3, w32_nat _ (spanV_lt a b hb)]
theorem span_any (a b : Nat) (w : World) (ha : a < 32) (hb : b < 32) :
    Calls Try.prog 142 #[.int .i32 a, .int .i32 b] w fun e w' => e = .returned (.tuple #[.int .i32 (S (spanV a b)), .bool true]) ∧ w = w' := by
  have hd : decide ((b : Int) < 32) = true := by simp; omega
  go_enter Try.func142, Try.ntmps142
  go_wp2
  go_ret2
  exact ⟨pair_of (span_eq a b ha hb), rfl⟩
theorem span_no (a b : Int) (w : World) (h : ¬ (0 ≤ a ∧ a < 32 ∧ 0 ≤ b ∧ b < 32)) :
    Calls Try.prog 142 #[.int .i32 a, .int .i32 b] w fun e w' => e = .returned (.tuple #[.int .i32 0, .bool false]) ∧ w = w' := by
  have hc : a < 0 ∨ (0 ≤ a ∧ decide (a < 32) = false) ∨ (0 ≤ a ∧ decide (a < 32) = true ∧ b < 0) ∨ (0 ≤ a ∧ decide (a < 32) = true ∧ 0 ≤ b ∧ decide (b < 32) = false) := by simp; omega
  clear h
  rcases hc with h | ⟨h1, h2⟩ | ⟨h1, h2, h3⟩ | ⟨h1, h2, h3, h4⟩
  all_goals
    go_enter Try.func142, Try.ntmps142
    go_wp2
    go_ret2
    exact ⟨rfl, rfl⟩
theorem one_shl (n : Nat) (h : n < 32) : wrap32 (2 ^ n % 4294967296) = S (2 ^ n) := by
  have := pow32 h
  rw [pow_cast]
  obtain ⟨p, hp⟩ : ∃ p, 2 ^ n = p := ⟨_, rfl⟩
  rw [hp] at this ⊢
  rw [show ((p : Int) % 4294967296) = (p : Int) by omega, w32_nat _ (by omega)]
theorem bit_eq (s : Int) (n : Nat) : (bits BinOp.and IntKind.u32 (s % 4294967296 / 2 ^ n) 1 == 1) = (U s).testBit n := by
  have h1 : U s / 2 ^ n < 4294967296 := Nat.lt_of_le_of_lt (Nat.div_le_self _ _) (U_lt s)
  have := u32_and_nat (U s / 2 ^ n) 1 h1 (by decide)
  rw [show ((1 : Nat) : Int) = 1 from rfl] at this
  rw [U_eq, pow_cast, show ((U s : Int) / ((2 ^ n : Nat) : Int)) = ((U s / 2 ^ n : Nat) : Int) from rfl, this, Nat.and_one_is_mod, Nat.testBit_eq_decide_div_mod_eq]
  rcases Nat.mod_two_eq_zero_or_one (U s / 2 ^ n) with h | h <;> simp [h]
theorem bit_eq1 (s : Int) (n : Nat) (h : n < 32) (hs : I32 s) : (bits BinOp.and IntKind.i32 s (S (2 ^ n)) != 0) = (U s).testBit n := by
  have h1 := pow32 h
  conv => lhs; arg 1; arg 3; rw [← S_U s hs]
  rw [and_S _ _ (U_lt s) (by omega)]
  have h2 := S_inj (u := U s &&& 2 ^ n) (v := 0) (Nat.and_lt_two_pow (n := 32) _ (by omega)) (by decide)
  rw [show S 0 = 0 from rfl] at h2
  rw [bne, h2, testBit_and, Bool.not_not]
theorem bit_any1 (n : Nat) (w : World) (h : n < 32) :
    Calls Try.prog 153 #[.int .i32 n] w fun e w' => e = .returned (.tuple #[.int .i32 (S (2 ^ n)), .bool true]) ∧ w = w' := by
  go_enter Try.func153, Try.ntmps153
  go_wp2
  go_ret2
  exact ⟨pair_of (one_shl n h), rfl⟩
theorem bit_no1 (n : Int) (w : World) (h : ¬ (0 ≤ n ∧ n < 32)) :
    Calls Try.prog 153 #[.int .i32 n] w fun e w' => e = .returned (.tuple #[.int .i32 0, .bool false]) ∧ w = w' := by
  have hc : n < 0 ∨ (0 ≤ n ∧ 32 ≤ n) := by omega
  clear h
  rcases hc with h | ⟨h1, h2⟩
  all_goals
    go_enter Try.func153, Try.ntmps153
    go_wp2
    go_ret2
    exact ⟨rfl, rfl⟩
theorem has_any (n : Nat) (s : Int) (w : World) (h : n < 32) :
    Calls Try.prog 170 #[.int .i32 n, .int .i32 s] w fun e w' => e = .returned (.bool ((U s).testBit n)) ∧ w = w' := by
  have HB := Lib.hid (bit_eq s n)
  go_enter Try.func170, Try.ntmps170
  go_wp2
  go_ret
  exact ⟨by rw [← HB.out]; rfl, rfl⟩
theorem has_no (n s : Int) (w : World) (h : ¬ (0 ≤ n ∧ n < 32)) :
    Calls Try.prog 170 #[.int .i32 n, .int .i32 s] w fun e w' => e = .returned (.bool false) ∧ w = w' := by
  have hc : n < 0 ∨ (0 ≤ n ∧ 32 ≤ n) := by omega
  clear h
  rcases hc with h | ⟨h1, h2⟩
  all_goals
    go_enter Try.func170, Try.ntmps170
    go_wp2
    go_ret
    exact ⟨rfl, rfl⟩
theorem has_any1 (n : Nat) (s : Int) (w : World) (h : n < 32) (hs : I32 s) :
    Calls Try.prog 157 #[.int .i32 n, .int .i32 s] w fun e w' => e = .returned (.bool ((U s).testBit n)) ∧ w = w' := by
  have hb := bit_any1 n w h
  have HB := Lib.hid (bit_eq1 s n h hs)
  clear hs
  go_enter Try.func157, Try.ntmps157
  go_wp2_with (go_at_call 153; refine hb.mono ?_; rintro e w1 ⟨rfl, rfl⟩)
  go_ret
  exact ⟨by rw [← HB.out]; rfl, rfl⟩
theorem has_no1 (n s : Int) (w : World) (h : ¬ (0 ≤ n ∧ n < 32)) :
    Calls Try.prog 157 #[.int .i32 n, .int .i32 s] w fun e w' => e = .returned (.bool false) ∧ w = w' := by
  have hb := bit_no1 n w h
  go_enter Try.func157, Try.ntmps157
  go_wp2_with (go_at_call 153; refine hb.mono ?_; rintro e w1 ⟨rfl, rfl⟩)
  go_ret
  exact ⟨rfl, rfl⟩
end Go.Proofs.Ytgicibblkmeoeaa
