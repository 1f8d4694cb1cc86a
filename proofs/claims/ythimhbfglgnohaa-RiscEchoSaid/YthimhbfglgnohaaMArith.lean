/- arith and the document's own reckoning, as the machines call them. -/
import Derived.Test.YthimhbfglgnohaaProg
import Derived.Test.YthimhbfglgnohaaAMath
import Derived.Lib.Hide
import Derived.Deep.LoopGhost
import Derived.Deep.DeepCutAuto
namespace Go.Proofs.Ythimhbfglgnohaa
open Go.RowKit M

theorem ret_of {k : IntKind} {a b : Int} (h : a = b) : Ending.returned (.int k a) = .returned (.int k b) := by rw [h]
theorem pair_of {a b : Int} {k : Bool} (h : a = b) : Ending.returned (.tuple #[.int .i32 a, .bool k]) = .returned (.tuple #[.int .i32 b, .bool k]) := by rw [h]

theorem div_no (a b : Int) (w : World) (hb : b < 1) :
    Calls Try.prog 72 #[.int .i32 a, .int .i32 b] w fun e w' => e = .returned (.tuple #[.int .i32 0, .bool false]) ∧ w = w' := by
  go_enter Try.func72, Try.ntmps72
  go_wp2
  go_ret2
  exact ⟨rfl, rfl⟩
theorem mod_no (a b : Int) (w : World) (hb : b < 1) :
    Calls Try.prog 73 #[.int .i32 a, .int .i32 b] w fun e w' => e = .returned (.tuple #[.int .i32 0, .bool false]) ∧ w = w' := by
  go_enter Try.func73, Try.ntmps73
  go_wp2
  go_ret2
  exact ⟨rfl, rfl⟩
theorem div_no1 (a b : Int) (w : World) (hb : b < 1) :
    Calls Try.prog 50 #[.int .i32 a, .int .i32 b] w fun e w' => e = .returned (.tuple #[.int .i32 0, .bool false]) ∧ w = w' := by
  go_enter Try.func50, Try.ntmps50
  go_wp2
  go_ret2
  exact ⟨rfl, rfl⟩
theorem mod_no1 (a b : Int) (w : World) (hb : b < 1) :
    Calls Try.prog 51 #[.int .i32 a, .int .i32 b] w fun e w' => e = .returned (.tuple #[.int .i32 0, .bool false]) ∧ w = w' := by
  go_enter Try.func51, Try.ntmps51
  go_wp2
  go_ret2
  exact ⟨rfl, rfl⟩


theorem div_any (a b : Int) (w : World) (ha : I32 a) (hb1 : 1 ≤ b) (hb2 : b ≤ 2147483647) :
    Calls Try.prog 72 #[.int .i32 a, .int .i32 b] w fun e w' => e = .returned (.tuple #[.int .i32 (a / b), .bool true]) ∧ w = w' := by
  have ht := tdiv_i32 a b ha hb1
  have hd := div_i32 a b ha hb1
  have hf := div_facts a b hb1
  have HF := Lib.hid hf
  by_cases h : a.tmod b < 0
  · have h1 := (hf.1 h).1
    rw [← h1] at hd
    unfold I32 at ha hd ht
    clear hf h1
    go_enter Try.func72, Try.ntmps72
    go_wp2
    go_ret2
    exact ⟨pair_of ((HF.out.1 h).1), rfl⟩
  · have h' : 0 ≤ a.tmod b := by omega
    unfold I32 at ha ht
    clear hf hd h
    go_enter Try.func72, Try.ntmps72
    go_wp2
    go_ret2
    exact ⟨pair_of ((HF.out.2 h').1), rfl⟩
theorem div_any1 (a b : Int) (w : World) (ha : I32 a) (hb1 : 1 ≤ b) (hb2 : b ≤ 2147483647) :
    Calls Try.prog 50 #[.int .i32 a, .int .i32 b] w fun e w' => e = .returned (.tuple #[.int .i32 (a / b), .bool true]) ∧ w = w' := by
  have ht := tdiv_i32 a b ha hb1
  have hd := div_i32 a b ha hb1
  have hf := div_facts a b hb1
  have HF := Lib.hid hf
  by_cases h : a.tmod b < 0
  · have h1 := (hf.1 h).1
    rw [← h1] at hd
    unfold I32 at ha hd ht
    clear hf h1
    go_enter Try.func50, Try.ntmps50
    go_wp2
    go_ret2
    exact ⟨pair_of ((HF.out.1 h).1), rfl⟩
  · have h' : 0 ≤ a.tmod b := by omega
    unfold I32 at ha ht
    clear hf hd h
    go_enter Try.func50, Try.ntmps50
    go_wp2
    go_ret2
    exact ⟨pair_of ((HF.out.2 h').1), rfl⟩
theorem mod_any (a b : Int) (w : World) (ha : I32 a) (hb1 : 1 ≤ b) (hb2 : b ≤ 2147483647) :
    Calls Try.prog 73 #[.int .i32 a, .int .i32 b] w fun e w' => e = .returned (.tuple #[.int .i32 (a % b), .bool true]) ∧ w = w' := by
  have hf := div_facts a b hb1
  have hm : a % b < b := Int.emod_lt_of_pos a (by omega)
  have hm0 : 0 ≤ a % b := Int.emod_nonneg a (by omega)
  have HF := Lib.hid hf
  by_cases h : a.tmod b < 0
  · have h1 := (hf.1 h).2
    rw [← h1] at hm hm0
    unfold I32 at ha
    clear hf h1
    go_enter Try.func73, Try.ntmps73
    go_wp2
    go_ret2
    exact ⟨pair_of ((HF.out.1 h).2), rfl⟩
  · have h' : 0 ≤ a.tmod b := by omega
    unfold I32 at ha
    clear hf h hm hm0
    go_enter Try.func73, Try.ntmps73
    go_wp2
    go_ret2
    exact ⟨pair_of ((HF.out.2 h').2), rfl⟩
theorem mod_any1 (a b : Int) (w : World) (ha : I32 a) (hb1 : 1 ≤ b) (hb2 : b ≤ 2147483647) :
    Calls Try.prog 51 #[.int .i32 a, .int .i32 b] w fun e w' => e = .returned (.tuple #[.int .i32 (a % b), .bool true]) ∧ w = w' := by
  have hf := div_facts a b hb1
  have hm : a % b < b := Int.emod_lt_of_pos a (by omega)
  have hm0 : 0 ≤ a % b := Int.emod_nonneg a (by omega)
  have HF := Lib.hid hf
  by_cases h : a.tmod b < 0
  · have h1 := (hf.1 h).2
    rw [← h1] at hm hm0
    unfold I32 at ha
    clear hf h1
    go_enter Try.func51, Try.ntmps51
    go_wp2
    go_ret2
    exact ⟨pair_of ((HF.out.1 h).2), rfl⟩
  · have h' : 0 ≤ a.tmod b := by omega
    have h2 : a.tmod b < b := by rw [(hf.2 h').2]; exact hm
    unfold I32 at ha
    clear hf h hm hm0
    go_enter Try.func51, Try.ntmps51
    go_wp2
    go_ret2
    exact ⟨pair_of ((HF.out.2 h').2), rfl⟩

def K (n : Int) : Nat := U n % 32
theorem K_lt (n : Int) : K n < 32 := Nat.mod_lt _ (by decide)
theorem K_eq (n : Int) : n % 4294967296 % 32 = (K n : Int) := by unfold K U; omega
theorem U_eq (n : Int) : n % 4294967296 = (U n : Int) := by unfold U; omega
theorem and31 (n : Int) : bits .and .u32 (n % 4294967296) 31 = (K n : Int) := by
  have := u32_and_nat (U n) 31 (U_lt n) (by decide)
  rw [U_eq, show (31 : Int) = ((31 : Nat) : Int) from rfl, this, nat_mask5]; rfl

def lslV (a : Int) (k : Nat) : Int := wrap32 (a % 4294967296 * 2 ^ k % 4294967296)
theorem ror_eq (a : Int) (k : Nat) : wrap32 (bits BinOp.or IntKind.u32 (a % 4294967296 / 2 ^ k) (a % 4294967296 * 2 ^ (32 - k) % 4294967296)) = S (rorN (U a) k) := by
  have h1 : U a / 2 ^ k < 4294967296 := Nat.lt_of_le_of_lt (Nat.div_le_self _ _) (U_lt a)
  have h2 : U a * 2 ^ (32 - k) % 4294967296 < 4294967296 := Nat.mod_lt _ (by decide)
  have e1 : ((U a : Int) / ((2 ^ k : Nat) : Int)) = ((U a / 2 ^ k : Nat) : Int) := rfl
  have e2 : ((U a : Int) * ((2 ^ (32 - k) : Nat) : Int) % 4294967296) = ((U a * 2 ^ (32 - k) % 4294967296 : Nat) : Int) := by
    rw [← Int.natCast_mul]; rfl
  rw [U_eq, pow_cast, pow_cast, e1, e2, u32_or_nat _ _ h1 h2]; exact w32_nat _ (rorN_lt _ _ (U_lt a))

theorem places_any (n : Int) (w : World) :
    Calls Try.prog 70 #[.int .i32 n] w fun e w' => e = .returned (.int .u32 (K n : Int)) ∧ w = w' := by
  have HK := Lib.hid (K_eq n)
  go_enter Try.func70, Try.ntmps70
  go_wp2
  go_ret
  exact ⟨ret_of HK.out, rfl⟩
theorem lsl_any (a n : Int) (w : World) :
    Calls Try.prog 63 #[.int .i32 a, .int .i32 n] w fun e w' => e = .returned (.int .i32 (lslV a (K n))) ∧ w = w' := by
  have hk := K_lt n
  go_enter Try.func63, Try.ntmps63
  go_wp2_with (go_at_call 70; refine (places_any _ w).mono ?_; rintro e w1 ⟨rfl, rfl⟩)
  go_ret
  exact ⟨rfl, rfl⟩
theorem lsl_any1 (a n : Int) (w : World) :
    Calls Try.prog 47 #[.int .i32 a, .int .i32 n] w fun e w' => e = .returned (.int .i32 (lslV a (K n))) ∧ w = w' := by
  have hk := K_lt n
  have h31 := and31 n
  go_enter Try.func47, Try.ntmps47
  go_wp2
  go_ret
  exact ⟨rfl, rfl⟩
theorem asr_any (a n : Int) (w : World) :
    Calls Try.prog 64 #[.int .i32 a, .int .i32 n] w fun e w' => e = .returned (.int .i32 (a / 2 ^ K n)) ∧ w = w' := by
  have hk := K_lt n
  go_enter Try.func64, Try.ntmps64
  go_wp2_with (go_at_call 70; refine (places_any _ w).mono ?_; rintro e w1 ⟨rfl, rfl⟩)
  go_ret
  exact ⟨rfl, rfl⟩
theorem asr_any1 (a n : Int) (w : World) :
    Calls Try.prog 48 #[.int .i32 a, .int .i32 n] w fun e w' => e = .returned (.int .i32 (a / 2 ^ K n)) ∧ w = w' := by
  have hk := K_lt n
  have h31 := and31 n
  go_enter Try.func48, Try.ntmps48
  go_wp2
  go_ret
  exact ⟨rfl, rfl⟩
theorem ror_any (a n : Int) (w : World) :
    Calls Try.prog 65 #[.int .i32 a, .int .i32 n] w fun e w' => e = .returned (.int .i32 (S (rorN (U a) (K n)))) ∧ w = w' := by
  have hk := K_lt n
  go_enter Try.func65, Try.ntmps65
  go_wp2_with (go_at_call 70; refine (places_any _ w).mono ?_; rintro e w1 ⟨rfl, rfl⟩)
  go_ret
  exact ⟨ret_of (ror_eq _ _), rfl⟩
theorem ror_any1 (a n : Int) (w : World) :
    Calls Try.prog 49 #[.int .i32 a, .int .i32 n] w fun e w' => e = .returned (.int .i32 (S (rorN (U a) (K n)))) ∧ w = w' := by
  have hk := K_lt n
  have h31 := and31 n
  go_enter Try.func49, Try.ntmps49
  go_wp2
  go_ret
  exact ⟨ret_of (ror_eq _ _), rfl⟩
end Go.Proofs.Ythimhbfglgnohaa
