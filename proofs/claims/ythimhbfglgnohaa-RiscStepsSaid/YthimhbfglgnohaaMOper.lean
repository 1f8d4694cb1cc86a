/- arith and the document's own reckoning, as the machines call them. -/
import Derived.Test.YthimhbfglgnohaaProg
import Derived.Test.YthimhbfglgnohaaAMath
import Derived.Lib.Hide
import Derived.Deep.LoopGhost
import Derived.Deep.DeepCutAuto
import Derived.Test.YthimhbfglgnohaaMSmall
set_option linter.unusedSimpArgs false
set_option linter.unusedVariables false
namespace Go.Proofs.Ythimhbfglgnohaa
open Go.RowKit M

theorem pair_of {a b : Int} {k : Bool} (h : a = b) : Ending.returned (.tuple #[.int .i32 a, .bool k]) = .returned (.tuple #[.int .i32 b, .bool k]) := by rw [h]

theorem div_no (a b : Int) (w : World) (hb : b < 1) :
    Calls Try.prog 72 #[.int .i32 a, .int .i32 b] w fun e w' => e = .returned (.tuple #[.int .i32 0, .bool false]) ∧ w = w' := by
  go_enter Try.func72, Try.ntmps72
  go_wp2
  go_ret2
  exact ⟨rfl, rfl⟩
theorem mod_no (a b : Int) (w : World) (hb : b < 1) :
    Calls Try.prog 73 #[.int .i32 a, .int .i32 b] w fun e w' => e = .returned (.tuple #[.int .i32 0, .bool false]) ∧ w = w' := by
  go_enter Try.func73, Try.ntmps73
  go_wp2
  go_ret2
  exact ⟨rfl, rfl⟩
theorem div_no1 (a b : Int) (w : World) (hb : b < 1) :
    Calls Try.prog 50 #[.int .i32 a, .int .i32 b] w fun e w' => e = .returned (.tuple #[.int .i32 0, .bool false]) ∧ w = w' := by
  go_enter Try.func50, Try.ntmps50
  go_wp2
  go_ret2
  exact ⟨rfl, rfl⟩
theorem mod_no1 (a b : Int) (w : World) (hb : b < 1) :
    Calls Try.prog 51 #[.int .i32 a, .int .i32 b] w fun e w' => e = .returned (.tuple #[.int .i32 0, .bool false]) ∧ w = w' := by
  go_enter Try.func51, Try.ntmps51
  go_wp2
  go_ret2
  exact ⟨rfl, rfl⟩


theorem div_any (a b : Int) (w : World) (ha : I32 a) (hb1 : 1 ≤ b) (hb2 : b ≤ 2147483647) :
    Calls Try.prog 72 #[.int .i32 a, .int .i32 b] w fun e w' => e = .returned (.tuple #[.int .i32 (a / b), .bool true]) ∧ w = w' := by
  have ht := tdiv_i32 a b ha hb1
  have hd := div_i32 a b ha hb1
  have hf := div_facts a b hb1
  have HF := Lib.hid hf
  by_cases h : a.tmod b < 0
  · have h1 := (hf.1 h).1
    rw [← h1] at hd
    unfold I32 at ha hd ht
    clear hf h1
    go_enter Try.func72, Try.ntmps72
    go_wp2
    go_ret2
    exact ⟨pair_of ((HF.out.1 h).1), rfl⟩
  · have h' : 0 ≤ a.tmod b := by omega
    unfold I32 at ha ht
    clear hf hd h
    go_enter Try.func72, Try.ntmps72
    go_wp2
    go_ret2
    exact ⟨pair_of ((HF.out.2 h').1), rfl⟩
theorem div_any1 (a b : Int) (w : World) (ha : I32 a) (hb1 : 1 ≤ b) (hb2 : b ≤ 2147483647) :
    Calls Try.prog 50 #[.int .i32 a, .int .i32 b] w fun e w' => e = .returned (.tuple #[.int .i32 (a / b), .bool true]) ∧ w = w' := by
  have ht := tdiv_i32 a b ha hb1
  have hd := div_i32 a b ha hb1
  have hf := div_facts a b hb1
  have HF := Lib.hid hf
  by_cases h : a.tmod b < 0
  · have h1 := (hf.1 h).1
    rw [← h1] at hd
    unfold I32 at ha hd ht
    clear hf h1
    go_enter Try.func50, Try.ntmps50
    go_wp2
    go_ret2
    exact ⟨pair_of ((HF.out.1 h).1), rfl⟩
  · have h' : 0 ≤ a.tmod b := by omega
    unfold I32 at ha ht
    clear hf hd h
    go_enter Try.func50, Try.ntmps50
    go_wp2
    go_ret2
    exact ⟨pair_of ((HF.out.2 h').1), rfl⟩
theorem mod_any (a b : Int) (w : World) (ha : I32 a) (hb1 : 1 ≤ b) (hb2 : b ≤ 2147483647) :
    Calls Try.prog 73 #[.int .i32 a, .int .i32 b] w fun e w' => e = .returned (.tuple #[.int .i32 (a % b), .bool true]) ∧ w = w' := by
  have hf := div_facts a b hb1
  have hm : a % b < b := Int.emod_lt_of_pos a (by omega)
  have hm0 : 0 ≤ a % b := Int.emod_nonneg a (by omega)
  have HF := Lib.hid hf
  by_cases h : a.tmod b < 0
  · have h1 := (hf.1 h).2
    rw [← h1] at hm hm0
    unfold I32 at ha
    clear hf h1
    go_enter Try.func73, Try.ntmps73
    go_wp2
    go_ret2
    exact ⟨pair_of ((HF.out.1 h).2), rfl⟩
  · have h' : 0 ≤ a.tmod b := by omega
    unfold I32 at ha
    clear hf h hm hm0
    go_enter Try.func73, Try.ntmps73
    go_wp2
    go_ret2
    exact ⟨pair_of ((HF.out.2 h').2), rfl⟩
theorem mod_any1 (a b : Int) (w : World) (ha : I32 a) (hb1 : 1 ≤ b) (hb2 : b ≤ 2147483647) :
    Calls Try.prog 51 #[.int .i32 a, .int .i32 b] w fun e w' => e = .returned (.tuple #[.int .i32 (a % b), .bool true]) ∧ w = w' := by
  have hf := div_facts a b hb1
  have hm : a % b < b := Int.emod_lt_of_pos a (by omega)
  have hm0 : 0 ≤ a % b := Int.emod_nonneg a (by omega)
  have HF := Lib.hid hf
  by_cases h : a.tmod b < 0
  · have h1 := (hf.1 h).2
    rw [← h1] at hm hm0
    unfold I32 at ha
    clear hf h1
    go_enter Try.func51, Try.ntmps51
    go_wp2
    go_ret2
    exact ⟨pair_of ((HF.out.1 h).2), rfl⟩
  · have h' : 0 ≤ a.tmod b := by omega
    have h2 : a.tmod b < b := by rw [(hf.2 h').2]; exact hm
    unfold I32 at ha
    clear hf h hm hm0
    go_enter Try.func51, Try.ntmps51
    go_wp2
    go_ret2
    exact ⟨pair_of ((HF.out.2 h').2), rfl⟩

def K (n : Int) : Nat := U n % 32
theorem K_lt (n : Int) : K n < 32 := Nat.mod_lt _ (by decide)
theorem K_eq (n : Int) : n % 4294967296 % 32 = (K n : Int) := by unfold K U; omega
theorem U_eq (n : Int) : n % 4294967296 = (U n : Int) := by unfold U; omega
theorem and31 (n : Int) : bits .and .u32 (n % 4294967296) 31 = (K n : Int) := by
  have := u32_and_nat (U n) 31 (U_lt n) (by decide)
  rw [U_eq, show (31 : Int) = ((31 : Nat) : Int) from rfl, this, nat_mask5]; rfl

def lslV (a : Int) (k : Nat) : Int := wrap32 (a % 4294967296 * 2 ^ k % 4294967296)
theorem ror_eq (a : Int) (k : Nat) : wrap32 (bits BinOp.or IntKind.u32 (a % 4294967296 / 2 ^ k) (a % 4294967296 * 2 ^ (32 - k) % 4294967296)) = S (rorN (U a) k) := by
  have h1 : U a / 2 ^ k < 4294967296 := Nat.lt_of_le_of_lt (Nat.div_le_self _ _) (U_lt a)
  have h2 : U a * 2 ^ (32 - k) % 4294967296 < 4294967296 := Nat.mod_lt _ (by decide)
  have e1 : ((U a : Int) / ((2 ^ k : Nat) : Int)) = ((U a / 2 ^ k : Nat) : Int) := rfl
  have e2 : ((U a : Int) * ((2 ^ (32 - k) : Nat) : Int) % 4294967296) = ((U a * 2 ^ (32 - k) % 4294967296 : Nat) : Int) := by
    rw [← Int.natCast_mul]; rfl
  rw [U_eq, pow_cast, pow_cast, e1, e2, u32_or_nat _ _ h1 h2]; exact w32_nat _ (rorN_lt _ _ (U_lt a))

theorem places_any (n : Int) (w : World) :
    Calls Try.prog 70 #[.int .i32 n] w fun e w' => e = .returned (.int .u32 (K n : Int)) ∧ w = w' := by
  have HK := Lib.hid (K_eq n)
  go_enter Try.func70, Try.ntmps70
  go_wp2
  go_ret
  exact ⟨ret_of HK.out, rfl⟩
theorem lsl_any (a n : Int) (w : World) :
    Calls Try.prog 63 #[.int .i32 a, .int .i32 n] w fun e w' => e = .returned (.int .i32 (lslV a (K n))) ∧ w = w' := by
  have hk := K_lt n
  go_enter Try.func63, Try.ntmps63
  go_wp2_with (go_at_call 70; refine (places_any _ w).mono ?_; rintro e w1 ⟨rfl, rfl⟩)
  go_ret
  exact ⟨rfl, rfl⟩
theorem lsl_any1 (a n : Int) (w : World) :
    Calls Try.prog 47 #[.int .i32 a, .int .i32 n] w fun e w' => e = .returned (.int .i32 (lslV a (K n))) ∧ w = w' := by
  have hk := K_lt n
  have h31 := and31 n
  go_enter Try.func47, Try.ntmps47
  go_wp2
  go_ret
  exact ⟨rfl, rfl⟩
theorem asr_any (a n : Int) (w : World) :
    Calls Try.prog 64 #[.int .i32 a, .int .i32 n] w fun e w' => e = .returned (.int .i32 (a / 2 ^ K n)) ∧ w = w' := by
  have hk := K_lt n
  go_enter Try.func64, Try.ntmps64
  go_wp2_with (go_at_call 70; refine (places_any _ w).mono ?_; rintro e w1 ⟨rfl, rfl⟩)
  go_ret
  exact ⟨rfl, rfl⟩
theorem asr_any1 (a n : Int) (w : World) :
    Calls Try.prog 48 #[.int .i32 a, .int .i32 n] w fun e w' => e = .returned (.int .i32 (a / 2 ^ K n)) ∧ w = w' := by
  have hk := K_lt n
  have h31 := and31 n
  go_enter Try.func48, Try.ntmps48
  go_wp2
  go_ret
  exact ⟨rfl, rfl⟩
theorem ror_any (a n : Int) (w : World) :
    Calls Try.prog 65 #[.int .i32 a, .int .i32 n] w fun e w' => e = .returned (.int .i32 (S (rorN (U a) (K n)))) ∧ w = w' := by
  have hk := K_lt n
  go_enter Try.func65, Try.ntmps65
  go_wp2_with (go_at_call 70; refine (places_any _ w).mono ?_; rintro e w1 ⟨rfl, rfl⟩)
  go_ret
  exact ⟨ret_of (ror_eq _ _), rfl⟩
theorem ror_any1 (a n : Int) (w : World) :
    Calls Try.prog 49 #[.int .i32 a, .int .i32 n] w fun e w' => e = .returned (.int .i32 (S (rorN (U a) (K n)))) ∧ w = w' := by
  have hk := K_lt n
  have h31 := and31 n
  go_enter Try.func49, Try.ntmps49
  go_wp2
  go_ret
  exact ⟨ret_of (ror_eq _ _), rfl⟩
end Go.Proofs.Ythimhbfglgnohaa

/- The machine's product, quotient, operand; conditions; places. -/
namespace Go.Proofs.Ythimhbfglgnohaa
open Go.RowKit M

theorem mul_u (b n : Nat) (hb : b < 4294967296) (hn : n < 4294967296) : b * n < 18446744073709551616 := by
  have := Nat.mul_le_mul (show b ≤ 4294967295 by omega) (show n ≤ 4294967295 by omega)
  omega
theorem mul_s (B N : Int) (hb : I32 B) (hn : I32 N) : -4611686018427387904 ≤ B * N ∧ B * N ≤ 4611686018427387904 := by
  unfold I32 at hb hn
  have h : ∀ x y : Int, 0 ≤ x → x ≤ 2147483648 → 0 ≤ y → y ≤ 2147483648 → 0 ≤ x * y ∧ x * y ≤ 4611686018427387904 := fun x y hx1 hx2 hy1 hy2 => by
    have h1 := Int.mul_nonneg hx1 hy1
    have h2 := Int.mul_le_mul hx2 hy2 hy1 (by decide)
    omega
  rcases Int.le_total 0 B with h1 | h1 <;> rcases Int.le_total 0 N with h2 | h2
  · have := h B N h1 (by omega) h2 (by omega); omega
  · have := h B (-N) h1 (by omega) (by omega) (by omega); rw [Int.mul_neg] at this; omega
  · have := h (-B) N (by omega) (by omega) h2 (by omega); rw [Int.neg_mul] at this; omega
  · have := h (-B) (-N) (by omega) (by omega) (by omega) (by omega); rw [Int.neg_mul_neg] at this; omega

set_option maxHeartbeats 800000 in
theorem product_u (mb b n : Nat) (cv wv iv ov : Value) (s : St) (w : World) (hB : Blk w mb (icells cv wv iv ov s) 65) (hb : b < 4294967296) (hn : n < 4294967296) :
    Calls Try.prog 68 #[.pointer (some ⟨mb, 0, none⟩), .int .u32 b, .int .u32 n, .bool true] w fun e w' => e = .returned (.int .u32 (b * n % 4294967296 : Nat)) ∧
      Blk w' mb (icells cv wv iv ov { s with H := b * n / 4294967296 }) 65 ∧ Only (One mb) w w' := by
  have c20 : w.cell? ⟨mb, 20, none⟩ = some (.int .u32 s.H) := hB.cell 20
  have f20 := hB.free 20
  obtain ⟨p, hp⟩ : ∃ p, b * n = p := ⟨_, rfl⟩
  have hp1 : p < 18446744073709551616 := by rw [← hp]; exact mul_u b n hb hn
  have hp2 : (b : Int) * (n : Int) = (p : Int) := by rw [← hp]; rfl
  have h1 := hB.setCell 20 (.int .u32 (p / 4294967296 : Nat))
  rw [icells_H] at h1
  rw [hp]
  have H1 := Lib.hid h1
  clear h1 hp
  go_enter Try.func68, Try.ntmps68
  go_wp2_with fail
  go_ret
  have e1 : (p : Int) / 4294967296 % 4294967296 = ((p / 4294967296 : Nat) : Int) := by omega
  have e2 : (p : Int) / 4294967296 = ((p / 4294967296 : Nat) : Int) := by omega
  refine ⟨rfl, ?_, by (repeat with_reducible first | exact Only.refl _ _ | refine Only.alloc ?_ _ | refine Only.drewN ?_ _ | refine Only.drew ?_ | refine Only.setOne ?_ _ _)⟩
  first | exact H1.out | (rw [e1]; exact H1.out) | (rw [e2]; exact H1.out)

set_option maxHeartbeats 800000 in
theorem product_s (mb b n : Nat) (cv wv iv ov : Value) (s : St) (w : World) (hB : Blk w mb (icells cv wv iv ov s) 65) (hb : b < 4294967296) (hn : n < 4294967296) :
    Calls Try.prog 68 #[.pointer (some ⟨mb, 0, none⟩), .int .u32 b, .int .u32 n, .bool false] w fun e w' => e = .returned (.int .u32 (U (S b * S n) : Nat)) ∧
      Blk w' mb (icells cv wv iv ov { s with H := U (S b * S n / 4294967296) }) 65 ∧ Only (One mb) w w' := by
  have c20 : w.cell? ⟨mb, 20, none⟩ = some (.int .u32 s.H) := hB.cell 20
  have f20 := hB.free 20
  have hb1 := S_i32 b hb
  have hn1 := S_i32 n hn
  have hq1 := mul_s _ _ hb1 hn1
  unfold I32 at hb1 hn1
  have eb := w32_nat b hb
  have en := w32_nat n hn
  obtain ⟨B, hB'⟩ : ∃ B, S b = B := ⟨_, rfl⟩
  obtain ⟨N, hN'⟩ : ∃ N, S n = N := ⟨_, rfl⟩
  rw [hB'] at hb1 eb hq1 ⊢
  rw [hN'] at hn1 en hq1 ⊢
  obtain ⟨q, hq⟩ : ∃ q, B * N = q := ⟨_, rfl⟩
  rw [hq] at hq1 ⊢
  have h1 := hB.setCell 20 (.int .u32 (U (q / 4294967296)))
  rw [icells_H] at h1
  have H1 := Lib.hid h1
  clear h1 hB' hN'
  go_enter Try.func68, Try.ntmps68
  go_wp2_with fail
  go_ret
  have e1 : IntKind.u64.wrap q / 4294967296 % 4294967296 = ((U (q / 4294967296) : Nat) : Int) := by rw [IntKind.wrap_u64]; unfold U; omega
  have e2 : IntKind.u64.wrap q % 4294967296 = ((U q : Nat) : Int) := by rw [IntKind.wrap_u64]; unfold U; omega
  refine ⟨?_, ?_, by (repeat with_reducible first | exact Only.refl _ _ | refine Only.alloc ?_ _ | refine Only.drewN ?_ _ | refine Only.drew ?_ | refine Only.setOne ?_ _ _)⟩
  · exact congrArg (fun x => Ending.returned (.int .u32 x)) e2
  · rw [e1]; exact H1.out
end Go.Proofs.Ythimhbfglgnohaa

/- The machine's quotient, operand; conditions; places. -/
namespace Go.Proofs.Ythimhbfglgnohaa
open Go.RowKit M

set_option maxHeartbeats 800000 in
theorem quotient_no (mb b n : Nat) (w : World) (hb : b < 4294967296) (hn : n < 4294967296) (h : S n < 1) :
    Calls Try.prog 69 #[.pointer (some ⟨mb, 0, none⟩), .int .u32 b, .int .u32 n] w fun e w' => e = .returned (.tuple #[.int .u32 0, .bool false]) ∧ w = w' := by
  have eb := w32_nat b hb
  have en := w32_nat n hn
  have c1 := fun w => div_no (S b) (S n) w h
  obtain ⟨B, hB'⟩ : ∃ B, S b = B := ⟨_, rfl⟩
  obtain ⟨N, hN'⟩ : ∃ N, S n = N := ⟨_, rfl⟩
  rw [hB'] at eb c1
  rw [hN'] at en c1
  clear hB' hN' h
  go_enter Try.func69, Try.ntmps69
  go_wp2_with fail
  refine (c1 _).mono ?_
  rintro e w1 ⟨rfl, rfl⟩
  go_wp2_with fail
  go_ret2
  exact ⟨rfl, rfl⟩

set_option maxHeartbeats 800000 in
theorem quotient_any (mb b n : Nat) (cv wv iv ov : Value) (s : St) (w : World) (hB : Blk w mb (icells cv wv iv ov s) 65) (hb : b < 4294967296) (hn : n < 4294967296) (h : 1 ≤ S n) :
    Calls Try.prog 69 #[.pointer (some ⟨mb, 0, none⟩), .int .u32 b, .int .u32 n] w fun e w' => e = .returned (.tuple #[.int .u32 (U (S b / S n) : Nat), .bool true]) ∧
      Blk w' mb (icells cv wv iv ov { s with H := U (S b % S n) }) 65 ∧ Only (One mb) w w' := by
  have c20 : w.cell? ⟨mb, 20, none⟩ = some (.int .u32 s.H) := hB.cell 20
  have f20 := hB.free 20
  have hb1 := S_i32 b hb
  have hn1 := S_i32 n hn
  have eb := w32_nat b hb
  have en := w32_nat n hn
  have c1 := fun w => div_any (S b) (S n) w hb1 h hn1.2
  have c2 := fun w => mod_any (S b) (S n) w hb1 h hn1.2
  have h1 := hB.setCell 20 (.int .u32 (U (S b % S n)))
  rw [icells_H] at h1
  have H1 := Lib.hid h1
  obtain ⟨q, hq⟩ : ∃ q, S b / S n = q := ⟨_, rfl⟩
  obtain ⟨r, hr⟩ : ∃ r, S b % S n = r := ⟨_, rfl⟩
  rw [hq] at c1 ⊢
  rw [hr] at c2 H1 ⊢
  obtain ⟨B, hB'⟩ : ∃ B, S b = B := ⟨_, rfl⟩
  obtain ⟨N, hN'⟩ : ∃ N, S n = N := ⟨_, rfl⟩
  rw [hB'] at eb c1 c2
  rw [hN'] at en c1 c2
  have eq : q % 4294967296 = ((U q : Nat) : Int) := by unfold U; omega
  have er : r % 4294967296 = ((U r : Nat) : Int) := by unfold U; omega
  clear hB' hN' h h1 hq hr hb1 hn1
  go_enter Try.func69, Try.ntmps69
  go_wp2_with fail
  refine (c1 _).mono ?_
  rintro e w1 ⟨rfl, rfl⟩
  go_wp2_with fail
  refine (c2 _).mono ?_
  rintro e w1 ⟨rfl, rfl⟩
  go_wp2_with fail
  go_ret2
  refine ⟨?_, ?_, ?_⟩
  · rw [eq]; rfl
  · first | exact H1.out | (rw [er]; exact H1.out)
  · (repeat with_reducible first | exact Only.refl _ _ | refine Only.alloc ?_ _ | refine Only.drewN ?_ _ | refine Only.drew ?_ | refine Only.setOne ?_ _ _)

def ic (F : Int) (u v : Bool) (a b c : Nat) (o : Nat) (m : Int) : Value := .agg #[.int .i64 F, .bool u, .bool v, .int .i64 a, .int .i64 b, .int .i64 c, .int .i64 o, .int .i32 m]

set_option maxHeartbeats 800000 in
theorem operand_0 (mb : Nat) (u v : Bool) (a b c o : Nat) (m : Int) (cv wv iv ov : Value) (s : St) (w : World) (hB : Blk w mb (icells cv wv iv ov s) 65) (hc : c < 16) :
    Calls Try.prog 61 #[.pointer (some ⟨mb, 0, none⟩), ic 0 u v a b c o m] w fun e w' => e = .returned (.int .u32 (s.R c)) ∧ Only Nil w w' := by
  have cR := (hB.cell (4 + c)).trans (icells_reg cv wv iv ov s hc)
  have hlt := hB.lt
  have c0 : (0 : Int) ≤ (c : Int) := Int.natCast_nonneg _
  have c1 : (c : Int) < 16 := by omega
  unfold ic
  go_enter Try.func61, Try.ntmps61
  go_wp2_with fail
  go_quiet (fail)
  go_wp2_with fail
  go_ret
  exact ⟨rfl, by (repeat with_reducible first | exact Only.refl _ _ | refine Only.alloc ?_ _ | refine Only.drewN ?_ _ | refine Only.drew ?_ | refine Only.setOne ?_ _ _)⟩

set_option maxHeartbeats 800000 in
theorem operand_1 (mb : Nat) (u v : Bool) (a b c o : Nat) (m : Int) (w : World) (h1 : 0 ≤ m) (h2 : m ≤ 65535) :
    Calls Try.prog 61 #[.pointer (some ⟨mb, 0, none⟩), ic 1 u v a b c o m] w fun e w' => e = .returned (.int .u32 ((if v then U (m - 65536) else U m : Nat) : Int)) ∧ Only Nil w w' := by
  have e1 : (m - 65536) % 4294967296 = ((U (m - 65536) : Nat) : Int) := by unfold U; omega
  have e2 : m = ((U m : Nat) : Int) := by unfold U; omega
  unfold ic
  have E2 := Lib.hid e2
  clear e2
  cases v
  · go_enter Try.func61, Try.ntmps61
    go_wp2_with fail
    go_ret
    exact ⟨congrArg (fun x => Ending.returned (.int .u32 x)) E2.out, by (repeat with_reducible first | exact Only.refl _ _ | refine Only.alloc ?_ _ | refine Only.drewN ?_ _ | refine Only.drew ?_ | refine Only.setOne ?_ _ _)⟩
  · go_enter Try.func61, Try.ntmps61
    go_wp2_with fail
    go_ret
    exact ⟨rfl, by (repeat with_reducible first | exact Only.refl _ _ | refine Only.alloc ?_ _ | refine Only.drewN ?_ _ | refine Only.drew ?_ | refine Only.setOne ?_ _ _)⟩
end Go.Proofs.Ythimhbfglgnohaa

