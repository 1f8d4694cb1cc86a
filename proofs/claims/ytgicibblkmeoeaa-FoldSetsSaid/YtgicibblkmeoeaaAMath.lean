/- Words of 32 bits: U, a number's bits as a Nat; S, a Nat's bits as a number; rotation; spans. -/
import Derived.Test.YtgicibblkmeoeaaNum
import Derived.Laws.BitsAllLaws
import Derived.Laws.BitsLemmas
set_option linter.unusedSimpArgs false
set_option linter.unusedVariables false
namespace Go.Proofs.Ytgicibblkmeoeaa.M
open Go.RowKit

def U (a : Int) : Nat := (a % 4294967296).toNat
def S (u : Nat) : Int := if u < 2147483648 then (u : Int) else (u : Int) - 4294967296
def I32 (a : Int) : Prop := -2147483648 ≤ a ∧ a ≤ 2147483647

theorem U_lt (a : Int) : U a < 4294967296 := by unfold U; omega
theorem S_i32 (u : Nat) (h : u < 4294967296) : I32 (S u) := by unfold I32 S; split <;> omega
theorem S_U (a : Int) (h : I32 a) : S (U a) = a := by unfold I32 at h; unfold S U; split <;> omega
theorem U_S (u : Nat) (h : u < 4294967296) : U (S u) = u := by unfold S U; split <;> omega
theorem S_inj {u v : Nat} (hu : u < 4294967296) (hv : v < 4294967296) : (S u == S v) = (u == v) := by
  rw [Bool.eq_iff_iff, beq_iff_eq, beq_iff_eq]; exact ⟨fun h => by rw [← U_S u hu, h, U_S v hv], fun h => by rw [h]⟩
theorem wu (a : Int) : IntKind.u32.wrap a = (U a : Int) := by rw [IntKind.wrap_u32]; unfold U; omega
theorem ws (a : Int) : IntKind.i32.wrap a = S (U a) := by rw [IntKind.wrap_i32]; unfold S U; split <;> omega
theorem U_nat (u : Nat) (h : u < 4294967296) : U (u : Int) = u := by unfold U; omega
theorem ws_nat (u : Nat) (h : u < 4294967296) : IntKind.i32.wrap (u : Int) = S u := by rw [ws, U_nat u h]
theorem ws_small (a : Int) (h : I32 a) : IntKind.i32.wrap a = a := by rw [ws, S_U a h]
theorem wrap_32_64 (a : Int) : wrap32 (wrap64 a) = wrap32 a := by unfold wrap32 wrap64; omega
theorem w32 (a : Int) : wrap32 a = S (U a) := by unfold wrap32 S U; split <;> omega
theorem w32_nat (u : Nat) (h : u < 4294967296) : wrap32 (u : Int) = S u := by rw [w32, U_nat u h]
theorem w32_in (a : Int) (h : I32 a) : wrap32 a = a := by rw [w32, S_U a h]

/-- Go's division, rounded down. -/
theorem div_facts (a b : Int) (hb : 1 ≤ b) : (a.tmod b < 0 → a.tdiv b - 1 = a / b ∧ a.tmod b + b = a % b) ∧ (0 ≤ a.tmod b → a.tdiv b = a / b ∧ a.tmod b = a % b) := by
  have h1 := Int.tmod_add_mul_tdiv a b
  have h2 : a.tmod b < b := by have := Int.tmod_lt_of_pos a (show 0 < b by omega); exact this
  have h3 : -b < a.tmod b := by
    have := Int.lt_tmod_of_pos a (show 0 < b by omega); omega
  have hu := fun q r => (Int.ediv_emod_unique (a := a) (b := b) (q := q) (r := r) (by omega)).2
  refine ⟨fun h => ?_, fun h => ?_⟩
  · have := hu (a.tdiv b - 1) (a.tmod b + b) ⟨by rw [Int.mul_sub, Int.mul_one]; omega, by omega, by omega⟩
    exact ⟨this.1.symm, this.2.symm⟩
  · have := hu (a.tdiv b) (a.tmod b) ⟨h1, h, h2⟩
    exact ⟨this.1.symm, this.2.symm⟩
theorem div_i32 (a b : Int) (ha : I32 a) (hb : 1 ≤ b) : I32 (a / b) := by
  unfold I32 at *
  have h1 : a / b ≤ 2147483647 := by
    have := Int.ediv_le_ediv (c := b) (by omega) ha.2
    have h2 : (2147483647 : Int) / b ≤ 2147483647 := Int.ediv_le_self b (by decide)
    omega
  have h2 : -2147483648 ≤ a / b := by
    rw [Int.le_ediv_iff_mul_le (by omega)]
    have := Int.mul_le_mul_of_nonpos_left (a := -2147483648) (by decide) hb
    omega
  exact ⟨h2, h1⟩
/-- The quotient that is cut towards nought fits. -/
theorem tdiv_i32 (a b : Int) (ha : I32 a) (hb : 1 ≤ b) : I32 (a.tdiv b) := by
  have hd := div_i32 a b ha hb
  obtain ⟨h1, h2⟩ := div_facts a b hb
  have hm : a % b < b := Int.emod_lt_of_pos a (by omega)
  obtain ⟨t, ht⟩ : ∃ t, a.tdiv b = t := ⟨_, rfl⟩
  obtain ⟨q, hq⟩ : ∃ q, a / b = q := ⟨_, rfl⟩
  obtain ⟨m, hm⟩ : ∃ m, a.tmod b = m := ⟨_, rfl⟩
  have hu := Int.tmod_add_mul_tdiv a b
  rw [ht, hm] at hu
  rw [hq, hm, ht] at h1 h2
  rw [hq] at hd
  rw [ht]
  unfold I32 at *
  by_cases h : m < 0
  · have h3 := (h1 h).1
    refine ⟨by omega, ?_⟩
    by_cases h4 : t ≤ 0
    · omega
    · have h5 : t ≤ b * t := by
        have := Int.mul_le_mul_of_nonneg_right hb (show 0 ≤ t by omega)
        omega
      have h6 : 0 ≤ a := by
        by_cases h7 : 0 ≤ a
        · exact h7
        · exfalso
          have h9 : a.tdiv b ≤ 0 := by
            have := Int.neg_tdiv (-a) b
            rw [Int.neg_neg] at this
            have hh := Int.tdiv_nonneg (a := -a) (b := b) (by omega) (by omega)
            omega
          omega
      have := Int.tmod_nonneg b h6
      omega
  · have h3 := (h2 (by omega)).1
    omega
theorem wu_S (u : Nat) (h : u < 4294967296) : IntKind.u32.wrap (S u) = (u : Int) := by rw [wu, U_S u h]

theorem ofInt_S (u : Nat) (h : u < 4294967296) : (BitVec.ofInt 32 (S u)) = BitVec.ofNat 32 u := by
  apply BitVec.eq_of_toNat_eq
  rw [BitVec.toNat_ofInt, BitVec.toNat_ofNat]
  have := U_S u h
  unfold U at this
  rw [Nat.mod_eq_of_lt (by simpa using h)]
  exact this
theorem or_S (u v : Nat) (hu : u < 4294967296) (hv : v < 4294967296) : bits .or .i32 (S u) (S v) = S (u ||| v) := by
  have h : u ||| v < 2 ^ 32 := Nat.or_lt_two_pow hu hv
  show IntKind.i32.wrap ((BitVec.ofInt 32 (S u) ||| BitVec.ofInt 32 (S v)).toNat : Int) = _
  rw [ofInt_S u hu, ofInt_S v hv, BitVec.toNat_or, BitVec.toNat_ofNat, BitVec.toNat_ofNat, Nat.mod_eq_of_lt hu, Nat.mod_eq_of_lt hv, ws_nat _ h]
theorem and_S (u v : Nat) (hu : u < 4294967296) (hv : v < 4294967296) : bits .and .i32 (S u) (S v) = S (u &&& v) := by
  have h : u &&& v < 2 ^ 32 := Nat.and_lt_two_pow _ hv
  show IntKind.i32.wrap ((BitVec.ofInt 32 (S u) &&& BitVec.ofInt 32 (S v)).toNat : Int) = _
  rw [ofInt_S u hu, ofInt_S v hv, BitVec.toNat_and, BitVec.toNat_ofNat, BitVec.toNat_ofNat, Nat.mod_eq_of_lt hu, Nat.mod_eq_of_lt hv, ws_nat _ h]
theorem S_small (u : Nat) (h : u < 2147483648) : S u = (u : Int) := by unfold S; rw [if_pos h]
/-- 'a & (2 to the k, less 1)' on an int32. -/
theorem and_mask (a : Int) (k : Nat) (h : I32 a) (hk : k < 32) : bits .and .i32 a ((2 ^ k - 1 : Nat) : Int) = ((U a % 2 ^ k : Nat) : Int) := by
  have h1 : 2 ^ k ≤ 2147483648 := by
    have := Nat.pow_le_pow_right (n := 2) (by omega) (show k ≤ 31 by omega); simpa using this
  have h0 : 0 < 2 ^ k := Nat.two_pow_pos k
  have hm := Nat.mod_lt (U a) h0
  rw [← S_small (2 ^ k - 1) (by omega)]
  conv => lhs; arg 3; rw [← S_U a h]
  rw [and_S _ _ (U_lt a) (by omega), Nat.and_two_pow_sub_one_eq_mod, S_small _ (by omega)]

/-- The bits moved round to the right by k. -/
def rorN (u k : Nat) : Nat := (u / 2 ^ k) ||| (u * 2 ^ (32 - k) % 4294967296)
theorem rorN_lt (u k : Nat) (hu : u < 4294967296) : rorN u k < 4294967296 :=
  Nat.or_lt_two_pow (n := 32) (Nat.lt_of_le_of_lt (Nat.div_le_self _ _) hu) (Nat.mod_lt _ (by decide))
theorem rorN_bit (u k i : Nat) (hu : u < 4294967296) (hk : k < 32) (hi : i < 32) : (rorN u k).testBit i = u.testBit ((i + k) % 32) := by
  have h0 : ∀ j, 32 ≤ j → u.testBit j = false := fun j hj => Nat.testBit_lt_two_pow (Nat.lt_of_lt_of_le hu (by
    have := Nat.pow_le_pow_right (n := 2) (by omega) hj; simpa using this))
  unfold rorN
  rw [Nat.testBit_or, ← Nat.shiftRight_eq_div_pow, Nat.testBit_shiftRight, show (4294967296 : Nat) = 2 ^ 32 by decide, Nat.testBit_mod_two_pow, ← Nat.shiftLeft_eq, Nat.testBit_shiftLeft]
  by_cases h : i + k < 32
  · rw [Nat.mod_eq_of_lt h, Nat.add_comm k i]
    have e : decide (i ≥ 32 - k) = false := by simp; omega
    rw [e]; simp
  · rw [h0 (k + i) (by omega), show (i + k) % 32 = i - (32 - k) by omega]
    have e : decide (i ≥ 32 - k) = true := by simp; omega
    rw [e]; simp [hi]
theorem eq_of_bits {u v : Nat} (hu : u < 4294967296) (hv : v < 4294967296) (h : ∀ i, i < 32 → u.testBit i = v.testBit i) : u = v := by
  apply Nat.eq_of_testBit_eq
  intro i
  by_cases hi : i < 32
  · exact h i hi
  · have e : ∀ x, x < 4294967296 → x.testBit i = false := fun x hx => Nat.testBit_lt_two_pow (Nat.lt_of_lt_of_le hx (by
      have := Nat.pow_le_pow_right (n := 2) (by omega) (show 32 ≤ i by omega); simpa using this))
    rw [e u hu, e v hv]
theorem rorN_back (u k : Nat) (hu : u < 4294967296) (hk : k < 32) : rorN (rorN u k) ((32 - k) % 32) = u := by
  have h1 := rorN_lt u k hu
  refine eq_of_bits (rorN_lt _ _ h1) hu fun i hi => ?_
  rw [rorN_bit _ _ _ h1 (Nat.mod_lt _ (by decide)) hi, rorN_bit _ _ _ hu hk (Nat.mod_lt _ (by decide))]
  congr 1; omega

/-- A span's bits. -/
def spanN (a b : Nat) : Nat := (4294967295 * 2 ^ a % 4294967296) &&& (4294967295 / 2 ^ (31 - b))
def spanV (a b : Nat) : Nat := if a ≤ b then 2 ^ (b + 1) - 2 ^ a else 0
theorem spanN_eq (a b : Nat) (ha : a < 32) (hb : b < 32) : spanN a b = spanV a b := by
  have : ∀ a b : Fin 32, spanN a b = spanV a b := by decide +kernel
  exact this ⟨a, ha⟩ ⟨b, hb⟩
theorem pow32 {a : Nat} (h : a < 32) : 2 ^ a ≤ 2147483648 := by
  have := Nat.pow_le_pow_right (n := 2) (by omega) (show a ≤ 31 by omega); simpa using this
theorem spanV_lt (a b : Nat) (hb : b < 32) : spanV a b < 4294967296 := by
  have := pow32 hb
  unfold spanV; split
  · have := Nat.two_pow_pos a; rw [Nat.pow_succ]; omega
  · decide
theorem spanV_bit (a b i : Nat) (ha : a < 32) (hb : b < 32) (hi : i < 32) : (spanV a b).testBit i = (decide (a ≤ i) && decide (i ≤ b)) := by
  have : ∀ a b i : Fin 32, (spanV a b).testBit i = (decide (a.val ≤ i.val) && decide (i.val ≤ b.val)) := by decide +kernel
  exact this ⟨a, ha⟩ ⟨b, hb⟩ ⟨i, hi⟩
/-- The bits from a to below i. -/
def seg (a i : Nat) : Nat := 2 ^ i - 2 ^ a
theorem seg_lt (a i : Nat) (hi : i ≤ 32) : seg a i < 4294967296 := by
  have := Nat.pow_le_pow_right (n := 2) (by omega) hi
  have h0 := Nat.two_pow_pos a
  have h2 := Nat.two_pow_pos i
  unfold seg
  have e : (2 : Nat) ^ 32 = 4294967296 := by decide
  omega
theorem seg_next (a i : Nat) (ha : a < 32) (h : a ≤ i) (hi : i < 32) : seg a i ||| 2 ^ i = seg a (i + 1) := by
  have : ∀ a i : Fin 32, a ≤ i → seg a.val i.val ||| 2 ^ i.val = seg a.val (i.val + 1) := by decide +kernel
  exact this ⟨a, ha⟩ ⟨i, hi⟩ h
theorem seg_end (a b : Nat) (h : a ≤ b) : seg a (b + 1) = spanV a b := by unfold seg spanV; rw [if_pos h]
theorem seg_none (a : Nat) : seg a a = 0 := by unfold seg; omega
theorem testBit_and (u n : Nat) : (u &&& 2 ^ n == 0) = !u.testBit n := by
  rw [nat_bit, Nat.testBit_eq_decide_div_mod_eq]
  have h0 := Nat.two_pow_pos n
  rcases Nat.mod_two_eq_zero_or_one (u / 2 ^ n) with h | h
  · rw [h]; simp
  · rw [h]; simp
end Go.Proofs.Ytgicibblkmeoeaa.M
