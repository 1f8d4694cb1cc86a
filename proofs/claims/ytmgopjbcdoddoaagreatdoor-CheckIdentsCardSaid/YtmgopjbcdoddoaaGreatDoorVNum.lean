/- The model's operations on bits that varint and waferref1 use, on casts of Nats: no Go program is imported. -/
import Derived.Test.YtmgopjbcdoddoaaGreatDoorNum
import Derived.Test.YtmgopjbcdoddoaaGreatDoorVMath
import Derived.Laws.BitsAllLaws
import Derived.Laws.DeepNot64
set_option linter.unusedSimpArgs false
set_option linter.unusedVariables false
namespace Go.Proofs.YtmgopjbcdoddoaaGreatDoor.M
open Go.RowKit

theorem not_neg (v : Int) (h1 : -9223372036854775808 ≤ v) (h2 : v < 0) : bits .xor .i64 (-1) v = -(v + 1) := by
  show IntKind.i64.wrap ((BitVec.ofInt 64 (-1) ^^^ BitVec.ofInt 64 v).toNat : Int) = _
  have e : BitVec.ofInt 64 (-1) = BitVec.allOnes 64 := by decide
  rw [e, BitVec.allOnes_xor, BitVec.toNat_not, BitVec.toNat_ofInt]
  simp [IntKind.wrap, IntKind.bits, IntKind.signed]
  omega
theorem or_one (x : Nat) (h : x < 9223372036854775808) : bits .or .u64 ((x : Int) * 2) 1 = ((2 * x + 1 : Nat) : Int) := by
  have e : (x : Int) * 2 = ((2 * x : Nat) : Int) := by omega
  have h2 := u64_or_nat (2 * x) 1 (by omega) (by decide)
  rw [e]
  rw [show ((1 : Nat) : Int) = 1 from rfl] at h2
  rw [h2]
  have h3 := Nat.two_pow_add_eq_or_of_lt (i := 1) (b := 1) (by decide) x
  rw [Nat.pow_one] at h3
  rw [h3]
theorem and_one (x : Nat) (h : x < 18446744073709551616) : bits .and .u64 (x : Int) 1 = ((x % 2 : Nat) : Int) := by
  have h2 := u64_and_nat x 1 h (by decide)
  rw [show ((1 : Nat) : Int) = 1 from rfl] at h2
  rw [h2, Nat.and_one_is_mod]
theorem or_128 (x : Nat) (h : x < 256) : bits .or .u8 (x : Int) 128 = ((x % 128 + 128 : Nat) : Int) := by
  have h2 := u8_or_nat x 128 h (by decide)
  rw [show ((128 : Nat) : Int) = 128 from rfl] at h2
  rw [h2]
  have : ∀ y : Fin 256, y.val ||| 128 = y.val % 128 + 128 := by decide +kernel
  rw [this ⟨x, h⟩]
theorem andNot_128 (x : Nat) (h : x < 256) : bits .andNot .u8 (x : Int) 128 = ((x % 128 : Nat) : Int) := by
  have h2 := u8_andNot_nat x 128 h (by decide)
  rw [show ((128 : Nat) : Int) = 128 from rfl] at h2
  rw [h2]
  have : ∀ y : Fin 256, y.val &&& (255 - 128) = y.val % 128 := by decide +kernel
  rw [this ⟨x, h⟩]
theorem and_127 (x : Nat) (h : x < 256) : bits .and .u8 (x : Int) 127 = ((x % 128 : Nat) : Int) := by
  have h2 := u8_and_nat x 127 h (by decide)
  rw [show ((127 : Nat) : Int) = 127 from rfl] at h2
  rw [h2]
  have : ∀ y : Fin 256, y.val &&& 127 = y.val % 128 := by decide +kernel
  rw [this ⟨x, h⟩]
theorem and_128 (x : Nat) (h : x < 256) : bits .and .u8 (x : Int) 128 = ((if x < 128 then 0 else 128 : Nat) : Int) := by
  have h2 := u8_and_nat x 128 h (by decide)
  rw [show ((128 : Nat) : Int) = 128 from rfl] at h2
  rw [h2]
  have : ∀ y : Fin 256, y.val &&& 128 = if y.val < 128 then 0 else 128 := by decide +kernel
  rw [this ⟨x, h⟩]
theorem and_63 (x : Nat) (h : x < 256) : bits .and .u8 (x : Int) 63 = ((x % 64 : Nat) : Int) := by
  have h2 := u8_and_nat x 63 h (by decide)
  rw [show ((63 : Nat) : Int) = 63 from rfl] at h2
  rw [h2]
  have : ∀ y : Fin 256, y.val &&& 63 = y.val % 64 := by decide +kernel
  rw [this ⟨x, h⟩]
/-- Seven more bits. -/
theorem or_part (acc c m : Nat) (ha : acc < 2 ^ m) (h1 : acc < 18446744073709551616) (h2 : c * 2 ^ m < 18446744073709551616) :
    bits .or .u64 (acc : Int) ((c * 2 ^ m : Nat) : Int) = ((acc + c * 2 ^ m : Nat) : Int) := by
  rw [u64_or_nat _ _ h1 h2]
  have h3 := Nat.two_pow_add_eq_or_of_lt (i := m) (b := acc) ha c
  rw [Nat.or_comm, Nat.mul_comm c, ← h3]
  congr 1; omega
end Go.Proofs.YtmgopjbcdoddoaaGreatDoor.M
