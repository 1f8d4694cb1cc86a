/- Plain facts for Get: the next bits of a byte. -/
import Derived.Test.YtiikkngllmdljaaPutM
namespace Go.Proofs.Ytiikkngllmdljaa.M

theorem getD_drop {α : Type} (l : List α) (d : α) (a i : Nat) : (l.drop a).getD i d = l.getD (a + i) d := by
  simp [List.getD, List.getElem?_drop]
theorem getD_take {α : Type} (l : List α) (d : α) (k i : Nat) (h : i < k) : (l.take k).getD i d = l.getD i d := by
  simp [List.getD, h]

/-- The next k bits, all of one byte. -/
theorem number_byte (B : List Nat) (p k s : Nat) (hk : p % 8 + k + s = 8) (hp : p / 8 < B.length) :
    number (((unpack B).drop p).take k) = B.getD (p / 8) 0 / 2 ^ s % 2 ^ k := by
  have hl : (((unpack B).drop p).take k).length = k := by simp; omega
  apply Nat.eq_of_testBit_eq
  intro t
  rw [testBit_number, hl, Nat.testBit_mod_two_pow, Nat.testBit_div_two_pow]
  by_cases ht : t < k
  · rw [getD_take _ _ _ _ (by omega), getD_drop, getD_unpack _ _ (by omega)]
    have e1 : (p + (k - 1 - t)) / 8 = p / 8 := by omega
    have e2 : 7 - (p + (k - 1 - t)) % 8 = t + s := by omega
    rw [e1, e2]
  · simp [ht]

theorem take_add_drop {α : Type} (l : List α) (a k : Nat) : l.take (a + k) = l.take a ++ (l.drop a).take k := by
  rw [List.take_add]

/-- One round of Get: the bits so far, and the next k. -/
theorem number_next (B : List Nat) (m a k s x : Nat) (hk : (m + a) % 8 + k + s = 8) (hp : (m + a) / 8 < B.length) (hx : B.getD ((m + a) / 8) 0 = x) (ha : m + a + k ≤ 8 * B.length) :
    number (((unpack B).drop m).take (a + k)) = number (((unpack B).drop m).take a) * 2 ^ k + x / 2 ^ s % 2 ^ k := by
  rw [take_add_drop, number_append, List.drop_drop, number_byte B (m + a) k s hk hp, hx]
  have e : (((unpack B).drop (m + a)).take k).length = k := by simp; omega
  rw [e]

theorem or_shift (a c k : Nat) (hc : c < 2 ^ k) : a * 2 ^ k ||| c = a * 2 ^ k + c := by
  rw [Nat.mul_comm]; exact (Nat.two_pow_add_eq_or_of_lt hc a).symm
end Go.Proofs.Ytiikkngllmdljaa.M
