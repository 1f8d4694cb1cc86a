/- Plain facts: whole bytes that are put. -/
import Derived.Test.YtiikkngllmdljaaBackM
namespace Go.Proofs.Ytiikkngllmdljaa.M

theorem pack_unpack (B : List Nat) (h : ∀ x ∈ B, x < 256) : pack (unpack B) = B := by
  have hl : (pack (unpack B)).length = B.length := by simp; omega
  apply List.ext_getElem hl
  intro j h1 h2
  have hj : j < ((unpack B).length + 7) / 8 := by simpa using h1
  have e := getElem?_pack (unpack B) j hj
  rw [List.getElem?_eq_getElem h1] at e
  injection e with e
  rw [e]
  apply Nat.eq_of_testBit_eq
  intro t
  rw [testBit_byteAt]
  by_cases ht : t < 8
  · rw [getD_unpack _ _ (by omega)]
    have e1 : (8 * j + (7 - t)) / 8 = j := by omega
    have e2 : 7 - (8 * j + (7 - t)) % 8 = t := by omega
    rw [e1, e2, List.getD, List.getElem?_eq_getElem h2]
    simp [ht]
  · have := h B[j] (List.getElem_mem h2)
    have e3 : B[j].testBit t = false := Nat.testBit_lt_two_pow (Nat.lt_of_lt_of_le this (show 2 ^ 8 ≤ 2 ^ t from Nat.pow_le_pow_right (by omega) (by omega)))
    simp [ht, e3]

theorem bits_more (x : Nat) : bitsOf (x + 256) 8 = bitsOf x 8 := by
  rw [← bitsOf_mod (x + 256) 8, ← bitsOf_mod x 8]
  congr 1
  simp

theorem or_256 (x : Nat) (h : x < 256) : x ||| 256 = x + 256 := by
  have := Nat.two_pow_add_eq_or_of_lt (i := 8) (b := x) h 1
  simp at this
  rw [Nat.or_comm, Nat.add_comm]; omega

theorem unpack_take (B : List Nat) (j x : Nat) (h : B[j]? = some x) : unpack (B.take (j + 1)) = unpack (B.take j) ++ bitsOf x 8 := by
  obtain ⟨hj, e⟩ := List.getElem?_eq_some_iff.1 h
  rw [List.take_succ_eq_append_getElem hj, e, unpack_snoc]

theorem number_zeros (k : Nat) : number (bitsOf 0 k) = 0 := by rw [number_bitsOf]; simp

/-- The bits of byte j, behind k bits. -/
theorem byte_behind (k : Nat) (B : List Nat) (j x : Nat) (h : B[j]? = some x) (hx : x < 256) :
    number (((unpack (pack (bitsOf 0 k ++ unpack B))).drop (k + 8 * j)).take 8) = x := by
  obtain ⟨hj, e⟩ := List.getElem?_eq_some_iff.1 h
  have hs : bitsOf 0 k ++ unpack B = (bitsOf 0 k ++ unpack (B.take j)) ++ bitsOf x 8 ++ unpack (B.drop (j + 1)) := by
    conv => lhs; rw [← List.take_append_drop (j + 1) B]
    have : unpack (B.take (j + 1) ++ B.drop (j + 1)) = unpack (B.take (j + 1)) ++ unpack (B.drop (j + 1)) := by unfold unpack; rw [List.flatMap_append]
    rw [this, unpack_take B j x h]
    simp [List.append_assoc]
  have ht := take_unpack_pack (bitsOf 0 k ++ unpack (B.take j)) (bitsOf x 8) (unpack (B.drop (j + 1)))
  rw [← hs] at ht
  have hl : (bitsOf 0 k ++ unpack (B.take j)).length = k + 8 * j := by simp; omega
  rw [hl, length_bitsOf] at ht
  rw [ht, number_bitsOf]
  omega

theorem zeros_first (k : Nat) (B : List Nat) : ((unpack (pack (bitsOf 0 k ++ unpack B))).drop 0).take k = bitsOf 0 k := by
  have ht := take_unpack_pack [] (bitsOf 0 k) (unpack B)
  rw [length_bitsOf] at ht
  simpa using ht
end Go.Proofs.Ytiikkngllmdljaa.M
