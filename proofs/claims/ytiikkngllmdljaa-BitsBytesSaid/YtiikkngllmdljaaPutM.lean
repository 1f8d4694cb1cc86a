/- Plain facts for Put: what a byte becomes. -/
import Derived.Test.YtiikkngllmdljaaMath
namespace Go.Proofs.Ytiikkngllmdljaa.M

theorem getD_ge {α : Type} (l : List α) (d : α) (i : Nat) (h : l.length ≤ i) : l.getD i d = d := by
  simp [List.getD, List.getElem?_eq_none h]

/-- The bytes, padded by one so that there is room for a bit more. -/
def padP (L : List Bool) : List Nat := (List.range (L.length / 8 + 1)).map (byteAt L)

@[simp] theorem length_padP (L : List Bool) : (padP L).length = L.length / 8 + 1 := by simp [padP]

theorem byteAt_past (L : List Bool) (j : Nat) (h : L.length ≤ 8 * j) : byteAt L j = 0 := by
  apply Nat.eq_of_testBit_eq
  intro t
  rw [testBit_byteAt, getD_ge _ _ _ (by omega)]
  simp

theorem padP_new (L : List Bool) (h : L.length % 8 = 0) : padP L = pack L ++ [0] := by
  unfold padP pack
  rw [List.range_succ, List.map_append, show (L.length + 7) / 8 = L.length / 8 by omega]
  simp [byteAt_past L (L.length / 8) (by omega)]

theorem padP_old (L : List Bool) (h : ¬ L.length % 8 = 0) : padP L = pack L := by
  unfold padP pack
  rw [show (L.length + 7) / 8 = L.length / 8 + 1 by omega]

theorem getElem?_padP (L : List Bool) : (padP L)[L.length / 8]? = some (byteAt L (L.length / 8)) := by
  simp [padP]

/-- What is put into the last byte. -/
theorem pack_put (L : List Bool) (c k s : Nat) (hk : 0 < k) (hc : c < 2 ^ k) (hs : L.length % 8 + k + s = 8) :
    pack (L ++ bitsOf c k) = (padP L).set (L.length / 8) (byteAt L (L.length / 8) ||| c * 2 ^ s) := by
  have hlen : ((L ++ bitsOf c k).length + 7) / 8 = L.length / 8 + 1 := by simp; omega
  apply List.ext_getElem?
  intro j
  by_cases hj : j < L.length / 8 + 1
  · rw [getElem?_pack _ _ (by omega), List.getElem?_set]
    by_cases hq : L.length / 8 = j
    · subst hq
      rw [if_pos rfl, if_pos (by simp)]
      congr 1
      apply Nat.eq_of_testBit_eq
      intro t
      rw [Nat.testBit_or, testBit_byteAt, testBit_byteAt, Nat.testBit_mul_two_pow]
      by_cases ht : t < 8
      · simp only [ht, decide_true, Bool.true_and]
        by_cases h1 : 8 * (L.length / 8) + (7 - t) < L.length
        · rw [getD_append_l _ _ _ _ h1]
          have : c.testBit (t - s) = false := Nat.testBit_lt_two_pow (Nat.lt_of_lt_of_le hc (Nat.pow_le_pow_right (by omega) (by omega)))
          simp [this]
        · rw [getD_append_r _ _ _ _ (by omega), getD_ge L _ _ (by omega)]
          simp only [Bool.false_or]
          by_cases h2 : 8 * (L.length / 8) + (7 - t) - L.length < k
          · rw [getD_bitsOf _ _ _ h2]
            have hst : s ≤ t := by omega
            simp only [hst, decide_true, Bool.true_and]
            congr 1; omega
          · rw [getD_ge _ _ _ (by simp; omega)]
            have hst : ¬ s ≤ t := by omega
            simp [hst]
      · have h2 : c.testBit (t - s) = false := Nat.testBit_lt_two_pow (Nat.lt_of_lt_of_le hc (Nat.pow_le_pow_right (by omega) (by omega)))
        simp [ht, h2]
    · rw [if_neg hq]
      unfold padP
      rw [List.getElem?_map, List.getElem?_range hj, Option.map_some]
      congr 1
      apply Nat.eq_of_testBit_eq
      intro t
      rw [testBit_byteAt, testBit_byteAt, getD_append_l _ _ _ _ (by omega)]
  · rw [List.getElem?_eq_none (by rw [length_pack]; omega), List.getElem?_eq_none (by simp; omega)]

/-- The bits so far, and the next ones. -/
theorem bits_step (L : List Bool) (v n m k : Nat) (h : m + k ≤ n) :
    L ++ bitsOf (v / 2 ^ (m + k)) (n - (m + k)) ++ bitsOf (v / 2 ^ m % 2 ^ k) k = L ++ bitsOf (v / 2 ^ m) (n - m) := by
  rw [bitsOf_mod, List.append_assoc, show n - m = (n - (m + k)) + k by omega, bitsOf_add, Nat.div_div_eq_div_mul, ← Nat.pow_add]

/-- N bytes of bits. -/
def packN (l : List Bool) (N : Nat) : List Nat := (List.range N).map (byteAt l)
@[simp] theorem length_packN (l : List Bool) (N : Nat) : (packN l N).length = N := by simp [packN]
theorem pack_eq (l : List Bool) : pack l = packN l ((l.length + 7) / 8) := rfl
theorem getElem?_packN (l : List Bool) (N j : Nat) (h : j < N) : (packN l N)[j]? = some (byteAt l j) := by
  simp [packN, List.getElem?_map, List.getElem?_range h]
theorem packN_nil (N : Nat) : packN [] N = List.replicate N 0 := by
  apply List.ext_getElem?
  intro j
  by_cases h : j < N
  · rw [getElem?_packN _ _ _ h, byteAt_past _ _ (by simp), List.getElem?_replicate, if_pos h]
  · rw [List.getElem?_eq_none (by simp; omega), List.getElem?_eq_none (by simp; omega)]
theorem byteAt_snoc (l : List Bool) (y : Bool) (j : Nat) : byteAt (l ++ [y]) j = if y = true ∧ j = l.length / 8 then byteAt l j ||| 2 ^ (7 - l.length % 8) else byteAt l j := by
  apply Nat.eq_of_testBit_eq
  intro t
  have key : (byteAt (l ++ [y]) j).testBit t = ((byteAt l j).testBit t || (y && decide (j = l.length / 8) && decide (t = 7 - l.length % 8))) := by
    rw [testBit_byteAt, testBit_byteAt]
    by_cases ht : t < 8
    · simp only [ht, decide_true, Bool.true_and]
      by_cases h1 : 8 * j + (7 - t) < l.length
      · rw [getD_append_l _ _ _ _ h1]
        have : ¬ (j = l.length / 8 ∧ t = 7 - l.length % 8) := by omega
        by_cases hj : j = l.length / 8
        · have : ¬ t = 7 - l.length % 8 := by omega
          simp [this]
        · simp [hj]
      · rw [getD_append_r _ _ _ _ (by omega), getD_ge l _ _ (by omega)]
        by_cases h2 : 8 * j + (7 - t) = l.length
        · have a : j = l.length / 8 := by omega
          have b : t = 7 - l.length % 8 := by omega
          simp [h2, ← a, ← b, List.getD]
        · rw [getD_ge _ _ _ (by simp; omega)]
          by_cases hj : j = l.length / 8
          · have : ¬ t = 7 - l.length % 8 := by omega
            simp [this]
          · simp [hj]
    · have : ¬ t = 7 - l.length % 8 := by omega
      simp [ht, this]
  rw [key]
  by_cases hy : y = true ∧ j = l.length / 8
  · rw [if_pos hy, Nat.testBit_or, Nat.testBit_two_pow]
    obtain ⟨h1, h2⟩ := hy
    simp only [h1, h2, decide_true, Bool.true_and]
    congr 1
    by_cases h3 : t = 7 - l.length % 8
    · simp [h3]
    · simp [h3, Ne.symm h3]
  · rw [if_neg hy]
    cases y with
    | false => simp
    | true => 
      have : ¬ j = l.length / 8 := fun h => hy ⟨rfl, h⟩
      simp [this]
theorem packN_snoc_true (l : List Bool) (N : Nat) : packN (l ++ [true]) N = (packN l N).set (l.length / 8) (byteAt l (l.length / 8) ||| 2 ^ (7 - l.length % 8)) := by
  apply List.ext_getElem?
  intro j
  by_cases h : j < N
  · rw [getElem?_packN _ _ _ h, byteAt_snoc, List.getElem?_set]
    by_cases hj : l.length / 8 = j
    · simp [hj, h]
    · have hj2 : ¬ j = l.length / 8 := fun e => hj e.symm
      simp [hj, hj2, getElem?_packN _ _ _ h]
  · rw [List.getElem?_eq_none (by simp; omega), List.getElem?_eq_none (by simp; omega)]
theorem packN_snoc_false (l : List Bool) (N : Nat) : packN (l ++ [false]) N = packN l N := by
  unfold packN
  congr 1
  funext j
  rw [byteAt_snoc]
  simp
end Go.Proofs.Ytiikkngllmdljaa.M
