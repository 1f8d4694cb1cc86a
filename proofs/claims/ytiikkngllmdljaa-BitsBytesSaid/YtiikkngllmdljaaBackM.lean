/- Plain facts: what was put is got. -/
import Derived.Test.YtiikkngllmdljaaGetM
namespace Go.Proofs.Ytiikkngllmdljaa.M

/-- The bits of the bytes of bits begin with these. -/
theorem getD_unpack_pack (L : List Bool) (i : Nat) (h : i < 8 * ((L.length + 7) / 8)) : (unpack (pack L)).getD i false = L.getD i false := by
  rw [getD_unpack _ _ (by simpa using h)]
  have hj : i / 8 < (L.length + 7) / 8 := by omega
  have e : (pack L).getD (i / 8) 0 = byteAt L (i / 8) := by rw [List.getD, getElem?_pack _ _ hj]; rfl
  rw [e, testBit_byteAt]
  have h8 : 7 - i % 8 < 8 := by omega
  simp only [h8, decide_true, Bool.true_and]
  congr 1
  omega

theorem take_unpack_pack (A X C : List Bool) : (((unpack (pack (A ++ X ++ C))).drop A.length).take X.length) = X := by
  have hlen : (((unpack (pack (A ++ X ++ C))).drop A.length).take X.length).length = X.length := by simp; omega
  apply List.ext_getElem hlen
  intro i h1 h2
  have e := getD_unpack_pack (A ++ X ++ C) (A.length + i) (by simp; omega)
  rw [getD_append_l _ _ _ _ (by simp; omega), getD_append_r _ _ _ _ (by omega), Nat.add_sub_cancel_left] at e
  rw [← getD_drop, ← getD_take _ _ X.length i (by omega)] at e
  rw [List.getD, List.getElem?_eq_getElem h1, List.getD, List.getElem?_eq_getElem h2] at e
  simpa using e

theorem number_zero (l : List Bool) (h : ∀ i, l.getD i false = false) : number l = 0 := by
  apply Nat.eq_of_testBit_eq
  intro t
  rw [testBit_number, h]
  simp

theorem number_rest (L : List Bool) : number ((unpack (pack L)).drop L.length) = 0 := by
  apply number_zero
  intro i
  rw [getD_drop]
  by_cases h : L.length + i < 8 * ((L.length + 7) / 8)
  · rw [getD_unpack_pack _ _ h, getD_ge _ _ _ (by omega)]
  · rw [getD_ge _ _ _ (by simp; omega)]

theorem pack_lt (L : List Bool) : ∀ x ∈ pack L, x < 256 := by
  intro x hx
  simp only [pack, List.mem_map] at hx
  obtain ⟨j, _, rfl⟩ := hx
  exact byteAt_lt _ _
end Go.Proofs.Ytiikkngllmdljaa.M
