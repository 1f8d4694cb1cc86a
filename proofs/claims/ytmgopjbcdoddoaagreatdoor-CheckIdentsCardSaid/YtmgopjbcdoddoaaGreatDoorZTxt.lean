/- Strings as texts; what a string begins with. -/
import Derived.Test.YtmgopjbcdoddoaaGreatDoorZLeaf
import Derived.Test.YtmgopjbcdoddoaaGreatDoorShelf
set_option linter.unusedSimpArgs false
set_option linter.unusedVariables false
namespace Go.Proofs.YtmgopjbcdoddoaaGreatDoor
open Go.RowKit M

/-- A byte of a string. -/
def bt (s : ByteArray) (i : Nat) : Nat := ((s.data.toList[i]?).getD 0).toNat
def tx (s : ByteArray) : Txt := ⟨s.size, bt s⟩
theorem size_list (s : ByteArray) : s.data.toList.length = s.size := by rw [Array.length_toList]; rfl
theorem bt_lt (s : ByteArray) (i : Nat) : bt s i < 256 := (((s.data.toList[i]?).getD 0)).toNat_lt
theorem bt_eq (s : ByteArray) (i : Nat) (h : i < s.size) : (s[i]'h).toNat = bt s i := by
  unfold bt
  rw [List.getElem?_eq_getElem (by rw [size_list]; exact h)]
  rfl
theorem ext_list (s : ByteArray) (a b : Nat) : (s.extract a b).data.toList = (s.data.toList.drop a).take (b - a) := by
  rw [ByteArray.data_extract, Array.toList_extract, List.extract_eq_take_drop]
theorem ext_size (s : ByteArray) (b : Nat) : (s.extract b s.size).size = s.size - b := by
  rw [← size_list, ext_list, List.length_take, List.length_drop, size_list]; omega
theorem ext_from (s : ByteArray) (b : Nat) : (s.extract b s.size).data.toList = s.data.toList.drop b := by
  rw [ext_list, List.take_of_length_le (by rw [List.length_drop, size_list]; omega)]
theorem bt_from (s : ByteArray) (b i : Nat) : bt (s.extract b s.size) i = bt s (b + i) := by
  unfold bt; rw [ext_from, List.getElem?_drop]
theorem tx_from (s : ByteArray) (b : Nat) : tx (s.extract b s.size) = (tx s).from b := by
  unfold tx Txt.from
  rw [ext_size]; congr 1; funext i; exact bt_from s b i
theorem ext_nil (s : ByteArray) (i : Nat) : s.extract i i = ByteArray.empty := by
  apply ByteArray.ext; apply Array.toList_inj.1; rw [ext_list]; simp
theorem ext_ext (s : ByteArray) (b i j : Nat) (hij : i ≤ j) (h : b + j ≤ s.size) : (s.extract b s.size).extract i j = s.extract (b + i) (b + j) := by
  apply ByteArray.ext; apply Array.toList_inj.1
  rw [ext_list, ext_from, ext_list, List.drop_drop, show b + j - (b + i) = j - i by omega]

theorem ix_at (s : ByteArray) (n k : Nat) (hn : s.size = n) (h : k < n) (w : World) : (Instr.index 9 (.string s) (.int .i64 (k : Int))).run Tryz.prog w = .ok (.int .u8 (bt s k : Nat)) w := by
  subst hn
  rw [run_index_string w _ s _ _ Tryz.underlying9, dif_pos ⟨by omega, by omega⟩]
  simp only [Int.toNat_natCast, bt_eq s k h]
theorem ix_lit (s : ByteArray) (n k : Nat) (i : Int) (hi : i = (k : Int)) (hn : s.size = n) (h : k < n) (w : World) : (Instr.index 9 (.string s) (.int .i64 i)).run Tryz.prog w = .ok (.int .u8 (bt s k : Nat)) w := by
  subst hi; exact ix_at s n k hn h w

theorem pre_two (s : ByteArray) (j : Nat) (a b : UInt8) : Lib.hasPrefix (s.extract j s.size).data.toList [a, b] = decide (j + 1 < s.size ∧ bt s j = a.toNat ∧ bt s (j + 1) = b.toNat) := by
  rw [ext_from]; unfold Lib.hasPrefix
  have hl := size_list s
  unfold bt
  by_cases h : j + 1 < s.size
  · rw [List.drop_eq_getElem_cons (show j < s.data.toList.length by omega), List.drop_eq_getElem_cons (show j + 1 < s.data.toList.length by omega), List.getElem?_eq_getElem (show j < s.data.toList.length by omega), List.getElem?_eq_getElem (show j + 1 < s.data.toList.length by omega)]
    simp only [List.isPrefixOf_cons_cons, List.isPrefixOf_nil_left, Bool.and_true, Option.getD_some, h, true_and]
    rw [Bool.eq_iff_iff]; simp only [Bool.and_eq_true, beq_iff_eq, decide_eq_true_eq]
    constructor
    · rintro ⟨h1, h2⟩; rw [← h1, ← h2]; exact ⟨rfl, rfl⟩
    · rintro ⟨h1, h2⟩; exact ⟨(UInt8.toNat_inj.1 h1).symm, (UInt8.toNat_inj.1 h2).symm⟩
  · rw [decide_eq_false (by omega)]
    by_cases h2 : j < s.data.toList.length
    · rw [List.drop_eq_getElem_cons h2, List.drop_eq_nil_of_le (by omega)]
      simp [List.isPrefixOf]
    · rw [List.drop_eq_nil_of_le (by omega)]; rfl
theorem pre_one (s : ByteArray) (j : Nat) (a : UInt8) : Lib.hasPrefix (s.extract j s.size).data.toList [a] = decide (j < s.size ∧ bt s j = a.toNat) := by
  rw [ext_from]; unfold Lib.hasPrefix
  have hl := size_list s
  unfold bt
  by_cases h : j < s.size
  · rw [List.drop_eq_getElem_cons (show j < s.data.toList.length by omega), List.getElem?_eq_getElem (show j < s.data.toList.length by omega)]
    simp only [List.isPrefixOf_cons_cons, List.isPrefixOf_nil_left, Bool.and_true, Option.getD_some, h, true_and]
    rw [Bool.eq_iff_iff]; simp only [beq_iff_eq, decide_eq_true_eq]
    constructor
    · rintro h1; rw [← h1]
    · rintro h1; exact (UInt8.toNat_inj.1 h1).symm
  · rw [decide_eq_false (by omega), List.drop_eq_nil_of_le (by omega)]; rfl
theorem two_any (s : ByteArray) (j : Nat) (a b : UInt8) (w : World) : Calls Tryz.prog 137 #[.string (s.extract j s.size), .string ⟨#[a, b]⟩] w fun e w' => e = .returned (.bool (decide (j + 1 < s.size ∧ bt s j = a.toNat ∧ bt s (j + 1) = b.toNat))) ∧ w = w' :=
  (Tryz.strings_HasPrefix _ _ w).mono fun e w' ⟨h1, h2⟩ => ⟨by rw [h1, ← pre_two], h2.symm⟩
theorem one_any (s : ByteArray) (j : Nat) (a : UInt8) (w : World) : Calls Tryz.prog 137 #[.string (s.extract j s.size), .string ⟨#[a]⟩] w fun e w' => e = .returned (.bool (decide (j < s.size ∧ bt s j = a.toNat))) ∧ w = w' :=
  (Tryz.strings_HasPrefix _ _ w).mono fun e w' ⟨h1, h2⟩ => ⟨by rw [h1, ← pre_one], h2.symm⟩
end Go.Proofs.YtmgopjbcdoddoaaGreatDoor
