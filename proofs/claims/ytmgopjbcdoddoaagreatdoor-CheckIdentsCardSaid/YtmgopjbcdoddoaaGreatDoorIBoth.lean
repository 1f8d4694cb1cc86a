/- Identifiers: of which texts they are, the program's and the document's. -/
import Derived.Test.YtmgopjbcdoddoaaGreatDoorITaken
import Derived.Test.YtmgopjbcdoddoaaGreatDoorZRKey
set_option linter.unusedSimpArgs false
set_option linter.unusedVariables false
namespace Go.Proofs.YtmgopjbcdoddoaaGreatDoor
open Go.RowKit M

def kwI : List UInt8 := [32, 65, 82, 82, 65, 89, 32, 66, 69, 71, 73, 78, 32, 66, 89, 32, 67, 65, 83, 69, 32, 67, 79, 78, 83, 84, 32, 68, 73, 86, 32, 68, 79, 32, 69, 76, 83, 69, 32, 69, 76, 83, 73, 70, 32, 69, 78, 68, 32, 70, 65, 76, 83, 69, 32, 70, 79, 82, 32, 73, 70, 32, 73, 77, 80, 79, 82, 84, 32, 73, 78, 32, 73, 83, 32, 77, 79, 68, 32, 77, 79, 68, 85, 76, 69, 32, 78, 73, 76, 32, 79, 70, 32, 79, 82, 32, 80, 79, 73, 78, 84, 69, 82, 32, 80, 82, 79, 67, 69, 68, 85, 82, 69, 32, 82, 69, 67, 79, 82, 68, 32, 82, 69, 80, 69, 65, 84, 32, 82, 69, 84, 85, 82, 78, 32, 84, 72, 69, 78, 32, 84, 79, 32, 84, 82, 85, 69, 32, 84, 89, 80, 69, 32, 85, 78, 84, 73, 76, 32, 86, 65, 82, 32, 87, 72, 73, 76, 69, 32]
def stI : List UInt8 := [32, 73, 78, 84, 69, 71, 69, 82, 32, 67, 72, 65, 82, 32, 66, 79, 79, 76, 69, 65, 78, 32, 83, 69, 84, 32, 65, 66, 83, 32, 79, 68, 68, 32, 76, 83, 76, 32, 65, 83, 82, 32, 82, 79, 82, 32, 79, 82, 68, 32, 67, 72, 82, 32, 76, 69, 78, 32, 73, 78, 67, 32, 68, 69, 67, 32, 73, 78, 67, 76, 32, 69, 88, 67, 76, 32, 78, 69, 87, 32, 65, 83, 83, 69, 82, 84, 32]
def stTab : List (List UInt8) := [[73, 78, 84, 69, 71, 69, 82], [67, 72, 65, 82], [66, 79, 79, 76, 69, 65, 78], [83, 69, 84], [65, 66, 83], [79, 68, 68], [76, 83, 76], [65, 83, 82], [82, 79, 82], [79, 82, 68], [67, 72, 82], [76, 69, 78], [73, 78, 67], [68, 69, 67], [73, 78, 67, 76], [69, 88, 67, 76], [78, 69, 87], [65, 83, 83, 69, 82, 84]]
set_option maxRecDepth 20000 in
theorem kwI_eq : kwI = 32 :: Go.Ident.joinW kwTab := by decide +kernel
set_option maxRecDepth 20000 in
theorem stI_eq : stI = 32 :: Go.Ident.joinW stTab := by decide +kernel
theorem kw_plain : ∀ w ∈ kwTab, Go.Ident.Plain w := by
  have : (kwTab.all fun w => w.all fun c => !(c == 32)) = true := by decide +kernel
  intro w hw c hc e
  have h1 := List.all_eq_true.1 (List.all_eq_true.1 this w hw) c hc
  subst e; revert h1; decide
theorem st_plain : ∀ w ∈ stTab, Go.Ident.Plain w := by
  have : (stTab.all fun w => w.all fun c => !(c == 32)) = true := by decide +kernel
  intro w hw c hc e
  have h1 := List.all_eq_true.1 (List.all_eq_true.1 this w hw) c hc
  subst e; revert h1; decide
/-- May a declaration have this name? As the program has it. -/
def idI (s : ByteArray) : Bool := Go.Ident.identP 32 kwI stI s.data.toList
/-- As the document has it. -/
def idD (s : ByteArray) : Bool := Go.Ident.identD 32 kwTab stTab s.data.toList
theorem id_same (s : ByteArray) : idI s = idD s := by
  unfold idI idD
  rw [kwI_eq, stI_eq]
  exact Go.Ident.ident_same kw_plain st_plain _

theorem all_true (f : Nat → Bool) (s : ByteArray) (n : Nat) (hn : s.size = n) (h : ∀ k, k < n → f (bt s k) = true) : (s.data.toList.all fun c => f c.toNat) = true := by
  rw [List.all_eq_true]
  intro c hc
  obtain ⟨k, hk, rfl⟩ := List.getElem_of_mem hc
  have := h k (by rw [size_list, hn] at hk; exact hk)
  unfold bt at this
  rw [List.getElem?_eq_getElem hk] at this
  exact this
theorem all_false (f : Nat → Bool) (s : ByteArray) (n k : Nat) (hn : s.size = n) (hk : k < n) (h : f (bt s k) = false) : (s.data.toList.all fun c => f c.toNat) = false := by
  have hk' : k < s.data.toList.length := by rw [size_list, hn]; exact hk
  unfold bt at h
  rw [List.getElem?_eq_getElem hk'] at h
  rw [← Bool.not_eq_true, List.all_eq_true]
  intro q
  have := q _ (List.getElem_mem hk')
  rw [show f (s.data.toList[k].toNat) = false from h] at this
  cases this
def okN (c : Nat) : Bool := digN c || letN c
theorem idI_of (s : ByteArray) (n : Nat) (hn : s.size = n) (h0 : 0 < n) : idI s = (!(decide (32 < n)) && (!digN (bt s 0) && ((s.data.toList.all fun c => okN c.toNat) && (!Lib.contains kwI (32 :: (s.data.toList ++ [32])) && !Lib.contains stI (32 :: (s.data.toList ++ [32])))))) := by
  unfold idI bt
  have hl := size_list s
  cases h : s.data.toList with
  | nil => rw [h] at hl; simp at hl; omega
  | cons c r =>
    have e : (c :: r).length = n := by rw [← h, hl, hn]
    simp only [Go.Ident.identP, e, List.getElem?_cons_zero, Option.getD_some]
    rfl
def fD (s : ByteArray) (k : Nat) : Bool := letN (bt s k) || (decide (0 < k) && digN (bt s k))
theorem contains_kw (s : ByteArray) : kwTab.contains s.data.toList = kwB s := by
  unfold kwB kwZ
  rw [Bool.eq_iff_iff, Lib.containsS_iff, List.contains_iff_mem, List.mem_map]
  constructor
  · intro h; exact ⟨_, h, rfl⟩
  · rintro ⟨l, h, rfl⟩; exact h
theorem contains_st (s : ByteArray) : stTab.contains s.data.toList = tkB s := by
  unfold tkB tkL stTab
  simp only [List.contains_cons, List.contains_nil, List.any_cons, List.any_nil, Lib.toList_data]
theorem idD_of (s : ByteArray) (n : Nat) (hn : s.size = n) (h0 : 0 < n) : idD s = (!(decide (32 < n)) && (!kwB s && (!tkB s && ((List.range n).all (fD s))))) := by
  unfold idD
  rw [← contains_kw, ← contains_st]
  have hl := size_list s
  cases h : s.data.toList with
  | nil => rw [h] at hl; simp at hl; omega
  | cons c r =>
    have e : (c :: r).length = n := by rw [← h, hl, hn]
    have hb : ∀ k, bt s k = (((c :: r)[k]?).getD 0).toNat := fun k => by unfold bt; rw [h]
    have key : (Go.Ident.letterB c && r.all fun c => Go.Ident.letterB c || Go.Ident.digitB c) = (List.range n).all (fD s) := by
      rw [← e, List.length_cons, List.range_succ_eq_map, List.all_cons, List.all_map]
      congr 1
      · unfold fD; rw [hb 0]; simp; rfl
      · rw [Bool.eq_iff_iff, List.all_eq_true, List.all_eq_true]
        constructor
        · intro q k hk
          have hk := List.mem_range.1 hk
          have := q _ (List.getElem_mem hk)
          show fD s (k + 1) = true
          unfold fD
          rw [hb (k + 1), List.getElem?_cons_succ, List.getElem?_eq_getElem hk]
          simpa [show ∀ c : UInt8, Go.Ident.letterB c = letN c.toNat from fun _ => rfl, show ∀ c : UInt8, Go.Ident.digitB c = digN c.toNat from fun _ => rfl] using this
        · intro q x hx
          obtain ⟨k, hk, rfl⟩ := List.getElem_of_mem hx
          have : fD s (k + 1) = true := q k (List.mem_range.2 hk)
          unfold fD at this
          rw [hb (k + 1), List.getElem?_cons_succ, List.getElem?_eq_getElem hk] at this
          simpa [show ∀ c : UInt8, Go.Ident.letterB c = letN c.toNat from fun _ => rfl, show ∀ c : UInt8, Go.Ident.digitB c = digN c.toNat from fun _ => rfl] using this
    simp only [Go.Ident.identD, e]
    rw [key]
end Go.Proofs.YtmgopjbcdoddoaaGreatDoor
