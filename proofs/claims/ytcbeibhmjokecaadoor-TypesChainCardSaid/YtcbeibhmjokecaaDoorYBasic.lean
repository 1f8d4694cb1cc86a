/- Types that are made: a form alone, an array. -/
import Derived.Test.YtcbeibhmjokecaaDoorYFits
import Derived.Test.YtcbeibhmjokecaaDoorYWords
set_option linter.unusedSimpArgs false
set_option linter.unusedVariables false
namespace Go.Proofs.YtcbeibhmjokecaaDoor
open Go.RowKit M

/-- A type's value. -/
def tyVal (t : Ty) (ov : Value) : Value := .agg #[.int .i64 t.form, .int .i64 t.n, .string t.name, ov]
def bas (f : Int) : Ty := .mk f 0 ⟨#[]⟩ []
def arr (n : Int) (t : Ty) : Ty := .mk 7 n ⟨#[]⟩ [t]
set_option maxHeartbeats 800000 in
theorem basicR_any (f : Int) (w : World) : Calls Tryd.prog 20 #[.int .i64 f] w fun e w' => e = .returned (.agg #[.int .i64 f, .int .i64 0, .string ⟨#[]⟩, .slice none 0 0]) ∧ Only Nil w w' := by
  go_enter Tryd.func20, Tryd.ntmps20
  go_wp2_with fail
  refine bodyPost_ret (results_cell_row rfl _ _ w.heap.size 25 _ (0, 0) _ rfl (Blk.new w #[.int .i64 f, .int .i64 0, .string ⟨#[]⟩, .slice none 0 0] 25) Tryd.underlying25 rfl (by kernel_rfl)) rfl ?_
  exact ⟨rfl, (Only.refl Nil w).alloc _⟩
set_option maxHeartbeats 800000 in
theorem basicP_any (f : Int) (w : World) : Calls Tryd.prog 29 #[.int .i64 f] w fun e w' => e = .returned (.agg #[.int .i64 f, .int .i64 0, .string ⟨#[]⟩, .slice none 0 0]) ∧ Only Nil w w' := by
  go_enter Tryd.func29, Tryd.ntmps29
  go_wp2_with fail
  refine bodyPost_ret (results_cell_row rfl _ _ w.heap.size 25 _ (0, 0) _ rfl (Blk.new w #[.int .i64 f, .int .i64 0, .string ⟨#[]⟩, .slice none 0 0] 25) Tryd.underlying25 rfl (by kernel_rfl)) rfl ?_
  exact ⟨rfl, (Only.refl Nil w).alloc _⟩
set_option maxHeartbeats 1600000 in
theorem arrR_any {U : Nat → Prop} (n f m : Int) (s : ByteArray) (hs : s.size ≤ maxLen) (ov : Value) (l : List Ty) (w : World) (h : TyS U w ov l) :
    Calls Tryd.prog 17 #[.int .i64 n, .agg #[.int .i64 f, .int .i64 m, .string s, ov]] w fun e w' => ∃ b, e = .returned (.agg #[.int .i64 7, .int .i64 n, .string ⟨#[]⟩, .slice (some ⟨b, 0, none⟩) 1 1]) ∧ TyS Any w' (.slice (some ⟨b, 0, none⟩) 1 1) [.mk f m s l] ∧ Only Nil w w' := by
  obtain ⟨ao, cap, rfl⟩ := h.slice
  obtain ⟨k, hk⟩ : ∃ k, l.length = k := ⟨_, rfl⟩
  rw [hk] at h ⊢
  have H := Lib.hid h
  clear h hk
  go_enter Tryd.func17, Tryd.ntmps17
  go_wp2_with fail
  have s1 : (w.alloc (.cells #[.int .i64 f, .int .i64 m, .string s, .slice ao k cap] 25)).heap.size = w.heap.size + 1 := by simp
  obtain ⟨w1, hw1⟩ : ∃ z, w.alloc (.cells #[.int .i64 f, .int .i64 m, .string s, .slice ao k cap] 25) = z := ⟨_, rfl⟩
  have o1 : Only Nil w w1 := by rw [← hw1]; exact (Only.refl Nil w).alloc _
  rw [hw1] at s1 ⊢
  have hB := Blk.new w1 #[.int .i64 7, .int .i64 n, .string ⟨#[]⟩, .slice (some ⟨w.heap.size + 1 + 1, 0, none⟩) 1 1] 25
  rw [s1] at hB
  have s2 : (w1.alloc (.cells #[.int .i64 7, .int .i64 n, .string ⟨#[]⟩, .slice (some ⟨w.heap.size + 1 + 1, 0, none⟩) 1 1] 25)).heap.size = w.heap.size + 1 + 1 := by simp [s1]
  obtain ⟨w2, hw2⟩ : ∃ z, w1.alloc (.cells #[.int .i64 7, .int .i64 n, .string ⟨#[]⟩, .slice (some ⟨w.heap.size + 1 + 1, 0, none⟩) 1 1] 25) = z := ⟨_, rfl⟩
  have o2 : Only Nil w1 w2 := by rw [← hw2]; exact (Only.refl Nil w1).alloc _
  rw [hw2] at s2 hB ⊢
  have hE := Blk.new w2 #[.int .i64 f, .int .i64 m, .string s, .slice ao k cap] 25
  rw [s2] at hE
  have hBr := hB.alloc (.cells #[.int .i64 f, .int .i64 m, .string s, .slice ao k cap] 25)
  have o3 := (alloc0 w2 (.cells #[.int .i64 f, .int .i64 m, .string s, .slice ao k cap] 25))
  obtain ⟨w3, hw3⟩ : ∃ z, w2.alloc (.cells #[.int .i64 f, .int .i64 m, .string s, .slice ao k cap] 25) = z := ⟨_, rfl⟩
  rw [hw3] at hE hBr o3 ⊢
  have O := Nil.trans (Nil.trans o1 o2) o3
  refine bodyPost_ret (results_cell_row rfl _ _ (w.heap.size + 1) 25 _ (0, 0) _ rfl hBr Tryd.underlying25 rfl (by kernel_rfl)) rfl ?_
  refine ⟨_, rfl, ?_, O⟩
  refine TyS.mk [.mk f m s l] _ 1 0 (w.heap.size + 1 + 1) (fun _ => .slice ao k cap) (fun _ => rfl) (fun h => by cases h) (fun _ => trivial) (by show 1 * 56 ≤ _; decide) (fun t ht => by simp only [List.mem_singleton] at ht; subst ht; exact hs) (fun i t hi j u hu => ?_) (fun i t hi => ?_)
  · have hil := (List.getElem?_eq_some_iff.1 hi).1
    have : i = 0 := by simp at hil; omega
    subst this
    simp only [List.getElem?_cons_zero, Option.some.injEq] at hi
    subst hi
    first | rw [show 0 + 0 * 4 + j = j by omega, hE.cell] | rw [hE.cell]
    rw [show (#[Value.int .i64 f, .int .i64 m, .string s, .slice ao k cap] : Array Value) = (tyCells (Ty.mk f m s l) (.slice ao k cap)).toArray from rfl, List.getElem?_toArray]
    exact hu
  · have hil := (List.getElem?_eq_some_iff.1 hi).1
    have : i = 0 := by simp at hil; omega
    subst this
    simp only [List.getElem?_cons_zero, Option.some.injEq] at hi
    subst hi
    exact ((H.out.go O).any)
end Go.Proofs.YtcbeibhmjokecaaDoor
