/- Expressions of constants in memory; the chapter example. -/
import Derived.Test.YtgicibblkmeoeaaProg
import Derived.Test.YtgicibblkmeoeaaWTold
set_option linter.unusedSimpArgs false
set_option linter.unusedVariables false
namespace Go.Proofs.Ytgicibblkmeoeaa
open Go.RowKit M

theorem flat8 (f : Ex → List Value) (hf : ∀ e, (f e).length = 8) : ∀ (L : List Ex) (i : Nat) (e : Ex), L[i]? = some e → ∀ j u, (f e)[j]? = some u → (L.flatMap f)[i * 8 + j]? = some u
  | [], i, e, h, _, _, _ => by simp at h
  | x :: L, 0, e, h, j, u, hu => by
    simp only [List.getElem?_cons_zero, Option.some.injEq] at h
    subst h
    have hj := (List.getElem?_eq_some_iff.1 hu).1
    rw [List.flatMap_cons, Nat.zero_mul, Nat.zero_add, List.getElem?_append_left (by omega)]
    exact hu
  | x :: L, i + 1, e, h, j, u, hu => by
    simp only [List.getElem?_cons_succ] at h
    have := flat8 f hf L i e h j u hu
    rw [List.flatMap_cons, List.getElem?_append_right (by rw [hf]; omega), hf, show (i + 1) * 8 + j - 8 = i * 8 + j by omega]
    exact this
/-- An expression that has nothing below it. -/
structure Leaf (e : Ex) : Prop where
  of : e.t.of = []
  x : e.x = []
  name : e.t.name.size ≤ maxLen
  s : e.s.size ≤ maxLen
  i : -2147483648 ≤ e.i ∧ e.i ≤ 2147483647
def leafC (e : Ex) : List Value := exCells e (.slice none 0 0) (.slice none 0 0)
theorem Leaf.num (f i : Int) (h : I32 i) : Leaf (numE f i) := ⟨rfl, rfl, Nat.zero_le _, Nat.zero_le _, h⟩
theorem ExS.leaves {w : World} {b off cap : Nat} (L : List Ex) (hl : ∀ e ∈ L, Leaf e) (hn : L.length * 112 ≤ 140737488355328) (hc : ∀ i e, L[i]? = some e → At w b (off + i * 8) (leafC e)) : ExS Any w (.slice (some ⟨b, off, none⟩) L.length cap) L :=
  ExS.mk L _ cap off b (fun _ => .slice none 0 0) (fun _ => .slice none 0 0) (fun _ => rfl) (fun h => by cases h) (fun _ => trivial) hn (fun e he => ⟨(hl e he).name, (hl e he).s, (hl e he).i⟩) hc
    (fun i e hi => by rw [(hl e (List.mem_of_getElem? hi)).of]; exact TyS.nil _ _) (fun i e hi => by rw [(hl e (List.mem_of_getElem? hi)).x]; exact ExS.nil _ _)
theorem ExS.blk {w : World} {b cap : Nat} {t : TypeId} (L : List Ex) (hl : ∀ e ∈ L, Leaf e) (hn : L.length * 112 ≤ 140737488355328) (hB : Blk w b (L.flatMap leafC).toArray t) : ExS Any w (.slice (some ⟨b, 0, none⟩) L.length cap) L :=
  ExS.leaves L hl hn (fun i e hi j u hu => by
    rw [Nat.zero_add, hB.cell, List.getElem?_toArray]
    exact flat8 leafC (fun _ => rfl) L i e hi j u hu)

set_option maxRecDepth 10000 in
set_option maxHeartbeats 3200000 in
theorem known13_any (w : World) : Calls Try.prog 8 #[] w fun e w' => e = .returned (.bool true) ∧ Only Nil w w' := by
  have CB := fun w => basicR_any 1 w
  have C1 := fun w => numP_any 1 1 w
  have C2 := fun w => numP_any 1 2 w
  go_enter Try.func8, Try.ntmps8
  go_wp2_with fail
  refine (CB _).mono ?_
  rintro e w1 ⟨rfl, ho1⟩
  go_wp2_with fail
  refine (C1 _).mono ?_
  rintro e w2 ⟨rfl, ho2⟩
  go_wp2_with fail
  refine (C2 _).mono ?_
  rintro e w3 ⟨rfl, ho3⟩
  have HO3 := Lib.hid (Nil.trans (Nil.trans ho1 ho2) ho3)
  clear ho1 ho2 ho3 CB C1 C2
  go_wp2_with fail
  have hS := (Blk.new w3 #[.int .i64 0, .int .i64 1, .int .i64 0, .string ⟨#[]⟩, .slice none 0 0, .int .i32 1, .string ⟨#[]⟩, .slice none 0 0, .int .i64 0, .int .i64 1, .int .i64 0, .string ⟨#[]⟩, .slice none 0 0, .int .i32 2, .string ⟨#[]⟩, .slice none 0 0] 27).alloc (.cells #[.int .i64 9, .int .i64 1, .int .i64 0, .string ⟨#[]⟩, .slice none 0 0, .int .i32 0, .string ⟨#[]⟩, .slice (some ⟨w3.heap.size, 0, none⟩) 2 2] 27)
  have hE := Blk.new (w3.alloc (.cells #[.int .i64 0, .int .i64 1, .int .i64 0, .string ⟨#[]⟩, .slice none 0 0, .int .i32 1, .string ⟨#[]⟩, .slice none 0 0, .int .i64 0, .int .i64 1, .int .i64 0, .string ⟨#[]⟩, .slice none 0 0, .int .i32 2, .string ⟨#[]⟩, .slice none 0 0] 27)) #[.int .i64 9, .int .i64 1, .int .i64 0, .string ⟨#[]⟩, .slice none 0 0, .int .i32 0, .string ⟨#[]⟩, .slice (some ⟨w3.heap.size, 0, none⟩) 2 2] 27
  rw [show (w3.alloc (.cells #[.int .i64 0, .int .i64 1, .int .i64 0, .string ⟨#[]⟩, .slice none 0 0, .int .i32 1, .string ⟨#[]⟩, .slice none 0 0, .int .i64 0, .int .i64 1, .int .i64 0, .string ⟨#[]⟩, .slice none 0 0, .int .i32 2, .string ⟨#[]⟩, .slice none 0 0] 27)).heap.size = w3.heap.size + 1 by simp] at hE
  have hO4 : Only Nil w3 ((w3.alloc (.cells #[.int .i64 0, .int .i64 1, .int .i64 0, .string ⟨#[]⟩, .slice none 0 0, .int .i32 1, .string ⟨#[]⟩, .slice none 0 0, .int .i64 0, .int .i64 1, .int .i64 0, .string ⟨#[]⟩, .slice none 0 0, .int .i32 2, .string ⟨#[]⟩, .slice none 0 0] 27)).alloc (.cells #[.int .i64 9, .int .i64 1, .int .i64 0, .string ⟨#[]⟩, .slice none 0 0, .int .i32 0, .string ⟨#[]⟩, .slice (some ⟨w3.heap.size, 0, none⟩) 2 2] 27)) := (alloc_nil _ _).alloc _
  obtain ⟨w4, hw4⟩ : ∃ z, (w3.alloc (.cells #[.int .i64 0, .int .i64 1, .int .i64 0, .string ⟨#[]⟩, .slice none 0 0, .int .i32 1, .string ⟨#[]⟩, .slice none 0 0, .int .i64 0, .int .i64 1, .int .i64 0, .string ⟨#[]⟩, .slice none 0 0, .int .i32 2, .string ⟨#[]⟩, .slice none 0 0] 27)).alloc (.cells #[.int .i64 9, .int .i64 1, .int .i64 0, .string ⟨#[]⟩, .slice none 0 0, .int .i32 0, .string ⟨#[]⟩, .slice (some ⟨w3.heap.size, 0, none⟩) 2 2] 27) = z := ⟨_, rfl⟩
  rw [hw4] at hS hE hO4 ⊢
  clear hw4
  have HO4 := Lib.hid (Nil.trans HO3.out hO4)
  have CE := expr_any (.mk 9 (.mk 1 0 ⟨#[]⟩ []) 0 ⟨#[]⟩ [numE 1 1, numE 1 2]) (TyS.nil Any w4) (ExS.blk (cap := 2) (t := 27) [numE 1 1, numE 1 2] (by
    intro e he
    simp only [List.mem_cons, List.not_mem_nil, or_false] at he
    rcases he with rfl | rfl
    · exact Leaf.num _ _ (by unfold I32; omega)
    · exact Leaf.num _ _ (by unfold I32; omega)) (by decide) hS) w4 (Only.refl _ _)
  unfold FoldPost at CE
  rw [show foldM (.mk 9 (.mk 1 0 ⟨#[]⟩ []) 0 ⟨#[]⟩ [numE 1 1, numE 1 2]) = (numE 1 3, 0) by kernel_rfl] at CE
  refine CE.mono ?_
  rintro e w5 ⟨ov1, xv1, rfl, hT1, hX1, ho5⟩
  obtain ⟨ao1, cap1, q1⟩ := hT1.slice
  obtain ⟨ao2, cap2, q2⟩ := hX1.slice
  rw [show (numE 1 3).t.of.length = 0 from rfl] at q1
  rw [show (numE 1 3).x.length = 0 from rfl] at q2
  subst q1
  subst q2
  rw [show (numE 1 3).op = 0 from rfl, show (numE 1 3).t.form = 1 from rfl, show (numE 1 3).t.n = 0 from rfl, show (numE 1 3).t.name = ⟨#[]⟩ from rfl, show (numE 1 3).i = 3 from rfl, show (numE 1 3).s = ⟨#[]⟩ from rfl]
  have hS5 := hS.kept ho5 (fun h => h)
  have hE5 := hE.kept ho5 (fun h => h)
  have HO5 := Lib.hid (Nil.trans HO4.out ho5)
  have HLT := Lib.hid hS.lt
  clear hS hE CE hT1 hX1 ho5 hO4
  have HS5 := Lib.hid hS5
  have HE5 := Lib.hid hE5
  have x7 := fun o => (hE5.alloc o).cell 7
  have x0 := fun o => (hE5.alloc o).cell 0
  have y0 := fun o => (hE5.alloc o).free 0
  have s13 := fun o => (hS5.alloc o).cell 13
  have t13 := fun o => (hS5.alloc o).free 13
  have z1 := fun o => (hE5.alloc o).cell 1
  have z2 := fun o => (hE5.alloc o).cell 2
  have z3 := fun o => (hE5.alloc o).cell 3
  have z4 := fun o => (hE5.alloc o).cell 4
  have z5 := fun o => (hE5.alloc o).cell 5
  have z6 := fun o => (hE5.alloc o).cell 6
  simp only [List.getElem?_toArray, List.getElem?_cons_zero, List.getElem?_cons_succ] at x7 x0 s13 z1 z2 z3 z4 z5 z6
  clear hS5 hE5
  go_wp2_with fail
  have hV := ((Blk.new w5 #[.int .i64 0, .int .i64 1, .int .i64 0, .string ⟨#[]⟩, .slice ao1 0 cap1, .int .i32 3, .string ⟨#[]⟩, .slice ao2 0 cap2] 27).setOther ⟨w3.heap.size + 1, 0, none⟩ (.int .i64 12) (Nat.ne_of_gt HE5.out.lt)).setOther ⟨w3.heap.size, 13, none⟩ (.int .i32 0) (Nat.ne_of_gt HS5.out.lt)
  have hS := ((HS5.out.alloc (.cells #[.int .i64 0, .int .i64 1, .int .i64 0, .string ⟨#[]⟩, .slice ao1 0 cap1, .int .i32 3, .string ⟨#[]⟩, .slice ao2 0 cap2] 27)).setOther ⟨w3.heap.size + 1, 0, none⟩ (.int .i64 12) (by show w3.heap.size ≠ w3.heap.size + 1; omega)).setCell 13 (.int .i32 0)
  have hE := ((HE5.out.alloc (.cells #[.int .i64 0, .int .i64 1, .int .i64 0, .string ⟨#[]⟩, .slice ao1 0 cap1, .int .i32 3, .string ⟨#[]⟩, .slice ao2 0 cap2] 27)).setCell 0 (.int .i64 12)).setOther ⟨w3.heap.size, 13, none⟩ (.int .i32 0) (by show w3.heap.size + 1 ≠ w3.heap.size; omega)
  simp only [List.setIfInBounds_toArray, List.set_cons_zero, List.set_cons_succ] at hS hE
  have hO6 := ((HO5.out.alloc (.cells #[.int .i64 0, .int .i64 1, .int .i64 0, .string ⟨#[]⟩, .slice ao1 0 cap1, .int .i32 3, .string ⟨#[]⟩, .slice ao2 0 cap2] 27)).setCell (p := ⟨w3.heap.size + 1, 0, none⟩) (fun h => absurd (show w3.heap.size + 1 < w.heap.size from h) (by have := HO3.out.size; omega)) (.int .i64 12)).setCell (p := ⟨w3.heap.size, 13, none⟩) (fun h => absurd (show w3.heap.size < w.heap.size from h) (by have := HO3.out.size; omega)) (.int .i32 0)
  obtain ⟨w6, hw6⟩ : ∃ z, ((w5.alloc (.cells #[.int .i64 0, .int .i64 1, .int .i64 0, .string ⟨#[]⟩, .slice ao1 0 cap1, .int .i32 3, .string ⟨#[]⟩, .slice ao2 0 cap2] 27)).setCell ⟨w3.heap.size + 1, 0, none⟩ (.int .i64 12)).setCell ⟨w3.heap.size, 13, none⟩ (.int .i32 0) = z := ⟨_, rfl⟩
  rw [hw6] at hV hS hE hO6 ⊢
  clear hw6 x7 x0 y0 s13 t13 z1 z2 z3 z4 z5 z6
  have CE := expr_any (.mk 12 (.mk 1 0 ⟨#[]⟩ []) 0 ⟨#[]⟩ [numE 1 1, numE 1 0]) (TyS.nil Any w6) (ExS.blk (cap := 2) (t := 27) [numE 1 1, numE 1 0] (by
    intro e he
    simp only [List.mem_cons, List.not_mem_nil, or_false] at he
    rcases he with rfl | rfl
    · exact Leaf.num _ _ (by unfold I32; omega)
    · exact Leaf.num _ _ (by unfold I32; omega)) (by decide) hS) w6 (Only.refl _ _)
  unfold FoldPost at CE
  rw [show foldM (.mk 12 (.mk 1 0 ⟨#[]⟩ []) 0 ⟨#[]⟩ [numE 1 1, numE 1 0]) = (nilE, 33) by kernel_rfl] at CE
  refine CE.mono ?_
  rintro e w7 ⟨ov2, xv2, rfl, hT1, hX1, ho7⟩
  obtain ⟨ao3, cap3, q1⟩ := hT1.slice
  obtain ⟨ao4, cap4, q2⟩ := hX1.slice
  rw [show nilE.t.of.length = 0 from rfl] at q1
  rw [show nilE.x.length = 0 from rfl] at q2
  subst q1
  subst q2
  rw [show nilE.op = 0 from rfl, show nilE.t.form = 0 from rfl, show nilE.t.n = 0 from rfl, show nilE.t.name = ⟨#[]⟩ from rfl, show nilE.i = 0 from rfl, show nilE.s = ⟨#[]⟩ from rfl]
  have HO7 := Lib.hid (Nil.trans hO6 ho7)
  obtain ⟨⟨a0, a1, a2, a3, a4, a5, a6, a7⟩, _⟩ := (hV.kept ho7 (fun h => h)).Eights
  obtain ⟨⟨b0, b1, b2, b3, b4, b5, b6, b7⟩, _⟩ := (hE.kept ho7 (fun h => h)).Eights
  have ka0 := fun o => (alloc_nil w7 o).cell a0 (fun h => h)
  have ka1 := fun o => (alloc_nil w7 o).cell a1 (fun h => h)
  have ka2 := fun o => (alloc_nil w7 o).cell a2 (fun h => h)
  have ka3 := fun o => (alloc_nil w7 o).cell a3 (fun h => h)
  have ka4 := fun o => (alloc_nil w7 o).cell a4 (fun h => h)
  have ka5 := fun o => (alloc_nil w7 o).cell a5 (fun h => h)
  have ka6 := fun o => (alloc_nil w7 o).cell a6 (fun h => h)
  have ka7 := fun o => (alloc_nil w7 o).cell a7 (fun h => h)
  have kb0 := fun o => (alloc_nil w7 o).cell b0 (fun h => h)
  have kb1 := fun o => (alloc_nil w7 o).cell b1 (fun h => h)
  have kb2 := fun o => (alloc_nil w7 o).cell b2 (fun h => h)
  have kb3 := fun o => (alloc_nil w7 o).cell b3 (fun h => h)
  have kb4 := fun o => (alloc_nil w7 o).cell b4 (fun h => h)
  have kb5 := fun o => (alloc_nil w7 o).cell b5 (fun h => h)
  have kb6 := fun o => (alloc_nil w7 o).cell b6 (fun h => h)
  have kb7 := fun o => (alloc_nil w7 o).cell b7 (fun h => h)
  have CV := fun w => isP_any 0 1 0 3 ⟨#[]⟩ ⟨#[]⟩ (.slice ao1 0 cap1) (.slice ao2 0 cap2) w
  have CF := fun w => isP_any 12 1 0 0 ⟨#[]⟩ ⟨#[]⟩ (.slice none 0 0) (.slice (some ⟨w3.heap.size, 0, none⟩) 2 2) w
  rw [show isCB 0 1 = true by decide] at CV
  rw [show isCB 12 1 = false by decide] at CF
  have HBE := Lib.hid (hE.kept ho7 (fun h => h))
  have HBV := Lib.hid (hV.kept ho7 (fun h => h))
  clear CE hT1 hX1 ho7 hO6 hS hE hV a0 a1 a2 a3 a4 a5 a6 a7 b0 b1 b2 b3 b4 b5 b6 b7 HS5 HE5
  go_wp2_with fail
  refine (CV _).mono ?_
  rintro e w8 ⟨rfl, ho8⟩
  obtain ⟨⟨a0, a1, a2, a3, a4, a5, a6, a7⟩, _⟩ := ((HBV.out.alloc _).kept ho8 (fun h => h)).Eights
  obtain ⟨⟨b0, b1, b2, b3, b4, b5, b6, b7⟩, _⟩ := ((HBE.out.alloc _).kept ho8 (fun h => h)).Eights
  have HO8 := Lib.hid (Nil.trans (HO7.out.alloc _) ho8)
  clear ho8 CV ka0 ka1 ka2 ka3 ka4 ka5 ka6 ka7 kb0 kb1 kb2 kb3 kb4 kb5 kb6 kb7
  go_wp2_with fail
  refine (CF _).mono ?_
  rintro e w9 ⟨rfl, ho9⟩
  have HO9 := Lib.hid (Nil.trans HO8.out ho9)
  clear ho9 CF
  go_wp2_with fail
  go_ret
  exact ⟨rfl, HO9.out⟩
end Go.Proofs.Ytgicibblkmeoeaa
