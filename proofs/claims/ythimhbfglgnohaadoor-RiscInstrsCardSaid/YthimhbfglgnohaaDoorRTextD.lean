/- The document's Text, of an instruction. -/
import Derived.Test.YthimhbfglgnohaaDoorRTextR
namespace Go.Proofs.YthimhbfglgnohaaDoor
open Go.RowKit M

theorem lit (l : List UInt8) : (⟨l.toArray⟩ : ByteArray) = txt l := rfl
theorem opArr (o : Nat) (h : o < 16) : (#[Value.string ⟨#[77, 79, 86]⟩, .string ⟨#[76, 83, 76]⟩, .string ⟨#[65, 83, 82]⟩, .string ⟨#[82, 79, 82]⟩, .string ⟨#[65, 78, 68]⟩, .string ⟨#[65, 78, 78]⟩, .string ⟨#[73, 79, 82]⟩, .string ⟨#[88, 79, 82]⟩,
    .string ⟨#[65, 68, 68]⟩, .string ⟨#[83, 85, 66]⟩, .string ⟨#[77, 85, 76]⟩, .string ⟨#[68, 73, 86]⟩, .string ⟨#[70, 65, 68]⟩, .string ⟨#[70, 83, 66]⟩, .string ⟨#[70, 77, 76]⟩, .string ⟨#[70, 68, 86]⟩] : Array Value)[o]'h = .string (txt (opTab.getD o [])) := by
  have : o = 0 ∨ o = 1 ∨ o = 2 ∨ o = 3 ∨ o = 4 ∨ o = 5 ∨ o = 6 ∨ o = 7 ∨ o = 8 ∨ o = 9 ∨ o = 10 ∨ o = 11 ∨ o = 12 ∨ o = 13 ∨ o = 14 ∨ o = 15 := by omega
  rcases this with rfl | rfl | rfl | rfl | rfl | rfl | rfl | rfl | rfl | rfl | rfl | rfl | rfl | rfl | rfl | rfl <;> rfl
theorem cndArr (o : Nat) (h : o < 16) : (#[Value.string ⟨#[77, 73]⟩, .string ⟨#[69, 81]⟩, .string ⟨#[67, 83]⟩, .string ⟨#[86, 83]⟩, .string ⟨#[76, 83]⟩, .string ⟨#[76, 84]⟩, .string ⟨#[76, 69]⟩, .string ⟨#[]⟩,
    .string ⟨#[80, 76]⟩, .string ⟨#[78, 69]⟩, .string ⟨#[67, 67]⟩, .string ⟨#[86, 67]⟩, .string ⟨#[72, 73]⟩, .string ⟨#[71, 69]⟩, .string ⟨#[71, 84]⟩, .string ⟨#[78, 86]⟩] : Array Value)[o]'h = .string (txt (cndTab.getD o [])) := by
  have : o = 0 ∨ o = 1 ∨ o = 2 ∨ o = 3 ∨ o = 4 ∨ o = 5 ∨ o = 6 ∨ o = 7 ∨ o = 8 ∨ o = 9 ∨ o = 10 ∨ o = 11 ∨ o = 12 ∨ o = 13 ∨ o = 14 ∨ o = 15 := by omega
  rcases this with rfl | rfl | rfl | rfl | rfl | rfl | rfl | rfl | rfl | rfl | rfl | rfl | rfl | rfl | rfl | rfl <;> rfl

set_option maxRecDepth 100000 in
set_option maxHeartbeats 6400000 in
theorem textR_any (F : Int) (u v : Bool) (a b c o : Nat) (m : Int) (w : World) (ha : a < 16) (hb : b < 16) (hc : c < 16) (ho : o < 16) (hm1 : -2147483648 ≤ m) (hm2 : m ≤ 2147483647) (hg : (Ins.mk F u v a b c o m).Good) :
    Calls Tryd.prog 10 #[(Ins.mk F u v a b c o m).val] w fun e w' => e = .returned (.string (txt (insT (Ins.mk F u v a b c o m)))) ∧ Only Nil w w' := by
  have cE := fun w => encR_good (Ins.mk F u v a b c o m) w hg
  obtain ⟨E, hE⟩ : ∃ E, enc (Ins.mk F u v a b c o m) = E := ⟨_, rfl⟩
  rw [hE] at cE
  unfold Ins.val Ins.cells at cE
  simp only at cE
  unfold Ins.val Ins.cells
  have hop := opArr o ho
  have hcn := cndArr a ha
  have l1 : (txt (opTab.getD o [])).size ≤ 10 := by
    rw [txt_size]
    have : ∀ k : Fin 16, (opTab.getD k.val []).length ≤ 10 := by decide
    exact this ⟨o, ho⟩
  have l2 : (txt (cndTab.getD a [])).size ≤ 10 := by
    rw [txt_size]
    have : ∀ k : Fin 16, (cndTab.getD k.val []).length ≤ 10 := by decide
    exact this ⟨a, ha⟩
  have l3 := regT_le a ha
  have l4 := regT_le b hb
  have l5 := regT_le c hc
  have l6 := itoa_le m (by omega) (by omega)
  rw [← txt_size] at l3 l4 l5 l6
  have cm := fun w => dec_any m w (by omega) (by omega)
  have ca := fun w => reg_any a w ha
  have cb := fun w => reg_any b w hb
  have cc := fun w => reg_any c w hc
  obtain ⟨X, hX⟩ : ∃ x, txt (opTab.getD o []) = x := ⟨_, rfl⟩
  obtain ⟨Y, hY⟩ : ∃ x, txt (cndTab.getD a []) = x := ⟨_, rfl⟩
  obtain ⟨ra, hra⟩ : ∃ x, txt (regT a) = x := ⟨_, rfl⟩
  obtain ⟨rb, hrb⟩ : ∃ x, txt (regT b) = x := ⟨_, rfl⟩
  obtain ⟨rc, hrc⟩ : ∃ x, txt (regT c) = x := ⟨_, rfl⟩
  obtain ⟨rm, hrm⟩ : ∃ x, txt (Lib.itoa m) = x := ⟨_, rfl⟩
  rw [hX] at hop l1
  rw [hY] at hcn l2
  rw [hra] at l3 ca
  rw [hrb] at l4 cb
  rw [hrc] at l5 cc
  rw [hrm] at l6 cm
  have HX := Lib.hid hX
  have HY := Lib.hid hY
  have HA := Lib.hid hra
  have HB := Lib.hid hrb
  have HC := Lib.hid hrc
  have HM := Lib.hid hrm
  have HG := Lib.hid hg
  clear hX hY hra hrb hrc hrm hg hE
  go_enter Tryd.func10, Tryd.ntmps10
  go_wp2_with fail
  refine (cE _).mono ?_
  rintro e w1 ⟨rfl, ho1⟩
  have hB := (Blk.new w #[Value.int .i64 F, .bool u, .bool v, .int .i64 a, .int .i64 b, .int .i64 c, .int .i64 o, .int .i32 m] 26).kept ho1 (fun h => h)
  have hoW : Only Nil w w1 := ((Only.refl Nil w).alloc _).trans ho1 (fun _ _ h => h)
  obtain ⟨bk, hbk⟩ : ∃ b, w.heap.size = b := ⟨_, rfl⟩
  rw [hbk] at hB ⊢
  have hlt := hB.lt
  have b0 := hB.cell 0
  have b1 := hB.cell 1
  have b2 := hB.cell 2
  have b3 := hB.cell 3
  have b4 := hB.cell 4
  have b5 := hB.cell 5
  have b6 := hB.cell 6
  have b7 := hB.cell 7
  simp only [List.getElem?_toArray, List.getElem?_cons_zero, List.getElem?_cons_succ] at b0 b1 b2 b3 b4 b5 b6 b7
  clear ho1 cE hbk hB
  go_wp2_with fail
  refine (cm _).mono ?_
  rintro e w2 ⟨rfl, rfl⟩
  go_wp2_with (go_at_call 24; refine (cc _).mono ?_; rintro e w1 ⟨rfl, rfl⟩)
  all_goals try go_quiet (((first | (go_at_call 24; exact Calls.quiet_of_same (ca _)) | (go_at_call 24; exact Calls.quiet_of_same (cb _)))))
  all_goals try go_wp2_with fail
  all_goals go_ret
  all_goals refine ⟨str_of ?_, by (repeat with_reducible first | exact hoW | refine Only.alloc ?_ _ | refine Only.drewN ?_ _ | refine Only.drew ?_)⟩
  all_goals
    have hX := HX.out
    have hY := HY.out
    have hA := HA.out
    have hB := HB.out
    have hC := HC.out
    have hM := HM.out
    have hG := HG.out
    clear HX HY HA HB HC HM HG
    subst hX hY hA hB hC hM
    simp only [lit, txt_append]
    refine congrArg txt ?_
    simp_all [insT, lineT, opT, memT, brT, join3, join2, join1]
end Go.Proofs.YthimhbfglgnohaaDoor
