/- Texts of what is no instruction; the chapter's example. -/
import Derived.Test.YthimhbfglgnohaaDoorRTextD
namespace Go.Proofs.YthimhbfglgnohaaDoor
open Go.RowKit M

/-- What both Texts tell: an instruction's text, or a question mark. -/
instance (i : Ins) : Decidable i.Good := by unfold Ins.Good; exact inferInstance
def insT' (i : Ins) : List UInt8 := if i.Good then insT i else [63]

set_option maxRecDepth 100000 in
theorem textI_no (F : Int) (u v : Bool) (A B C Op m : Int) (w : World) (hg : ¬ (Ins.mk F u v A B C Op m).Good) :
    Calls Tryd.prog 9 #[(Ins.mk F u v A B C Op m).val] w fun e w' => e = .returned (.string (txt [63])) ∧ Only Nil w w' := by
  have cE : ∀ w, Calls Tryd.prog 8 #[(Ins.mk F u v A B C Op m).val] w fun e w' => e = .returned (.tuple #[.int .u32 0, .int .i64 23]) ∧ Only Nil w w' := fun w =>
    (encI_any F u v A B C Op m w).mono fun e w' ⟨h, ho⟩ => ⟨h.elim (fun h => absurd h.1 hg) (fun h => h.2), ho⟩
  unfold Ins.val Ins.cells at cE
  simp only at cE
  unfold Ins.val Ins.cells
  clear hg
  go_enter Tryd.func9, Tryd.ntmps9
  go_wp2_with fail
  refine (cE _).mono ?_
  rintro e w1 ⟨rfl, ho1⟩
  go_wp2_with fail
  go_ret
  exact ⟨rfl, ((Only.refl Nil w).alloc _).trans ho1 (fun _ _ h => h)⟩

set_option maxRecDepth 100000 in
theorem textR_no (F : Int) (u v : Bool) (A B C Op m : Int) (w : World) (hm1 : -2147483648 ≤ m) (hm2 : m ≤ 2147483647) (hg : ¬ (Ins.mk F u v A B C Op m).Good) :
    Calls Tryd.prog 10 #[(Ins.mk F u v A B C Op m).val] w fun e w' => e = .returned (.string (txt [63])) ∧ Only Nil w w' := by
  have cE := fun w => encR_bad (Ins.mk F u v A B C Op m) w hm1 hm2 hg
  unfold EncBad Ins.val Ins.cells at cE
  simp only at cE
  unfold Ins.val Ins.cells
  clear hg
  go_enter Tryd.func10, Tryd.ntmps10
  go_wp2_with fail
  refine (cE _).mono ?_
  rintro e w1 ⟨⟨x, rfl⟩, ho1⟩
  go_wp2_with fail
  go_ret
  exact ⟨rfl, ((Only.refl Nil w).alloc _).trans ho1 (fun _ _ h => h)⟩

theorem good_small {i : Ins} (h : i.Good) : (0 ≤ i.A ∧ i.A < 16) ∧ (0 ≤ i.B ∧ i.B < 16) ∧ (0 ≤ i.C ∧ i.C < 16) ∧ (0 ≤ i.Op ∧ i.Op < 16) ∧ -2147483648 ≤ i.Imm ∧ i.Imm ≤ 2147483647 := by
  obtain ⟨_, _, h3, h4, h5⟩ := h
  omega

theorem textI (i : Ins) (w : World) (hT : Tabs w) : Calls Tryd.prog 9 #[i.val] w fun e w' => e = .returned (.string (txt (insT' i))) ∧ Only Nil w w' := by
  by_cases h : i.Good
  · have e : insT' i = insT i := by unfold insT'; rw [if_pos h]
    rw [e]
    obtain ⟨F, u, v, A, B, C, Op, m⟩ := i
    obtain ⟨⟨a1, a2⟩, ⟨b1, b2⟩, ⟨c1, c2⟩, ⟨o1, o2⟩, m1, m2⟩ := good_small h
    simp only at a1 a2 b1 b2 c1 c2 o1 o2 m1 m2
    obtain ⟨a, rfl⟩ := Int.eq_ofNat_of_zero_le a1
    obtain ⟨b, rfl⟩ := Int.eq_ofNat_of_zero_le b1
    obtain ⟨c, rfl⟩ := Int.eq_ofNat_of_zero_le c1
    obtain ⟨o, rfl⟩ := Int.eq_ofNat_of_zero_le o1
    exact text_any F u v a b c o m w (by omega) (by omega) (by omega) (by omega) m1 m2 hT h
  · have e : insT' i = [63] := by unfold insT'; rw [if_neg h]
    rw [e]
    exact textI_no i.F i.U i.V i.A i.B i.C i.Op i.Imm w h
theorem textR (i : Ins) (w : World) (hm1 : -2147483648 ≤ i.Imm) (hm2 : i.Imm ≤ 2147483647) : Calls Tryd.prog 10 #[i.val] w fun e w' => e = .returned (.string (txt (insT' i))) ∧ Only Nil w w' := by
  by_cases h : i.Good
  · have e : insT' i = insT i := by unfold insT'; rw [if_pos h]
    rw [e]
    obtain ⟨F, u, v, A, B, C, Op, m⟩ := i
    obtain ⟨⟨a1, a2⟩, ⟨b1, b2⟩, ⟨c1, c2⟩, ⟨o1, o2⟩, m1, m2⟩ := good_small h
    simp only at a1 a2 b1 b2 c1 c2 o1 o2 m1 m2
    obtain ⟨a, rfl⟩ := Int.eq_ofNat_of_zero_le a1
    obtain ⟨b, rfl⟩ := Int.eq_ofNat_of_zero_le b1
    obtain ⟨c, rfl⟩ := Int.eq_ofNat_of_zero_le c1
    obtain ⟨o, rfl⟩ := Int.eq_ofNat_of_zero_le o1
    exact textR_any F u v a b c o m w (by omega) (by omega) (by omega) (by omega) m1 m2 h
  · have e : insT' i = [63] := by unfold insT'; rw [if_neg h]
    rw [e]
    exact textR_no i.F i.U i.V i.A i.B i.C i.Op i.Imm w hm1 hm2 h

/-- The chapter's example. -/
def insX : Ins := ⟨1, false, false, 1, 0, 0, 0, 5⟩
theorem insX_good : insX.Good := by unfold insX Ins.Good; simp
theorem insX_enc : enc insX = 1090519045 := by decide
theorem insX_text : insT' insX = [77, 79, 86, 32, 82, 49, 44, 32, 82, 48, 44, 32, 53] := by
  have e : insT' insX = insT insX := by unfold insT'; rw [if_pos insX_good]
  rw [e]
  have h : ∀ n : Nat, n < 10 → Lib.itoa (n : Int) = [UInt8.ofNat (48 + n)] := fun n h => by rw [Lib.itoa_nonneg, Lib.decDigits_one h]
  have h0 : Lib.itoa 0 = [48] := h 0 (by decide)
  have h1 : Lib.itoa 1 = [49] := h 1 (by decide)
  have h5 : Lib.itoa 5 = [53] := h 5 (by decide)
  have e2 : insT insX = lineT (opT false false 0) [regT 1, regT 0, Lib.itoa 5] := by unfold insT; rw [if_neg (by decide), if_pos (show insX.F = 1 from rfl)]; rfl
  rw [e2]
  unfold lineT regT
  rw [join3, h0, h1, h5]
  decide

set_option maxRecDepth 100000 in
set_option maxHeartbeats 1600000 in
theorem known_any (w : World) (hT : Tabs w) : Calls Tryd.prog 5 #[] w fun e w' => e = .returned (.bool true) ∧ Only Nil w w' := by
  have c1 : ∀ w, Calls Tryd.prog 8 #[insX.val] w fun e w' => e = .returned (.tuple #[.int .u32 1090519045, .int .i64 0]) ∧ Only Nil w w' := fun w =>
    (encI_any 1 false false 1 0 0 0 5 w).mono fun e w' ⟨h, ho⟩ => ⟨h.elim (fun h => by rw [h.2]; exact congrArg (fun n : Nat => Ending.returned (.tuple #[.int .u32 (n : Int), .int .i64 0])) insX_enc) (fun h => absurd insX_good h.1), ho⟩
  have c2 : ∀ w, Calls Tryd.prog 8 #[(Ins.mk 4 false false 0 0 0 0 0).val] w fun e w' => e = .returned (.tuple #[.int .u32 0, .int .i64 23]) ∧ Only Nil w w' := fun w =>
    (encI_any 4 false false 0 0 0 0 0 w).mono fun e w' ⟨h, ho⟩ => ⟨h.elim (fun h => absurd h.1.2.1 (by simp)) (fun h => h.2), ho⟩
  have d1 : decI 1090519045 = insX ∧ isOk 1090519045 = true := by
    have := dec_enc insX insX_good
    rw [insX_enc] at this
    exact ⟨(decI_yes this.2).trans this.1, this.2⟩
  have c3 : ∀ w, Calls Tryd.prog 6 #[.int .u32 1090519045] w fun e w' => e = .returned (.tuple #[insX.val, .bool true]) ∧ Only Nil w w' := fun w => by
    have := decI_any 1090519045 w (by decide)
    rw [d1.1, d1.2] at this
    exact this
  have c4 : ∀ w, Tabs w → Calls Tryd.prog 9 #[insX.val] w fun e w' => e = .returned (.string (txt [77, 79, 86, 32, 82, 49, 44, 32, 82, 48, 44, 32, 53])) ∧ Only Nil w w' := fun w hT => by
    have := textI insX w hT
    rw [insX_text] at this
    exact this
  unfold Ins.val Ins.cells insX at c1 c3 c4
  unfold Ins.val Ins.cells at c2
  simp only at c1 c2 c3 c4
  clear d1
  go_enter Tryd.func5, Tryd.ntmps5
  go_wp2_with fail
  refine (c1 _).mono ?_
  rintro e w1 ⟨rfl, ho1⟩
  go_wp2_with fail
  refine (c3 _).mono ?_
  rintro e w2 ⟨rfl, ho2⟩
  go_wp2_with fail
  refine (c2 _).mono ?_
  rintro e w3 ⟨rfl, ho3⟩
  have hB := (Blk.new w2 #[Value.int .i64 1, .bool false, .bool false, .int .i64 1, .int .i64 0, .int .i64 0, .int .i64 0, .int .i32 5] 26).kept ho3 (fun h => h)
  have hoW : Only Nil w w3 := (ho1.trans ho2 (fun _ _ h => h)).trans (((Only.refl Nil _).alloc _).trans ho3 (fun _ _ h => h)) (fun _ _ h => h)
  have hlt := hB.lt
  have b0 := hB.cell 0
  have b1 := hB.cell 1
  have b2 := hB.cell 2
  have b3 := hB.cell 3
  have b4 := hB.cell 4
  have b5 := hB.cell 5
  have b6 := hB.cell 6
  have b7 := hB.cell 7
  simp only [List.getElem?_toArray, List.getElem?_cons_zero, List.getElem?_cons_succ] at b0 b1 b2 b3 b4 b5 b6 b7
  have C4 := Lib.hid (c4 w3 (hT.kept hoW))
  clear c1 c2 c3 c4 ho1 ho2 ho3 hT
  go_wp2_with fail
  refine C4.out.mono ?_
  rintro e w4 ⟨rfl, ho4⟩
  have hs : ((txt [77, 79, 86, 32, 82, 49, 44, 32, 82, 48, 44, 32, 53]).toList == [77, 79, 86, 32, 82, 49, 44, 32, 82, 48, 44, 32, 53]) = true := by rw [ByteArray.toList_eq]; rfl
  go_wp2_with fail
  go_ret
  exact ⟨rfl, hoW.trans ho4 (fun _ _ h => h)⟩
end Go.Proofs.YthimhbfglgnohaaDoor
