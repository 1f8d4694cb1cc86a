/- Told: both sides tell the same of any expression. -/
import Derived.Test.YtgicibblkmeoeaaProg
import Derived.Test.YtgicibblkmeoeaaWExpr
set_option linter.unusedSimpArgs false
set_option linter.unusedVariables false
namespace Go.Proofs.Ytgicibblkmeoeaa
open Go.RowKit M


set_option maxRecDepth 10000 in
set_option maxHeartbeats 3200000 in
theorem told_any {Z : Nat → Prop} {w0 : World} {ov xv : Value} (x : Ex) (h1 : TyS Z w0 ov x.t.of) (h2 : ExS Z w0 xv x.x) (w : World) (hw : Only Nil w0 w) :
    Calls Try.prog 10 #[.agg #[.int .i64 x.op, .int .i64 x.t.form, .int .i64 x.t.n, .string x.t.name, ov, .int .i32 x.i, .string x.s, xv]] w fun e w' => e = .returned (.bool true) ∧ Only Nil w w' := by
  have CP := fun w' (h' : Only Nil w0 w') => expr_any x h1 h2 w' h'
  have CR := fun w' (h' : Only Nil w0 w') => foldR_any x h1 h2 w' h'
  have CI := fun w' => isP_any x.op x.t.form x.t.n x.i x.t.name x.s ov xv w'
  have CJ := fun w' => isR_any x.op x.t.form x.t.n x.i x.t.name x.s ov xv w'
  have HW := Lib.hid hw
  clear hw
  unfold FoldPost at CP CR
  obtain ⟨yc, hyc⟩ : ∃ q, foldM x = q := ⟨_, rfl⟩
  rw [hyc] at CP CR
  obtain ⟨⟨yop, ⟨yf, yn, ys, yof⟩, yi, yst, yl⟩, c⟩ := yc
  simp only at CP CR
  obtain ⟨ao0, cap0, e0⟩ := h1.slice
  obtain ⟨ao, cap, e1⟩ := h2.slice
  subst e0
  subst e1
  obtain ⟨op, ⟨f, n, s, of⟩, i, st, l⟩ := x
  simp only [Ex.op, Ex.t, Ex.i, Ex.s, Ex.x, Ty.form, Ty.n, Ty.name, Ty.of] at CP CR CI CJ ⊢
  obtain ⟨m0, hm0⟩ : ∃ m, of.length = m := ⟨_, rfl⟩
  obtain ⟨m, hm⟩ : ∃ m, l.length = m := ⟨_, rfl⟩
  rw [hm0, hm] at CP CR CI CJ ⊢
  obtain ⟨b, hb⟩ : ∃ b, isCB op f = b := ⟨_, rfl⟩
  rw [hb] at CI CJ
  have HCP := Lib.hid CP
  have HCR := Lib.hid CR
  have HCI := Lib.hid CI
  have HCJ := Lib.hid CJ
  clear CP CR CI CJ h1 h2 hm0 hm hyc hb
  go_enter Try.func10, Try.ntmps10
  go_wp2_with fail
  refine (HCP.out _ (HW.out.alloc _)).mono ?_
  rintro e w3 ⟨ov1, xv1, rfl, hT1, hX1, ho3⟩
  obtain ⟨ao1, cap1, q1⟩ := hT1.slice
  obtain ⟨ao2, cap2, q2⟩ := hX1.slice
  obtain ⟨m1, hm1⟩ : ∃ m, yof.length = m := ⟨_, rfl⟩
  obtain ⟨m2, hm2⟩ : ∃ m, yl.length = m := ⟨_, rfl⟩
  rw [hm1] at q1
  rw [hm2] at q2
  subst q1
  subst q2
  have HT1 := Lib.hid hT1
  have HX1 := Lib.hid hX1
  have hB1 := (Blk.new w #[.int .i64 op, .int .i64 f, .int .i64 n, .string s, .slice ao0 m0 cap0, .int .i32 i, .string st, .slice ao m cap] 27).kept ho3 (fun h => h)
  have HB1 := Lib.hid hB1
  have HO3 : Hid (Only Nil w w3) := Lib.hid (Nil.trans (alloc_nil _ _) ho3)
  obtain ⟨⟨c0, c1, c2, c3, c4, c5, c6, c7⟩, _⟩ := hB1.Eights
  have kc : ∀ (j : Nat) (u : Value) (o : Obj), w3.cell? ⟨w.heap.size, j, none⟩ = some u → (w3.alloc o).cell? ⟨w.heap.size, j, none⟩ = some u := fun j u o h => (alloc_nil w3 o).cell h (fun h => h)
  have a0 := fun o => kc 0 _ o c0
  have a1 := fun o => kc 1 _ o c1
  have a2 := fun o => kc 2 _ o c2
  have a3 := fun o => kc 3 _ o c3
  have a4 := fun o => kc 4 _ o c4
  have a5 := fun o => kc 5 _ o c5
  have a6 := fun o => kc 6 _ o c6
  have a7 := fun o => kc 7 _ o c7
  have HM1 := Lib.hid hm1
  have HM2 := Lib.hid hm2
  clear hT1 hX1 ho3 hB1 HCP kc c0 c1 c2 c3 c4 c5 c6 c7 hm1 hm2
  go_wp2_with fail
  refine (HCR.out _ ((Nil.trans HW.out HO3.out).alloc _)).mono ?_
  rintro e w5 ⟨ov2, xv2, rfl, hT2, hX2, ho5⟩
  obtain ⟨ao3, cap3, q1⟩ := hT2.slice
  obtain ⟨ao4, cap4, q2⟩ := hX2.slice
  rw [HM1.out] at q1
  rw [HM2.out] at q2
  subst q1
  subst q2
  have HB3 : Hid (Blk w5 w3.heap.size #[.int .i64 yop, .int .i64 yf, .int .i64 yn, .string ys, .slice ao1 m1 cap1, .int .i32 yi, .string yst, .slice ao2 m2 cap2] 27) := Lib.hid ((Blk.new w3 #[.int .i64 yop, .int .i64 yf, .int .i64 yn, .string ys, .slice ao1 m1 cap1, .int .i32 yi, .string yst, .slice ao2 m2 cap2] 27).kept ho5 (fun h => h))
  have HB4 : Hid (Blk w5 w.heap.size #[.int .i64 op, .int .i64 f, .int .i64 n, .string s, .slice ao0 m0 cap0, .int .i32 i, .string st, .slice ao m cap] 27) := Lib.hid ((HB1.out.alloc _).kept ho5 (fun h => h))
  have H35 : Hid (Only Nil w3 w5) := Lib.hid (Nil.trans (alloc_nil _ _) ho5)
  have HT2 := Lib.hid hT2
  have HX2 := Lib.hid hX2
  clear hT2 hX2 ho5 HCR HB1 a0 a1 a2 a3 a4 a5 a6 a7
  go_wp2_with fail
  have hA := HB3.out.alloc (.cells #[.int .i64 yop, .int .i64 yf, .int .i64 yn, .string ys, .slice ao3 m1 cap3, .int .i32 yi, .string yst, .slice ao4 m2 cap4] 27)
  have hB := HB4.out.alloc (.cells #[.int .i64 yop, .int .i64 yf, .int .i64 yn, .string ys, .slice ao3 m1 cap3, .int .i32 yi, .string yst, .slice ao4 m2 cap4] 27)
  have hC := Blk.new w5 #[.int .i64 yop, .int .i64 yf, .int .i64 yn, .string ys, .slice ao3 m1 cap3, .int .i32 yi, .string yst, .slice ao4 m2 cap4] 27
  have hO6 : Only Nil w5 (w5.alloc (.cells #[.int .i64 yop, .int .i64 yf, .int .i64 yn, .string ys, .slice ao3 m1 cap3, .int .i32 yi, .string yst, .slice ao4 m2 cap4] 27)) := alloc_nil _ _
  obtain ⟨w6, hw6⟩ : ∃ z, w5.alloc (.cells #[.int .i64 yop, .int .i64 yf, .int .i64 yn, .string ys, .slice ao3 m1 cap3, .int .i32 yi, .string yst, .slice ao4 m2 cap4] 27) = z := ⟨_, rfl⟩
  rw [hw6] at hA hB hC hO6 ⊢
  clear hw6
  obtain ⟨⟨a0, a1, a2, a3, a4, a5, a6, a7⟩, _⟩ := hA.Eights
  obtain ⟨⟨b0, b1, b2, b3, b4, b5, b6, b7⟩, _⟩ := hB.Eights
  obtain ⟨⟨d0, d1, d2, d3, d4, d5, d6, d7⟩, _⟩ := hC.Eights
  have ka0 := fun n' : NilW w6 => n'.cell a0
  have ka1 := fun n' : NilW w6 => n'.cell a1
  have ka2 := fun n' : NilW w6 => n'.cell a2
  have ka3 := fun n' : NilW w6 => n'.cell a3
  have ka4 := fun n' : NilW w6 => n'.cell a4
  have ka5 := fun n' : NilW w6 => n'.cell a5
  have ka6 := fun n' : NilW w6 => n'.cell a6
  have ka7 := fun n' : NilW w6 => n'.cell a7
  have kb0 := fun n' : NilW w6 => n'.cell b0
  have kb1 := fun n' : NilW w6 => n'.cell b1
  have kb2 := fun n' : NilW w6 => n'.cell b2
  have kb3 := fun n' : NilW w6 => n'.cell b3
  have kb4 := fun n' : NilW w6 => n'.cell b4
  have kb5 := fun n' : NilW w6 => n'.cell b5
  have kb6 := fun n' : NilW w6 => n'.cell b6
  have kb7 := fun n' : NilW w6 => n'.cell b7
  have kd0 := fun n' : NilW w6 => n'.cell d0
  have kd1 := fun n' : NilW w6 => n'.cell d1
  have kd2 := fun n' : NilW w6 => n'.cell d2
  have kd3 := fun n' : NilW w6 => n'.cell d3
  have kd4 := fun n' : NilW w6 => n'.cell d4
  have kd5 := fun n' : NilW w6 => n'.cell d5
  have kd6 := fun n' : NilW w6 => n'.cell d6
  have kd7 := fun n' : NilW w6 => n'.cell d7
  have T1 := (HT1.out.go H35.out).go hO6
  have X1 := (HX1.out.go H35.out).go hO6
  have T2 := HT2.out.go hO6
  have X2 := HX2.out.go hO6
  have CS := sameExpr_any (.mk yop (.mk yf yn ys yof) yi yst yl) (.mk yop (.mk yf yn ys yof) yi yst yl) (.slice ao1 m1 cap1) (.slice ao3 m1 cap3) (.slice ao2 m2 cap2) (.slice ao4 m2 cap4) T1 X1 T2 X2
  unfold SameP at CS
  rw [eqB_true rfl] at CS
  have HCS := Lib.hid CS
  have HO6 := Lib.hid (Nil.trans (Nil.trans HO3.out H35.out) hO6)
  clear hA hB hC hO6 T1 X1 T2 X2 CS a0 a1 a2 a3 a4 a5 a6 a7 b0 b1 b2 b3 b4 b5 b6 b7 d0 d1 d2 d3 d4 d5 d6 d7 HT1 HX1 HT2 HX2 HB3 HB4 H35 HM1 HM2
  refine wp_region_nilq (by kernel_rfl) (by kernel_rfl) ?_
  repeat (quiet_step (first | (go_at_call 13; exact Calls.nilq_of (HCS.out _ (NilW.only _))) | (go_at_call 23; exact Calls.nilq_of (HCI.out _)) | (go_at_call 26; exact Calls.nilq_of (HCJ.out _))))
  refine wpQuiet_nil ?_
  intro w7 h7
  obtain ⟨n7, e7⟩ := h7
  have h7 := n7.only
  rw [← e7] at h7
  clear e7 n7
  have HO7 := Lib.hid (Nil.trans HO6.out h7)
  clear h7
  go_wp2_with fail
  go_ret
  exact ⟨by simp, HO7.out⟩
end Go.Proofs.Ytgicibblkmeoeaa
