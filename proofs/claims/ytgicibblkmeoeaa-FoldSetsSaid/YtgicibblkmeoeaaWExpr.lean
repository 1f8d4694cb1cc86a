/- What is told of an expression: both sides. -/
import Derived.Test.YtgicibblkmeoeaaProg
import Derived.Test.YtgicibblkmeoeaaWClone
import Derived.Test.YtgicibblkmeoeaaWUnion
import Derived.Test.YtgicibblkmeoeaaWConR
import Derived.Test.YtgicibblkmeoeaaWNum
set_option linter.unusedSimpArgs false
set_option linter.unusedVariables false
namespace Go.Proofs.Ytgicibblkmeoeaa
open Go.RowKit M

/-- What value answers: whatever where there is none. -/
def VOut (r : Option Int) (e : Ending) : Prop := ∃ d, VEnd d r e
/-- Of what is known there are as many as its operator has. -/
theorem foldB_cases {x : Ex} (h : foldB x = true) : (x.op = 24 ∧ x.x.all elemM = true) ∨ ((x.op = 7 ∨ x.op = 8 ∨ x.op = 27 ∨ x.op = 28 ∨ x.op = 32 ∨ x.op = 33) ∧ ∃ e0, x.x = [e0]) ∨ (((9 ≤ x.op ∧ x.op ≤ 22) ∨ x.op = 29 ∨ x.op = 30 ∨ x.op = 31) ∧ ∃ e0 e1, x.x = [e0, e1]) := by
  unfold foldB at h
  by_cases h1 : x.op = 24
  · rw [if_pos h1] at h; exact Or.inl ⟨h1, h⟩
  · rw [if_neg h1] at h
    unfold knownM at h
    simp only [Bool.and_eq_true, decide_eq_true_eq] at h
    obtain ⟨ha, _, hl⟩ := h
    unfold arM at ha hl
    split at hl
    · rename_i h2
      refine Or.inr (Or.inl ⟨h2, ?_⟩)
      match hx : x.x, hl with
      | [e0], _ => exact ⟨e0, rfl⟩
    · rename_i h2
      split at hl
      · rename_i h3
        refine Or.inr (Or.inr ⟨h3, ?_⟩)
        match hx : x.x, hl with
        | [e0, e1], _ => exact ⟨e0, e1, rfl⟩
      · rename_i h3; rw [if_neg h2, if_neg h3] at ha; omega
theorem valM_set {x : Ex} (h : x.op = 24) : valM x = (unionM x.x 0).map S := by unfold valM; rw [if_pos h]
theorem valM_one {x e0 : Ex} (h : x.op ≠ 24) (hx : x.x = [e0]) : valM x = oneM x.op e0.t.form e0.i := by unfold valM; rw [if_neg h, hx]; rfl
theorem valM_two {x e0 e1 : Ex} (h : x.op ≠ 24) (hx : x.x = [e0, e1]) : valM x = binM x.op e0.t.form e0.i e1.i := by unfold valM; rw [if_neg h, hx]; rfl
set_option maxRecDepth 10000 in
theorem value_set {Z : Nat → Prop} {w0 : World} {ov xv : Value} {l : List Ex} (f n i : Int) (nm st : ByteArray) (h : ExS Z w0 xv l) (hel : l.all elemM = true) (w : World) (hw : Only Nil w0 w) :
    Calls Try.prog 59 #[.agg #[.int .i64 24, .int .i64 f, .int .i64 n, .string nm, ov, .int .i32 i, .string st, xv]] w fun e w' => VEnd 0 ((unionM l 0).map S) e ∧ Only Nil w w' := by
  have HW := Lib.hid hw
  have HC := Lib.hid (fun w' (h' : Only Nil w0 w') => union_any h hel w' h')
  obtain ⟨r, hr⟩ : ∃ r, (unionM l 0).map S = r := ⟨_, rfl⟩
  rw [hr] at HC ⊢
  unfold VEnd at HC ⊢
  obtain ⟨ao, cap, e⟩ := h.slice
  subst e
  obtain ⟨m, hm⟩ : ∃ m, l.length = m := ⟨_, rfl⟩
  rw [hm] at HC ⊢
  clear hr hm h hel hw
  go_enter Try.func59, Try.ntmps59
  go_wp2_with fail
  refine (HC.out _ (HW.out.alloc _)).mono ?_
  rintro e w3 ⟨rfl, ho3⟩
  have HO3 : Hid (Only Nil w w3) := Lib.hid (Nil.trans (alloc_nil _ _) ho3)
  clear HC ho3
  go_wp2_with fail
  go_ret2
  exact ⟨rfl, HO3.out⟩
theorem value_any {Z : Nat → Prop} {w0 : World} {ov xv : Value} (x : Ex) (h : ExS Z w0 xv x.x) (hf : foldB x = true) (w : World) (hw : Only Nil w0 w) :
    Calls Try.prog 59 #[.agg #[.int .i64 x.op, .int .i64 x.t.form, .int .i64 x.t.n, .string x.t.name, ov, .int .i32 x.i, .string x.s, xv]] w fun e w' => VOut (valM x) e ∧ Only Nil w w' := by
  rcases foldB_cases hf with ⟨h1, h2⟩ | ⟨h1, e0, hx⟩ | ⟨h1, e0, e1, hx⟩
  · rw [valM_set h1, h1]
    exact (value_set _ _ _ _ _ h h2 w hw).mono (fun e w' hh => ⟨⟨_, hh.1⟩, hh.2⟩)
  · rw [valM_one (by omega) hx]
    rw [hx] at h
    exact (value_one _ _ _ _ _ _ h w hw h1).mono (fun e w' hh => ⟨⟨_, hh.1⟩, hh.2⟩)
  · rw [valM_two (by omega) hx]
    rw [hx] at h
    exact (value_two _ _ _ _ _ _ h w hw h1).mono (fun e w' hh => ⟨⟨_, hh.1⟩, hh.2⟩)
theorem constant_any {Z : Nat → Prop} {w0 : World} {ov xv : Value} (x : Ex) (h : ExS Z w0 xv x.x) (hf : foldB x = true) (w : World) (hw : Only Nil w0 w) :
    Calls Try.prog 61 #[.agg #[.int .i64 x.op, .int .i64 x.t.form, .int .i64 x.t.n, .string x.t.name, ov, .int .i32 x.i, .string x.s, xv]] w fun e w' => VOut (valM x) e ∧ Only Nil w w' := by
  rcases foldB_cases hf with ⟨h1, h2⟩ | ⟨h1, e0, hx⟩ | ⟨h1, e0, e1, hx⟩
  · rw [valM_set h1, h1]
    exact (constant_set _ _ _ _ _ h h2 w hw).mono (fun e w' hh => ⟨⟨_, hh.1⟩, hh.2⟩)
  · rw [valM_one (by omega) hx]
    rw [hx] at h
    exact (constant_one _ _ _ _ _ _ h w hw h1).mono (fun e w' hh => ⟨⟨_, hh.1⟩, hh.2⟩)
  · rw [valM_two (by omega) hx]
    rw [hx] at h
    exact (constant_two _ _ _ _ _ _ h w hw h1).mono (fun e w' hh => ⟨⟨_, hh.1⟩, hh.2⟩)
theorem foldable_any {Z : Nat → Prop} {w0 : World} {ov xv : Value} (x : Ex) (h : ExS Z w0 xv x.x) (w : World) (hw : Only Nil w0 w) :
    Calls Try.prog 60 #[.agg #[.int .i64 x.op, .int .i64 x.t.form, .int .i64 x.t.n, .string x.t.name, ov, .int .i32 x.i, .string x.s, xv]] w fun e w' => e = .returned (.bool (foldB x)) ∧ Only Nil w w' := by
  unfold foldB
  by_cases h1 : x.op = 24
  · rw [if_pos h1, h1]; exact foldable_set _ _ _ _ _ h w hw
  · rw [if_neg h1]; exact foldable_other _ _ _ _ _ _ h w hw h1

/-- What Expr and Fold leave. -/
def FoldPost (x : Ex) (w : World) (e : Ending) (w' : World) : Prop :=
  ∃ ov' xv', e = .returned (.tuple #[.agg #[.int .i64 (foldM x).1.op, .int .i64 (foldM x).1.t.form, .int .i64 (foldM x).1.t.n, .string (foldM x).1.t.name, ov', .int .i32 (foldM x).1.i, .string (foldM x).1.s, xv'], .int .i64 (foldM x).2]) ∧ TyS Any w' ov' (foldM x).1.t.of ∧ ExS Any w' xv' (foldM x).1.x ∧ Only Nil w w'
theorem foldM_no {x : Ex} (h : foldB x = false) : foldM x = (x, 0) := by unfold foldM; rw [h]; rfl
theorem foldM_none {x : Ex} (h : foldB x = true) (h2 : valM x = none) : foldM x = (nilE, 33) := by unfold foldM; rw [h, h2]; rfl
theorem foldM_some {x : Ex} {v : Int} (h : foldB x = true) (h2 : valM x = some v) : foldM x = (numE x.t.form v, 0) := by unfold foldM; rw [h, h2]; rfl

set_option maxRecDepth 10000 in
set_option maxHeartbeats 3200000 in
theorem expr_any {Z : Nat → Prop} {w0 : World} {ov xv : Value} (x : Ex) (h1 : TyS Z w0 ov x.t.of) (h2 : ExS Z w0 xv x.x) (w : World) (hw : Only Nil w0 w) :
    Calls Try.prog 22 #[.agg #[.int .i64 x.op, .int .i64 x.t.form, .int .i64 x.t.n, .string x.t.name, ov, .int .i32 x.i, .string x.s, xv]] w (FoldPost x w) := by
  have CK := fun w' (h' : Only Nil w0 w') => isKnown_any (ov := ov) x h2 w' h'
  have CV := fun (hf : foldB x = true) w' (h' : Only Nil w0 w') => value_any (ov := ov) x h2 hf w' h'
  have CC := fun w' (h' : Only Nil w0 w') => clone_any h2 x ov w' rfl h1 h'
  have HW := Lib.hid hw
  have H1 := Lib.hid h1
  have H2 := Lib.hid h2
  clear hw
  obtain ⟨op, ⟨f, n, s, of⟩, i, st, l⟩ := x
  obtain ⟨ao0, cap0, e0⟩ := h1.slice
  obtain ⟨ao, cap, e1⟩ := h2.slice
  subst e0
  subst e1
  simp only [Ex.op, Ex.t, Ex.i, Ex.s, Ex.x, Ty.form, Ty.n, Ty.name, Ty.of] at CK CV CC H1 H2 ⊢
  obtain ⟨m0, hm0⟩ : ∃ m, of.length = m := ⟨_, rfl⟩
  obtain ⟨m, hm⟩ : ∃ m, l.length = m := ⟨_, rfl⟩
  rw [hm0, hm] at CK CV CC ⊢
  have H1' : Hid (TyS Z w0 (.slice ao0 m0 cap0) of) := Lib.hid (by rw [← hm0]; exact H1.out)
  have H2' : Hid (ExS Z w0 (.slice ao m cap) l) := Lib.hid (by rw [← hm]; exact H2.out)
  have HCK := Lib.hid CK
  have HCV := Lib.hid CV
  have HCC := Lib.hid CC
  clear CK CV CC h1 h2 hm hm0 H1 H2
  obtain ⟨b, hb⟩ : ∃ b, foldB (.mk op (.mk f n s of) i st l) = b := ⟨_, rfl⟩
  obtain ⟨r, hr⟩ : ∃ r, valM (.mk op (.mk f n s of) i st l) = r := ⟨_, rfl⟩
  rw [hb] at HCK HCV
  rw [hr] at HCV
  have HB := Lib.hid hb
  have HR := Lib.hid hr
  clear hb hr
  have hW1 : Hid (∀ o o2, Only Nil w0 ((w.alloc o).alloc o2)) := Lib.hid (fun o o2 => (HW.out.alloc o).alloc o2)
  go_enter Try.func22, Try.ntmps22
  go_wp2_with fail
  refine (HCK.out _ (hW1.out _ _)).mono ?_
  rintro e w3 ⟨rfl, ho3⟩
  have hB1 := ((Blk.new w #[.int .i64 op, .int .i64 f, .int .i64 n, .string s, .slice ao0 m0 cap0, .int .i32 i, .string st, .slice ao m cap] 27).alloc (.cells #[.int .i64 0, .int .i64 0, .int .i64 0, .string ⟨#[]⟩, .slice none 0 0, .int .i32 0, .string ⟨#[]⟩, .slice none 0 0] 27)).kept ho3 (fun h => h)
  have hB2 := Blk.new (w.alloc (.cells #[.int .i64 op, .int .i64 f, .int .i64 n, .string s, .slice ao0 m0 cap0, .int .i32 i, .string st, .slice ao m cap] 27)) #[.int .i64 0, .int .i64 0, .int .i64 0, .string ⟨#[]⟩, .slice none 0 0, .int .i32 0, .string ⟨#[]⟩, .slice none 0 0] 27
  rw [show (w.alloc (.cells #[.int .i64 op, .int .i64 f, .int .i64 n, .string s, .slice ao0 m0 cap0, .int .i32 i, .string st, .slice ao m cap] 27)).heap.size = w.heap.size + 1 by simp] at hB2
  replace hB2 := hB2.kept ho3 (fun h => h)
  have HO3 : Hid (Only Nil w w3) := Lib.hid (Nil.trans ((alloc_nil _ _).alloc _) ho3)
  have HB1 := Lib.hid hB1
  have HB2 := Lib.hid hB2
  have HSZ : Hid (w.heap.size + 1 < w.heap.size → Nil (w.heap.size + 1)) := Lib.hid (fun h => by omega)
  obtain ⟨⟨c0, c1, c2, c3, c4, c5, c6, c7⟩, g0, g1, g2, g3, g4, g5, g6, g7⟩ := hB1.Eights
  obtain ⟨⟨r0, r1, r2, r3, r4, r5, r6, r7⟩, f0, f1, f2, f3, f4, f5, f6, f7⟩ := hB2.Eights
  clear hB1 hB2 ho3 HCK hW1
  cases b
  ·
    have E := Lib.hid (foldM_no HB.out)
    go_wp2_with fail
    refine (HCC.out _ (Nil.trans HW.out HO3.out)).mono ?_
    rintro e w4 ⟨ov', xv', rfl, hT, hX, ho4⟩
    obtain ⟨ao4, cap4, e4⟩ := hT.slice
    obtain ⟨ao6, cap6, e6⟩ := hX.slice
    subst e4
    subst e6
    simp only [Ex.op, Ex.t, Ex.i, Ex.s, Ex.x, Ty.form, Ty.n, Ty.name, Ty.of] at hT hX ⊢
    have hB := HB2.out.kept ho4 (fun h => h)
    have HB4 := Lib.hid hB
    obtain ⟨⟨q0, q1, q2, q3, q4, q5, q6, q7⟩, k0, k1, k2, k3, k4, k5, k6, k7⟩ := hB.Eights
    have HO4 := Lib.hid (Nil.trans HO3.out ho4)
    have HO9 := Lib.hid ho4
    have HT4 := Lib.hid hT
    have HX4 := Lib.hid hX
    have HS3 := HO3.out.size
    have HS4 : Hid (∀ q, New w3.heap.size w4.heap.size q → ¬ One (w.heap.size + 1) q) := Lib.hid (fun q hq h => by have := HB2.out.lt; have := hq.1; have h2 : q = w.heap.size + 1 := h; omega)
    clear hT hX hB ho4 HCC HCV HS3
    go_wp2_with fail
    refine bodyPost_ret (results_row_tmp' rfl _ _ (w.heap.size + 1) 27 _ (0, 0) _ _ rfl rfl (HB4.out.putEight _ _ _ _ _ _ _ _) Try.underlying27 rfl (by kernel_rfl)) rfl ?_
    have hP := (Only.refl (M.One (w.heap.size + 1)) w4).putEight (fun _ => rfl) (.int .i64 op) (.int .i64 f) (.int .i64 n) (.string s) (.slice ao4 of.length cap4) (.int .i32 i) (.string st) (.slice ao6 l.length cap6)
    rw [show FoldPost _ _ = FoldPost (.mk op (.mk f n s of) i st l) w from rfl]
    unfold FoldPost
    rw [E.out]
    exact ⟨_, _, rfl, (HT4.out.kept hP HS4.out).any, (HX4.out.kept hP HS4.out).any, HO4.out.putEight HSZ.out _ _ _ _ _ _ _ _⟩
  ·
    go_wp2_with fail
    refine (HCV.out trivial _ (Nil.trans HW.out HO3.out)).mono ?_
    rintro e w4 ⟨⟨d, hv⟩, ho4⟩
    have hB := HB2.out.kept ho4 (fun h => h)
    have HB4 := Lib.hid hB
    obtain ⟨⟨q0, q1, q2, q3, q4, q5, q6, q7⟩, k0, k1, k2, k3, k4, k5, k6, k7⟩ := hB.Eights
    have hB5 := HB1.out.kept ho4 (fun h => h)
    have d1 := hB5.cell 1
    simp only [List.getElem?_toArray, List.getElem?_cons_zero, List.getElem?_cons_succ] at d1
    have HO4 := Lib.hid (Nil.trans HO3.out ho4)
    clear hB hB5 ho4 HCC HCV c0 c1 c2 c3 c4 c5 c6 c7 g0 g1 g2 g3 g4 g5 g6 g7 r0 r1 r2 r3 r4 r5 r6 r7 f0 f1 f2 f3 f4 f5 f6 f7
    unfold VEnd at hv
    subst hv
    cases r with
    | none =>
      have E := Lib.hid (foldM_none HB.out HR.out)
      go_wp2_with fail
      refine bodyPost_ret (results_row_tmp' rfl _ _ (w.heap.size + 1) 27 _ (0, 0) _ _ rfl rfl (HB4.out.putEight _ _ _ _ _ _ _ _) Try.underlying27 rfl (by kernel_rfl)) rfl ?_
      rw [show FoldPost _ _ = FoldPost (.mk op (.mk f n s of) i st l) w from rfl]
      unfold FoldPost
      rw [E.out]
      exact ⟨_, _, rfl, TyS.nil _ _, ExS.nil _ _, HO4.out.putEight HSZ.out _ _ _ _ _ _ _ _⟩
    | some v =>
      have E := Lib.hid (foldM_some HB.out HR.out)
      have CN := fun w => numP_any f v w
      go_wp2_with fail
      refine (CN _).mono ?_
      rintro e w5 ⟨rfl, ho5⟩
      have hB := HB4.out.kept ho5 (fun h => h)
      have HB5 := Lib.hid hB
      obtain ⟨⟨r0, r1, r2, r3, r4, r5, r6, r7⟩, f0, f1, f2, f3, f4, f5, f6, f7⟩ := hB.Eights
      have HO5 := Lib.hid (Nil.trans HO4.out ho5)
      clear hB ho5 CN q0 q1 q2 q3 q4 q5 q6 q7 k0 k1 k2 k3 k4 k5 k6 k7
      go_wp2_with fail
      refine bodyPost_ret (results_row_tmp' rfl _ _ (w.heap.size + 1) 27 _ (0, 0) _ _ rfl rfl (HB5.out.putEight _ _ _ _ _ _ _ _) Try.underlying27 rfl (by kernel_rfl)) rfl ?_
      rw [show FoldPost _ _ = FoldPost (.mk op (.mk f n s of) i st l) w from rfl]
      unfold FoldPost
      rw [E.out]
      exact ⟨_, _, rfl, TyS.nil _ _, ExS.nil _ _, HO5.out.putEight HSZ.out _ _ _ _ _ _ _ _⟩

set_option maxRecDepth 10000 in
set_option maxHeartbeats 3200000 in
theorem foldR_any {Z : Nat → Prop} {w0 : World} {ov xv : Value} (x : Ex) (h1 : TyS Z w0 ov x.t.of) (h2 : ExS Z w0 xv x.x) (w : World) (hw : Only Nil w0 w) :
    Calls Try.prog 25 #[.agg #[.int .i64 x.op, .int .i64 x.t.form, .int .i64 x.t.n, .string x.t.name, ov, .int .i32 x.i, .string x.s, xv]] w (FoldPost x w) := by
  have CK := fun w' (h' : Only Nil w0 w') => foldable_any (ov := ov) x h2 w' h'
  have CV := fun (hf : foldB x = true) w' (h' : Only Nil w0 w') => constant_any (ov := ov) x h2 hf w' h'

  have HW := Lib.hid hw
  have H1 := Lib.hid h1
  have H2 := Lib.hid h2
  clear hw
  obtain ⟨op, ⟨f, n, s, of⟩, i, st, l⟩ := x
  obtain ⟨ao0, cap0, e0⟩ := h1.slice
  obtain ⟨ao, cap, e1⟩ := h2.slice
  subst e0
  subst e1
  simp only [Ex.op, Ex.t, Ex.i, Ex.s, Ex.x, Ty.form, Ty.n, Ty.name, Ty.of] at CK CV H1 H2 ⊢
  obtain ⟨m0, hm0⟩ : ∃ m, of.length = m := ⟨_, rfl⟩
  obtain ⟨m, hm⟩ : ∃ m, l.length = m := ⟨_, rfl⟩
  rw [hm0, hm] at CK CV ⊢
  have H1' : Hid (TyS Z w0 (.slice ao0 m0 cap0) of) := Lib.hid (by rw [← hm0]; exact H1.out)
  have H2' : Hid (ExS Z w0 (.slice ao m cap) l) := Lib.hid (by rw [← hm]; exact H2.out)
  have HCK := Lib.hid CK
  have HCV := Lib.hid CV
  clear CK CV h1 h2 hm hm0 H1 H2
  obtain ⟨b, hb⟩ : ∃ b, foldB (.mk op (.mk f n s of) i st l) = b := ⟨_, rfl⟩
  obtain ⟨r, hr⟩ : ∃ r, valM (.mk op (.mk f n s of) i st l) = r := ⟨_, rfl⟩
  rw [hb] at HCK HCV
  rw [hr] at HCV
  have HB := Lib.hid hb
  have HR := Lib.hid hr
  clear hb hr
  have hW1 : Hid (∀ o o2, Only Nil w0 ((w.alloc o).alloc o2)) := Lib.hid (fun o o2 => (HW.out.alloc o).alloc o2)
  go_enter Try.func25, Try.ntmps25
  go_wp2_with fail
  refine (HCK.out _ (hW1.out _ _)).mono ?_
  rintro e w3 ⟨rfl, ho3⟩
  have hB1 := ((Blk.new w #[.int .i64 op, .int .i64 f, .int .i64 n, .string s, .slice ao0 m0 cap0, .int .i32 i, .string st, .slice ao m cap] 27).alloc (.cells #[.int .i64 0, .int .i64 0, .int .i64 0, .string ⟨#[]⟩, .slice none 0 0, .int .i32 0, .string ⟨#[]⟩, .slice none 0 0] 27)).kept ho3 (fun h => h)
  have hB2 := Blk.new (w.alloc (.cells #[.int .i64 op, .int .i64 f, .int .i64 n, .string s, .slice ao0 m0 cap0, .int .i32 i, .string st, .slice ao m cap] 27)) #[.int .i64 0, .int .i64 0, .int .i64 0, .string ⟨#[]⟩, .slice none 0 0, .int .i32 0, .string ⟨#[]⟩, .slice none 0 0] 27
  rw [show (w.alloc (.cells #[.int .i64 op, .int .i64 f, .int .i64 n, .string s, .slice ao0 m0 cap0, .int .i32 i, .string st, .slice ao m cap] 27)).heap.size = w.heap.size + 1 by simp] at hB2
  replace hB2 := hB2.kept ho3 (fun h => h)
  have HO3 : Hid (Only Nil w w3) := Lib.hid (Nil.trans ((alloc_nil _ _).alloc _) ho3)
  have HB1 := Lib.hid hB1
  have HB2 := Lib.hid hB2
  have HSZ : Hid (w.heap.size + 1 < w.heap.size → Nil (w.heap.size + 1)) := Lib.hid (fun h => by omega)
  obtain ⟨⟨c0, c1, c2, c3, c4, c5, c6, c7⟩, g0, g1, g2, g3, g4, g5, g6, g7⟩ := hB1.Eights
  obtain ⟨⟨r0, r1, r2, r3, r4, r5, r6, r7⟩, f0, f1, f2, f3, f4, f5, f6, f7⟩ := hB2.Eights
  clear hB1 hB2 ho3 HCK hW1
  cases b
  ·
    have E := Lib.hid (foldM_no HB.out)
    clear HCV
    go_wp2_with fail
    refine bodyPost_ret (results_row_tmp' rfl _ _ (w.heap.size + 1) 27 _ (0, 0) _ _ rfl rfl (HB2.out.putEight _ _ _ _ _ _ _ _) Try.underlying27 rfl (by kernel_rfl)) rfl ?_
    have hN : Only (M.One (w.heap.size + 1)) w w3 := HO3.out.mono (fun _ h => h.elim)
    rw [show FoldPost _ _ = FoldPost (.mk op (.mk f n s of) i st l) w from rfl]
    unfold FoldPost
    rw [E.out]
    have hP := HO3.out.putEight HSZ.out (.int .i64 op) (.int .i64 f) (.int .i64 n) (.string s) (.slice ao0 m0 cap0) (.int .i32 i) (.string st) (.slice ao m cap)
    exact ⟨_, _, rfl, (H1'.out.go (Nil.trans HW.out hP)).any, (H2'.out.go (Nil.trans HW.out hP)).any, hP⟩
  ·
    go_wp2_with fail
    refine (HCV.out trivial _ (Nil.trans HW.out HO3.out)).mono ?_
    rintro e w4 ⟨⟨d, hv⟩, ho4⟩
    have hB := HB2.out.kept ho4 (fun h => h)
    have HB4 := Lib.hid hB
    obtain ⟨⟨q0, q1, q2, q3, q4, q5, q6, q7⟩, k0, k1, k2, k3, k4, k5, k6, k7⟩ := hB.Eights
    have hB5 := HB1.out.kept ho4 (fun h => h)
    have d1 := hB5.cell 1
    simp only [List.getElem?_toArray, List.getElem?_cons_zero, List.getElem?_cons_succ] at d1
    have HO4 := Lib.hid (Nil.trans HO3.out ho4)
    clear hB hB5 ho4 HCV c0 c1 c2 c3 c4 c5 c6 c7 g0 g1 g2 g3 g4 g5 g6 g7 r0 r1 r2 r3 r4 r5 r6 r7 f0 f1 f2 f3 f4 f5 f6 f7
    unfold VEnd at hv
    subst hv
    cases r with
    | none =>
      have E := Lib.hid (foldM_none HB.out HR.out)
      go_wp2_with fail
      refine bodyPost_ret (results_row_tmp' rfl _ _ (w.heap.size + 1) 27 _ (0, 0) _ _ rfl rfl (HB4.out.putEight _ _ _ _ _ _ _ _) Try.underlying27 rfl (by kernel_rfl)) rfl ?_
      rw [show FoldPost _ _ = FoldPost (.mk op (.mk f n s of) i st l) w from rfl]
      unfold FoldPost
      rw [E.out]
      exact ⟨_, _, rfl, TyS.nil _ _, ExS.nil _ _, HO4.out.putEight HSZ.out _ _ _ _ _ _ _ _⟩
    | some v =>
      have E := Lib.hid (foldM_some HB.out HR.out)
      have CN := fun w => numR_any f v w
      go_wp2_with fail
      refine (CN _).mono ?_
      rintro e w5 ⟨rfl, ho5⟩
      have hB := HB4.out.kept ho5 (fun h => h)
      have HB5 := Lib.hid hB
      obtain ⟨⟨r0, r1, r2, r3, r4, r5, r6, r7⟩, f0, f1, f2, f3, f4, f5, f6, f7⟩ := hB.Eights
      have HO5 := Lib.hid (Nil.trans HO4.out ho5)
      clear hB ho5 CN q0 q1 q2 q3 q4 q5 q6 q7 k0 k1 k2 k3 k4 k5 k6 k7
      go_wp2_with fail
      refine bodyPost_ret (results_row_tmp' rfl _ _ (w.heap.size + 1) 27 _ (0, 0) _ _ rfl rfl (HB5.out.putEight _ _ _ _ _ _ _ _) Try.underlying27 rfl (by kernel_rfl)) rfl ?_
      rw [show FoldPost _ _ = FoldPost (.mk op (.mk f n s of) i st l) w from rfl]
      unfold FoldPost
      rw [E.out]
      exact ⟨_, _, rfl, TyS.nil _ _, ExS.nil _ _, HO5.out.putEight HSZ.out _ _ _ _ _ _ _ _⟩
end Go.Proofs.Ytgicibblkmeoeaa
