/- Sets of elements and spans: the program. -/
import Derived.Test.YtgicibblkmeoeaaProg
import Derived.Test.YtgicibblkmeoeaaWSpan
import Derived.Test.YtgicibblkmeoeaaWValP
set_option linter.unusedSimpArgs false
set_option linter.unusedVariables false
namespace Go.Proofs.Ytgicibblkmeoeaa
open Go.RowKit M


set_option maxRecDepth 10000 in
set_option maxHeartbeats 3200000 in
theorem union_any {Z : Nat → Prop} {w0 : World} {xv : Value} {l : List Ex} (h : ExS Z w0 xv l) (hel : l.all elemM = true) (w : World) (hw : Only Nil w0 w) :
    Calls Try.prog 110 #[xv] w fun e w' => VEnd 0 ((unionM l 0).map S) e ∧ Only Nil w w' := by
  obtain ⟨l, ao, cap, off, b, ovs, xvs, h0, h1, hb, hn, hs, hc, ht, hr⟩ := h
  obtain ⟨na, hna⟩ : ∃ x, l.length = x := ⟨_, rfl⟩
  rw [hna] at h0 hn ⊢
  have HW := Lib.hid hw
  have H0 := Lib.hid h0
  have HA := Lib.hid hna
  have HN := Lib.hid hn
  have HEL := Lib.hid hel
  clear hel hw h0 h1 hb hna hn hs
  go_enter Try.func110, Try.ntmps110
  go_wp2_with fail
  go_loopg [4, 12] na (fun g v j wr => ∃ k u : Nat, j = .int .i64 (k : Int) ∧ v = .int .i32 (S u) ∧ k ≤ na ∧ g = na - k ∧ Only Nil w wr ∧ u < 4294967296 ∧ unionM (l.drop k) u = unionM l 0)
  case atStart => exact ⟨0, 0, rfl, rfl, Nat.zero_le _, rfl, Only.refl Nil w, by decide, rfl⟩
  case round =>
    obtain ⟨k, u, rfl, rfl, hk, hg, ho, hlu, hu⟩ := hrel
    have HG := Lib.hid hg
    have HO := Lib.hid ho
    have HLU := Lib.hid hlu
    have HU := Lib.hid hu
    clear hg ho hlu hu
    have k0 : (0 : Int) ≤ (k : Int) := Int.natCast_nonneg _
    by_cases hkn : k < na
    · have k1 : (k : Int) < (na : Int) := by omega
      obtain ⟨t, htk⟩ : ∃ t, l[k]? = some t := ⟨_, List.getElem?_eq_getElem (by rw [HA.out]; exact hkn)⟩
      have e1 := H0.out (by omega)
      subst e1
      have hO : Only Nil w0 wr := Nil.trans HW.out HO.out
      have a1 := (hc k t htk).kept hO (fun _ h => h)
      unfold exCells at a1
      have b0 := a1.get0
      have b1 := a1.get 1 rfl
      have b2 := a1.get 2 rfl
      have b3 := a1.get 3 rfl
      have b4 := a1.get 4 rfl
      have b5 := a1.get 5 rfl
      have b6 := a1.get 6 rfl
      have b7 := a1.get 7 rfl
      obtain ⟨ao3, cap3, e3⟩ := (ht k t htk).slice
      obtain ⟨ao9, cap9, e9⟩ := (hr k t htk).slice
      rw [e3] at b4
      rw [e9] at b7
      obtain ⟨m3, hm3⟩ : ∃ x, t.t.of.length = x := ⟨_, rfl⟩
      rw [hm3] at b4
      obtain ⟨m9, hm9⟩ : ∃ x, t.x.length = x := ⟨_, rfl⟩
      rw [hm9] at b7
      have HT := Lib.hid htk
      rcases elem_x (all_get HEL.out htk) with ⟨e0, hX⟩ | ⟨e0, e1, hX⟩
      · obtain ⟨xl, hxl⟩ : ∃ y, xvs k = y := ⟨_, rfl⟩
        have hx := hr k t htk
        rw [← hm9, ← e9] at b7
        clear e9 hm9
        rw [hxl] at hx b7
        rw [hX] at hx
        obtain ⟨_, ao2, cap2, off2, bb2, ovs2, xvs2, g0, g1, gb, gn, gs, gc, gt, gr⟩ := hx
        have g00 := g0 (by simp)
        subst g00
        simp only [List.length_cons, List.length_nil, Nat.zero_add, Nat.reduceAdd] at b7
        have a0' := (gc 0 e0 rfl).kept hO (fun _ h => h)
        obtain ⟨aa0, ca0, q0⟩ := (gt 0 e0 rfl).slice
        obtain ⟨ax0, cx0, p0⟩ := (gr 0 e0 rfl).slice
        obtain ⟨m0, hm0⟩ : ∃ m, e0.t.of.length = m := ⟨_, rfl⟩
        obtain ⟨l0, hl0⟩ : ∃ m, e0.x.length = m := ⟨_, rfl⟩
        unfold exCells at a0'
        rw [q0, p0, hm0, hl0] at a0'
        rw [Nat.zero_mul, Nat.add_zero] at a0'
        have y0 : ∀ o : Obj, (wr.alloc o).cell? _ = some _ := fun o => (alloc_nil wr o).cell (a0'.get0) (fun h => h)
        have y1 : ∀ o : Obj, (wr.alloc o).cell? _ = some _ := fun o => (alloc_nil wr o).cell (a0'.get 1 rfl) (fun h => h)
        have y2 : ∀ o : Obj, (wr.alloc o).cell? _ = some _ := fun o => (alloc_nil wr o).cell (a0'.get 2 rfl) (fun h => h)
        have y3 : ∀ o : Obj, (wr.alloc o).cell? _ = some _ := fun o => (alloc_nil wr o).cell (a0'.get 3 rfl) (fun h => h)
        have y4 : ∀ o : Obj, (wr.alloc o).cell? _ = some _ := fun o => (alloc_nil wr o).cell (a0'.get 4 rfl) (fun h => h)
        have y5 : ∀ o : Obj, (wr.alloc o).cell? _ = some _ := fun o => (alloc_nil wr o).cell (a0'.get 5 rfl) (fun h => h)
        have y6 : ∀ o : Obj, (wr.alloc o).cell? _ = some _ := fun o => (alloc_nil wr o).cell (a0'.get 6 rfl) (fun h => h)
        have y7 : ∀ o : Obj, (wr.alloc o).cell? _ = some _ := fun o => (alloc_nil wr o).cell (a0'.get 7 rfl) (fun h => h)
        have hz5 := (a0'.get 5 rfl)
        have CS := fun w => spanP_any e0.i e0.i w
        have HU2 : Hid (unionM (l.drop k) u = match spanM e0.i e0.i with | some p => unionM (l.drop (k + 1)) (u ||| p) | none => none) := Lib.hid (by
          rw [drop_get htk]
          show (match spanM (firstI t.x) (lastI t.x) with | some p => _ | none => none) = _
          rw [hX]
          rfl)
        obtain ⟨r, hrr⟩ : ∃ r, spanM e0.i e0.i = r := ⟨_, rfl⟩
        have HRR := Lib.hid hrr
        have ESP : spI e0.i e0.i = (r.map S).getD 0 := by unfold spI; rw [hrr]
        rw [ESP, hrr] at CS
        rw [hrr] at HU2
        clear ESP hrr hX hxl a1 hr hc ht htk hk k0 e3 hm3 g0 g1 gb gn gs gc gt gr hO
        go_wp2_with fail
        have hBX := (Blk.new wr #[.int .i64 t.op, .int .i64 t.t.form, .int .i64 t.t.n, .string t.t.name, .slice ao3 m3 cap3, .int .i32 t.i, .string t.s, .slice (some ⟨bb2, off2, none⟩) 1 cap2] 27).alloc (.cells #[.int .i64 e0.op, .int .i64 e0.t.form, .int .i64 e0.t.n, .string e0.t.name, .slice aa0 m0 ca0, .int .i32 e0.i, .string e0.s, .slice ax0 l0 cx0] 27)
        have hBL := Blk.new (wr.alloc (.cells #[.int .i64 t.op, .int .i64 t.t.form, .int .i64 t.t.n, .string t.t.name, .slice ao3 m3 cap3, .int .i32 t.i, .string t.s, .slice (some ⟨bb2, off2, none⟩) 1 cap2] 27)) #[.int .i64 e0.op, .int .i64 e0.t.form, .int .i64 e0.t.n, .string e0.t.name, .slice aa0 m0 ca0, .int .i32 e0.i, .string e0.s, .slice ax0 l0 cx0] 27
        rw [show (wr.alloc (.cells #[.int .i64 t.op, .int .i64 t.t.form, .int .i64 t.t.n, .string t.t.name, .slice ao3 m3 cap3, .int .i32 t.i, .string t.s, .slice (some ⟨bb2, off2, none⟩) 1 cap2] 27)).heap.size = wr.heap.size + 1 by simp] at hBL
        have hO2 : Only Nil wr ((wr.alloc (.cells #[.int .i64 t.op, .int .i64 t.t.form, .int .i64 t.t.n, .string t.t.name, .slice ao3 m3 cap3, .int .i32 t.i, .string t.s, .slice (some ⟨bb2, off2, none⟩) 1 cap2] 27)).alloc (.cells #[.int .i64 e0.op, .int .i64 e0.t.form, .int .i64 e0.t.n, .string e0.t.name, .slice aa0 m0 ca0, .int .i32 e0.i, .string e0.s, .slice ax0 l0 cx0] 27)) := (alloc_nil _ _).alloc _
        obtain ⟨w2, hw2⟩ : ∃ y, (wr.alloc (.cells #[.int .i64 t.op, .int .i64 t.t.form, .int .i64 t.t.n, .string t.t.name, .slice ao3 m3 cap3, .int .i32 t.i, .string t.s, .slice (some ⟨bb2, off2, none⟩) 1 cap2] 27)).alloc (.cells #[.int .i64 e0.op, .int .i64 e0.t.form, .int .i64 e0.t.n, .string e0.t.name, .slice aa0 m0 ca0, .int .i32 e0.i, .string e0.s, .slice ax0 l0 cx0] 27) = y := ⟨_, rfl⟩
        rw [hw2] at hBX hBL hO2 ⊢
        clear hw2
        have c7 := hBX.cell 7
        have c5 := hBL.cell 5
        simp only [List.getElem?_toArray, List.getElem?_cons_zero, List.getElem?_cons_succ] at c7 c5
        have d7 := fun n' : NilW w2 => n'.cell c7
        have d5 := fun n' : NilW w2 => n'.cell c5
        have z5 := fun n' : NilW w2 => n'.cell (hO2.cell hz5 (fun h => h))
        have HO2 := Lib.hid (Nil.trans HO.out hO2)
        clear hBX hBL hO2 c7 c5 hz5 a0' y0 y1 y2 y3 y4 y5 y6 y7 b0 b1 b2 b3 b4 b5 b6 b7
        refine wp_region_nilq (by kernel_rfl) (by kernel_rfl) ?_
        repeat (quiet_step ((go_at_call 142; exact Calls.nilq_same (CS _))))
        refine wpQuiet_nil ?_
        intro w3 h3
        obtain ⟨n3, e3⟩ := h3
        have h3 := n3.only
        rw [← e3] at h3
        clear e3 n3
        have HO3 : Hid (Only Nil w w3) := Lib.hid (Nil.trans HO2.out h3)
        clear h3 d7 d5 z5 CS
        cases r with
        | none =>
          have E : Hid (unionM l 0 = none) := Lib.hid (by rw [← HU.out, HU2.out])
          go_wp2_with fail
          go_ret2
          exact ⟨vend_none (by rw [E.out]; rfl), HO3.out⟩
        | some p =>
          have hp := spanM_lt HRR.out
          have HOR := Lib.hid (or_S u p HLU.out hp)
          have HLT := Lib.hid (or_lt HLU.out hp)
          clear hp
          go_wp2_with fail
          go_roundg (na - (k + 1))
          case measure => have := HG.out; omega
          case rel => exact ⟨k + 1, u ||| p, next_int hkn HN.out (by decide), congrArg (Value.int .i32) HOR.out, by omega, rfl, HO3.out, HLT.out, HU2.out.symm.trans HU.out⟩
      · obtain ⟨xl, hxl⟩ : ∃ y, xvs k = y := ⟨_, rfl⟩
        have hx := hr k t htk
        rw [← hm9, ← e9] at b7
        clear e9 hm9
        rw [hxl] at hx b7
        rw [hX] at hx
        obtain ⟨_, ao2, cap2, off2, bb2, ovs2, xvs2, g0, g1, gb, gn, gs, gc, gt, gr⟩ := hx
        have g00 := g0 (by simp)
        subst g00
        simp only [List.length_cons, List.length_nil, Nat.zero_add, Nat.reduceAdd] at b7
        have a0' := (gc 0 e0 rfl).kept hO (fun _ h => h)
        obtain ⟨aa0, ca0, q0⟩ := (gt 0 e0 rfl).slice
        obtain ⟨ax0, cx0, p0⟩ := (gr 0 e0 rfl).slice
        obtain ⟨m0, hm0⟩ : ∃ m, e0.t.of.length = m := ⟨_, rfl⟩
        obtain ⟨l0, hl0⟩ : ∃ m, e0.x.length = m := ⟨_, rfl⟩
        unfold exCells at a0'
        rw [q0, p0, hm0, hl0] at a0'
        have a1' := (gc 1 e1 rfl).kept hO (fun _ h => h)
        obtain ⟨aa1, ca1, q1⟩ := (gt 1 e1 rfl).slice
        obtain ⟨ax1, cx1, p1⟩ := (gr 1 e1 rfl).slice
        obtain ⟨m1, hm1⟩ : ∃ m, e1.t.of.length = m := ⟨_, rfl⟩
        obtain ⟨l1, hl1⟩ : ∃ m, e1.x.length = m := ⟨_, rfl⟩
        unfold exCells at a1'
        rw [q1, p1, hm1, hl1] at a1'
        rw [Nat.zero_mul, Nat.add_zero] at a0'
        rw [Nat.one_mul] at a1'
        have y0 : ∀ o : Obj, (wr.alloc o).cell? _ = some _ := fun o => (alloc_nil wr o).cell (a1'.get0) (fun h => h)
        have y1 : ∀ o : Obj, (wr.alloc o).cell? _ = some _ := fun o => (alloc_nil wr o).cell (a1'.get 1 rfl) (fun h => h)
        have y2 : ∀ o : Obj, (wr.alloc o).cell? _ = some _ := fun o => (alloc_nil wr o).cell (a1'.get 2 rfl) (fun h => h)
        have y3 : ∀ o : Obj, (wr.alloc o).cell? _ = some _ := fun o => (alloc_nil wr o).cell (a1'.get 3 rfl) (fun h => h)
        have y4 : ∀ o : Obj, (wr.alloc o).cell? _ = some _ := fun o => (alloc_nil wr o).cell (a1'.get 4 rfl) (fun h => h)
        have y5 : ∀ o : Obj, (wr.alloc o).cell? _ = some _ := fun o => (alloc_nil wr o).cell (a1'.get 5 rfl) (fun h => h)
        have y6 : ∀ o : Obj, (wr.alloc o).cell? _ = some _ := fun o => (alloc_nil wr o).cell (a1'.get 6 rfl) (fun h => h)
        have y7 : ∀ o : Obj, (wr.alloc o).cell? _ = some _ := fun o => (alloc_nil wr o).cell (a1'.get 7 rfl) (fun h => h)
        simp only [Nat.add_assoc, Nat.reduceAdd] at y0 y1 y2 y3 y4 y5 y6 y7
        have hz5 := (a0'.get 5 rfl)
        have CS := fun w => spanP_any e0.i e1.i w
        have HU2 : Hid (unionM (l.drop k) u = match spanM e0.i e1.i with | some p => unionM (l.drop (k + 1)) (u ||| p) | none => none) := Lib.hid (by
          rw [drop_get htk]
          show (match spanM (firstI t.x) (lastI t.x) with | some p => _ | none => none) = _
          rw [hX]
          rfl)
        obtain ⟨r, hrr⟩ : ∃ r, spanM e0.i e1.i = r := ⟨_, rfl⟩
        have HRR := Lib.hid hrr
        have ESP : spI e0.i e1.i = (r.map S).getD 0 := by unfold spI; rw [hrr]
        rw [ESP, hrr] at CS
        rw [hrr] at HU2
        clear ESP hrr hX hxl a1 hr hc ht htk hk k0 e3 hm3 g0 g1 gb gn gs gc gt gr hO
        go_wp2_with fail
        have hBX := (Blk.new wr #[.int .i64 t.op, .int .i64 t.t.form, .int .i64 t.t.n, .string t.t.name, .slice ao3 m3 cap3, .int .i32 t.i, .string t.s, .slice (some ⟨bb2, off2, none⟩) 2 cap2] 27).alloc (.cells #[.int .i64 e1.op, .int .i64 e1.t.form, .int .i64 e1.t.n, .string e1.t.name, .slice aa1 m1 ca1, .int .i32 e1.i, .string e1.s, .slice ax1 l1 cx1] 27)
        have hBL := Blk.new (wr.alloc (.cells #[.int .i64 t.op, .int .i64 t.t.form, .int .i64 t.t.n, .string t.t.name, .slice ao3 m3 cap3, .int .i32 t.i, .string t.s, .slice (some ⟨bb2, off2, none⟩) 2 cap2] 27)) #[.int .i64 e1.op, .int .i64 e1.t.form, .int .i64 e1.t.n, .string e1.t.name, .slice aa1 m1 ca1, .int .i32 e1.i, .string e1.s, .slice ax1 l1 cx1] 27
        rw [show (wr.alloc (.cells #[.int .i64 t.op, .int .i64 t.t.form, .int .i64 t.t.n, .string t.t.name, .slice ao3 m3 cap3, .int .i32 t.i, .string t.s, .slice (some ⟨bb2, off2, none⟩) 2 cap2] 27)).heap.size = wr.heap.size + 1 by simp] at hBL
        have hO2 : Only Nil wr ((wr.alloc (.cells #[.int .i64 t.op, .int .i64 t.t.form, .int .i64 t.t.n, .string t.t.name, .slice ao3 m3 cap3, .int .i32 t.i, .string t.s, .slice (some ⟨bb2, off2, none⟩) 2 cap2] 27)).alloc (.cells #[.int .i64 e1.op, .int .i64 e1.t.form, .int .i64 e1.t.n, .string e1.t.name, .slice aa1 m1 ca1, .int .i32 e1.i, .string e1.s, .slice ax1 l1 cx1] 27)) := (alloc_nil _ _).alloc _
        obtain ⟨w2, hw2⟩ : ∃ y, (wr.alloc (.cells #[.int .i64 t.op, .int .i64 t.t.form, .int .i64 t.t.n, .string t.t.name, .slice ao3 m3 cap3, .int .i32 t.i, .string t.s, .slice (some ⟨bb2, off2, none⟩) 2 cap2] 27)).alloc (.cells #[.int .i64 e1.op, .int .i64 e1.t.form, .int .i64 e1.t.n, .string e1.t.name, .slice aa1 m1 ca1, .int .i32 e1.i, .string e1.s, .slice ax1 l1 cx1] 27) = y := ⟨_, rfl⟩
        rw [hw2] at hBX hBL hO2 ⊢
        clear hw2
        have c7 := hBX.cell 7
        have c5 := hBL.cell 5
        simp only [List.getElem?_toArray, List.getElem?_cons_zero, List.getElem?_cons_succ] at c7 c5
        have d7 := fun n' : NilW w2 => n'.cell c7
        have d5 := fun n' : NilW w2 => n'.cell c5
        have z5 := fun n' : NilW w2 => n'.cell (hO2.cell hz5 (fun h => h))
        have HO2 := Lib.hid (Nil.trans HO.out hO2)
        clear hBX hBL hO2 c7 c5 hz5 a0' a1' y0 y1 y2 y3 y4 y5 y6 y7 b0 b1 b2 b3 b4 b5 b6 b7
        refine wp_region_nilq (by kernel_rfl) (by kernel_rfl) ?_
        repeat (quiet_step ((go_at_call 142; exact Calls.nilq_same (CS _))))
        refine wpQuiet_nil ?_
        intro w3 h3
        obtain ⟨n3, e3⟩ := h3
        have h3 := n3.only
        rw [← e3] at h3
        clear e3 n3
        have HO3 : Hid (Only Nil w w3) := Lib.hid (Nil.trans HO2.out h3)
        clear h3 d7 d5 z5 CS
        cases r with
        | none =>
          have E : Hid (unionM l 0 = none) := Lib.hid (by rw [← HU.out, HU2.out])
          go_wp2_with fail
          go_ret2
          exact ⟨vend_none (by rw [E.out]; rfl), HO3.out⟩
        | some p =>
          have hp := spanM_lt HRR.out
          have HOR := Lib.hid (or_S u p HLU.out hp)
          have HLT := Lib.hid (or_lt HLU.out hp)
          clear hp
          go_wp2_with fail
          go_roundg (na - (k + 1))
          case measure => have := HG.out; omega
          case rel => exact ⟨k + 1, u ||| p, next_int hkn HN.out (by decide), congrArg (Value.int .i32) HOR.out, by omega, rfl, HO3.out, HLT.out, HU2.out.symm.trans HU.out⟩
    · have hkn' : k = na := by omega
      subst hkn'
      have k1 : (k : Int) ≤ (k : Int) := Int.le_refl _
      have E : Hid ((unionM l 0).map S = some (S u)) := Lib.hid (by
        rw [← HU.out, List.drop_eq_nil_of_le (by rw [HA.out]; exact Nat.le_refl _)]
        rfl)
      clear hr hc ht
      go_wp2_with fail
      go_ret2
      exact ⟨vend_some E.out rfl, HO.out⟩
end Go.Proofs.Ytgicibblkmeoeaa
