/- What an expression that is known makes: the document. -/
import Derived.Test.YtgicibblkmeoeaaProg
import Derived.Test.YtgicibblkmeoeaaWSpan
import Derived.Test.YtgicibblkmeoeaaWKnowR
import Derived.Test.YtgicibblkmeoeaaWBin
set_option linter.unusedSimpArgs false
set_option linter.unusedVariables false
namespace Go.Proofs.Ytgicibblkmeoeaa
open Go.RowKit M


set_option maxRecDepth 10000 in
set_option maxHeartbeats 1600000 in
theorem constant_one {Z : Nat → Prop} {w0 : World} {ov xv : Value} {e0 : Ex} (op f n i : Int) (nm st : ByteArray) (h : ExS Z w0 xv [e0]) (w : World) (hw : Only Nil w0 w) (hop : op = 7 ∨ op = 8 ∨ op = 27 ∨ op = 28 ∨ op = 32 ∨ op = 33) :
    Calls Try.prog 61 #[.agg #[.int .i64 op, .int .i64 f, .int .i64 n, .string nm, ov, .int .i32 i, .string st, xv]] w fun e w' => VEnd e0.i (oneM op e0.t.form e0.i) e ∧ Only Nil w w' := by
  obtain ⟨_, ao, cap, off, b, ovs, xvs, h0, h1, hb, hn, hs, hc, ht, hr⟩ := h
  have e1 := h0 (by simp)
  subst e1
  simp only [List.length_cons, List.length_nil, Nat.zero_add, Nat.reduceAdd] at *
  have a0 := hc 0 e0 rfl
  obtain ⟨aa0, ca0, q0⟩ := (ht 0 e0 rfl).slice
  obtain ⟨ax0, cx0, p0⟩ := (hr 0 e0 rfl).slice
  have i0 := (hs e0 (by simp)).2.2
  unfold exCells at a0
  rw [q0, p0] at a0
  obtain ⟨m0, hm0⟩ : ∃ m, e0.t.of.length = m := ⟨_, rfl⟩
  obtain ⟨l0, hl0⟩ : ∃ m, e0.x.length = m := ⟨_, rfl⟩
  rw [hm0, hl0] at a0
  rw [Nat.zero_mul, Nat.add_zero] at a0
  have hop2 : (op == 24) = false := by simp; omega
  have C := fun w => unary_any op e0.t.form e0.i w hop i0
  obtain ⟨r, hrr⟩ : ∃ r, oneM op e0.t.form e0.i = r := ⟨_, rfl⟩
  rw [hrr] at C ⊢
  unfold VEnd at C ⊢
  clear h0 h1 hb hn hs hc ht hr hm0 hl0 q0 p0
  have y5 : ∀ o : Obj, (w.alloc o).cell? ⟨b, off + 5, none⟩ = some (.int .i32 e0.i) := fun o => (alloc_nil w o).cell ((a0.kept hw (fun _ h => h)).get 5 rfl) (fun h => h)
  clear hrr i0 hop
  go_enter Try.func61, Try.ntmps61
  go_wp2_with fail
  have hB6 := Blk.new w #[.int .i64 op, .int .i64 f, .int .i64 n, .string nm, ov, .int .i32 i, .string st, .slice (some ⟨b, off, none⟩) 1 cap] 27
  have hO6 : Only Nil w (w.alloc (.cells #[.int .i64 op, .int .i64 f, .int .i64 n, .string nm, ov, .int .i32 i, .string st, .slice (some ⟨b, off, none⟩) 1 cap] 27)) := alloc_nil _ _
  obtain ⟨w1, hw1⟩ : ∃ y, w.alloc (.cells #[.int .i64 op, .int .i64 f, .int .i64 n, .string nm, ov, .int .i32 i, .string st, .slice (some ⟨b, off, none⟩) 1 cap] 27) = y := ⟨_, rfl⟩
  rw [hw1] at hB6 hO6 ⊢
  clear hw1
  have c0 := hB6.cell 0
  have c7 := hB6.cell 7
  simp only [List.getElem?_toArray, List.getElem?_cons_zero, List.getElem?_cons_succ] at c0 c7
  have d0 := fun n' : NilW w1 => n'.cell c0
  have d7 := fun n' : NilW w1 => n'.cell c7
  have HO6 := Lib.hid hO6
  have k0 := (a0.kept hw (fun _ h => h)).kept hO6 (fun _ h => h)
  have x00 := fun n' : NilW w1 => n'.cell (k0.get0)
  have x01 := fun n' : NilW w1 => n'.cell (k0.get 1 rfl)
  have x02 := fun n' : NilW w1 => n'.cell (k0.get 2 rfl)
  have x03 := fun n' : NilW w1 => n'.cell (k0.get 3 rfl)
  have x04 := fun n' : NilW w1 => n'.cell (k0.get 4 rfl)
  have x05 := fun n' : NilW w1 => n'.cell (k0.get 5 rfl)
  have x06 := fun n' : NilW w1 => n'.cell (k0.get 6 rfl)
  have x07 := fun n' : NilW w1 => n'.cell (k0.get 7 rfl)
  clear hB6 c0 c7 hO6 a0 k0
  refine wp_region_nilq (by kernel_rfl) (by kernel_rfl) ?_
  repeat (quiet_step ((go_at_call 119; exact Calls.nilq_same (C _))))
  refine wpQuiet_nil ?_
  intro w3 h3
  obtain ⟨n3, e3⟩ := h3
  have h3 := n3.only
  rw [← e3] at h3
  clear e3 n3
  have HO3 : Hid (Only Nil w w3) := Lib.hid (Nil.trans HO6.out h3)
  clear h3 d0 d7
  go_wp2_with fail
  go_ret2
  exact ⟨rfl, HO3.out⟩
set_option maxRecDepth 10000 in
set_option maxHeartbeats 1600000 in
theorem constant_two {Z : Nat → Prop} {w0 : World} {ov xv : Value} {e0 e1 : Ex} (op f n i : Int) (nm st : ByteArray) (h : ExS Z w0 xv [e0, e1]) (w : World) (hw : Only Nil w0 w) (hop : (9 ≤ op ∧ op ≤ 22) ∨ op = 29 ∨ op = 30 ∨ op = 31) :
    Calls Try.prog 61 #[.agg #[.int .i64 op, .int .i64 f, .int .i64 n, .string nm, ov, .int .i32 i, .string st, xv]] w fun e w' => VEnd 0 (binM op e0.t.form e0.i e1.i) e ∧ Only Nil w w' := by
  obtain ⟨_, ao, cap, off, b, ovs, xvs, h0, h1, hb, hn, hs, hc, ht, hr⟩ := h
  have ee := h0 (by simp)
  subst ee
  simp only [List.length_cons, List.length_nil, Nat.zero_add, Nat.reduceAdd] at *
  have a0 := hc 0 e0 rfl
  obtain ⟨aa0, ca0, q0⟩ := (ht 0 e0 rfl).slice
  obtain ⟨ax0, cx0, p0⟩ := (hr 0 e0 rfl).slice
  have i0 := (hs e0 (by simp)).2.2
  unfold exCells at a0
  rw [q0, p0] at a0
  obtain ⟨m0, hm0⟩ : ∃ m, e0.t.of.length = m := ⟨_, rfl⟩
  obtain ⟨l0, hl0⟩ : ∃ m, e0.x.length = m := ⟨_, rfl⟩
  rw [hm0, hl0] at a0
  have a1 := hc 1 e1 rfl
  obtain ⟨aa1, ca1, q1⟩ := (ht 1 e1 rfl).slice
  obtain ⟨ax1, cx1, p1⟩ := (hr 1 e1 rfl).slice
  have i1 := (hs e1 (by simp)).2.2
  unfold exCells at a1
  rw [q1, p1] at a1
  obtain ⟨m1, hm1⟩ : ∃ m, e1.t.of.length = m := ⟨_, rfl⟩
  obtain ⟨l1, hl1⟩ : ∃ m, e1.x.length = m := ⟨_, rfl⟩
  rw [hm1, hl1] at a1
  rw [Nat.zero_mul, Nat.add_zero] at a0
  rw [Nat.one_mul] at a1
  have hop2 : (op == 24) = false := by simp; omega
  have C := fun w => binary_any op e0.t.form e0.i e1.i w hop i0 i1
  obtain ⟨r, hrr⟩ : ∃ r, binM op e0.t.form e0.i e1.i = r := ⟨_, rfl⟩
  rw [hrr] at C ⊢
  unfold VEnd at C ⊢
  clear h0 h1 hb hn hs hc ht hr hm0 hl0 q0 p0 hm1 hl1 q1 p1
  have y5 : ∀ o : Obj, (w.alloc o).cell? ⟨b, off + 5, none⟩ = some (.int .i32 e0.i) := fun o => (alloc_nil w o).cell ((a0.kept hw (fun _ h => h)).get 5 rfl) (fun h => h)
  clear hrr i0 i1 hop
  go_enter Try.func61, Try.ntmps61
  go_wp2_with fail
  have hB6 := Blk.new w #[.int .i64 op, .int .i64 f, .int .i64 n, .string nm, ov, .int .i32 i, .string st, .slice (some ⟨b, off, none⟩) 2 cap] 27
  have hO6 : Only Nil w (w.alloc (.cells #[.int .i64 op, .int .i64 f, .int .i64 n, .string nm, ov, .int .i32 i, .string st, .slice (some ⟨b, off, none⟩) 2 cap] 27)) := alloc_nil _ _
  obtain ⟨w1, hw1⟩ : ∃ y, w.alloc (.cells #[.int .i64 op, .int .i64 f, .int .i64 n, .string nm, ov, .int .i32 i, .string st, .slice (some ⟨b, off, none⟩) 2 cap] 27) = y := ⟨_, rfl⟩
  rw [hw1] at hB6 hO6 ⊢
  clear hw1
  have c0 := hB6.cell 0
  have c7 := hB6.cell 7
  simp only [List.getElem?_toArray, List.getElem?_cons_zero, List.getElem?_cons_succ] at c0 c7
  have d0 := fun n' : NilW w1 => n'.cell c0
  have d7 := fun n' : NilW w1 => n'.cell c7
  have HO6 := Lib.hid hO6
  have k0 := (a0.kept hw (fun _ h => h)).kept hO6 (fun _ h => h)
  have x00 := fun n' : NilW w1 => n'.cell (k0.get0)
  have x01 := fun n' : NilW w1 => n'.cell (k0.get 1 rfl)
  have x02 := fun n' : NilW w1 => n'.cell (k0.get 2 rfl)
  have x03 := fun n' : NilW w1 => n'.cell (k0.get 3 rfl)
  have x04 := fun n' : NilW w1 => n'.cell (k0.get 4 rfl)
  have x05 := fun n' : NilW w1 => n'.cell (k0.get 5 rfl)
  have x06 := fun n' : NilW w1 => n'.cell (k0.get 6 rfl)
  have x07 := fun n' : NilW w1 => n'.cell (k0.get 7 rfl)
  have k1 := (a1.kept hw (fun _ h => h)).kept hO6 (fun _ h => h)
  have x10 := fun n' : NilW w1 => n'.cell (k1.get0)
  have x11 := fun n' : NilW w1 => n'.cell (k1.get 1 rfl)
  have x12 := fun n' : NilW w1 => n'.cell (k1.get 2 rfl)
  have x13 := fun n' : NilW w1 => n'.cell (k1.get 3 rfl)
  have x14 := fun n' : NilW w1 => n'.cell (k1.get 4 rfl)
  have x15 := fun n' : NilW w1 => n'.cell (k1.get 5 rfl)
  have x16 := fun n' : NilW w1 => n'.cell (k1.get 6 rfl)
  have x17 := fun n' : NilW w1 => n'.cell (k1.get 7 rfl)
  simp only [Nat.add_assoc, Nat.reduceAdd] at x10 x11 x12 x13 x14 x15 x16 x17
  clear hB6 c0 c7 hO6 a0 k0 a1 k1
  refine wp_region_nilq (by kernel_rfl) (by kernel_rfl) ?_
  repeat (quiet_step ((go_at_call 118; exact Calls.nilq_same (C _))))
  refine wpQuiet_nil ?_
  intro w3 h3
  obtain ⟨n3, e3⟩ := h3
  have h3 := n3.only
  rw [← e3] at h3
  clear e3 n3
  have HO3 : Hid (Only Nil w w3) := Lib.hid (Nil.trans HO6.out h3)
  clear h3 d0 d7
  go_wp2_with fail
  go_ret2
  exact ⟨rfl, HO3.out⟩

set_option maxRecDepth 10000 in
set_option maxHeartbeats 3200000 in
theorem constant_set {Z : Nat → Prop} {w0 : World} {ov xv : Value} {l : List Ex} (f n i : Int) (nm st : ByteArray) (h : ExS Z w0 xv l) (hel : l.all elemM = true) (w : World) (hw : Only Nil w0 w) :
    Calls Try.prog 61 #[.agg #[.int .i64 24, .int .i64 f, .int .i64 n, .string nm, ov, .int .i32 i, .string st, xv]] w fun e w' => VEnd 0 ((unionM l 0).map S) e ∧ Only Nil w w' := by
  obtain ⟨l, ao, cap, off, b, ovs, xvs, h0, h1, hb, hn, hs, hc, ht, hr⟩ := h
  obtain ⟨na, hna⟩ : ∃ x, l.length = x := ⟨_, rfl⟩
  rw [hna] at h0 hn ⊢
  have HW := Lib.hid hw
  have H0 := Lib.hid h0
  have HA := Lib.hid hna
  have HN := Lib.hid hn
  have HEL := Lib.hid hel
  clear hel hw h0 h1 hb hna hn hs
  go_enter Try.func61, Try.ntmps61
  go_wp2_with fail
  go_loopg [4, 5] na (fun g v j wr => ∃ k u : Nat, j = .int .i64 (k : Int) ∧ v = .int .i32 (S u) ∧ k ≤ na ∧ g = na - k ∧ Only Nil w wr ∧ u < 4294967296 ∧ unionM (l.drop k) u = unionM l 0 ∧ wr.cell? ⟨w.heap.size, 7, none⟩ = some (.slice ao na cap))
  case atStart => exact ⟨0, 0, rfl, rfl, Nat.zero_le _, rfl, alloc_nil _ _, by decide, rfl, by simp⟩
  case round =>
    obtain ⟨k, u, rfl, rfl, hk, hg, ho, hlu, hu, bx7⟩ := hrel
    have HG := Lib.hid hg
    have HO := Lib.hid ho
    have HLU := Lib.hid hlu
    have HU := Lib.hid hu
    clear hg ho hlu hu
    have k0 : (0 : Int) ≤ (k : Int) := Int.natCast_nonneg _
    by_cases hkn : k < na
    · have k1 : (k : Int) < (na : Int) := by omega
      obtain ⟨t, htk⟩ : ∃ t, l[k]? = some t := ⟨_, List.getElem?_eq_getElem (by rw [HA.out]; exact hkn)⟩
      have e1 := H0.out (by omega)
      subst e1
      have hO : Only Nil w0 wr := Nil.trans HW.out HO.out
      have a1 := (hc k t htk).kept hO (fun _ h => h)
      unfold exCells at a1
      have b0 := a1.get0
      have b1 := a1.get 1 rfl
      have b2 := a1.get 2 rfl
      have b3 := a1.get 3 rfl
      have b4 := a1.get 4 rfl
      have b5 := a1.get 5 rfl
      have b6 := a1.get 6 rfl
      have b7 := a1.get 7 rfl
      obtain ⟨ao3, cap3, e3⟩ := (ht k t htk).slice
      obtain ⟨ao9, cap9, e9⟩ := (hr k t htk).slice
      rw [e3] at b4
      rw [e9] at b7
      obtain ⟨m3, hm3⟩ : ∃ x, t.t.of.length = x := ⟨_, rfl⟩
      rw [hm3] at b4
      obtain ⟨m9, hm9⟩ : ∃ x, t.x.length = x := ⟨_, rfl⟩
      rw [hm9] at b7
      have HT := Lib.hid htk
      rcases elem_x (all_get HEL.out htk) with ⟨e0, hX⟩ | ⟨e0, e1, hX⟩
      · obtain ⟨xl, hxl⟩ : ∃ y, xvs k = y := ⟨_, rfl⟩
        have hx := hr k t htk
        rw [← hm9, ← e9] at b7
        clear e9 hm9
        rw [hxl] at hx b7
        rw [hX] at hx
        obtain ⟨_, ao2, cap2, off2, bb2, ovs2, xvs2, g0, g1, gb, gn, gs, gc, gt, gr⟩ := hx
        have g00 := g0 (by simp)
        subst g00
        simp only [List.length_cons, List.length_nil, Nat.zero_add, Nat.reduceAdd] at b7
        have a0' := (gc 0 e0 rfl).kept hO (fun _ h => h)
        unfold exCells at a0'
        rw [Nat.zero_mul, Nat.add_zero] at a0'
        have z0 := fun n' : NilW wr => n'.cell (a0'.get 5 rfl)
        have wz : IntKind.i64.wrap 0 = 0 := rfl
        have wo : IntKind.i64.wrap 1 = 1 := rfl
        have CS := fun w => spanR_any e0.i e0.i w
        have HU2 : Hid (unionM (l.drop k) u = match spanM e0.i e0.i with | some p => unionM (l.drop (k + 1)) (u ||| p) | none => none) := Lib.hid (by
          rw [drop_get htk]
          show (match spanM (firstI t.x) (lastI t.x) with | some p => _ | none => none) = _
          rw [hX]
          rfl)
        obtain ⟨r, hrr⟩ : ∃ r, spanM e0.i e0.i = r := ⟨_, rfl⟩
        have HRR := Lib.hid hrr
        have ESP : spI e0.i e0.i = (r.map S).getD 0 := by unfold spI; rw [hrr]
        rw [ESP, hrr] at CS
        rw [hrr] at HU2
        clear ESP hrr hX hxl a1 hr hc ht htk hk k0 e3 hm3 g0 g1 gb gn gs gc gt gr hO
        go_wp2_with fail
        refine wp_region_nilq (by kernel_rfl) (by kernel_rfl) ?_
        repeat (quiet_step ((go_at_call 117; exact Calls.nilq_same (CS _))))
        refine wpQuiet_nil ?_
        intro w3 h3
        obtain ⟨n3, e3⟩ := h3
        have h3 := n3.only
        rw [← e3] at h3
        clear e3 n3
        have HO3 : Hid (Only Nil w w3) := Lib.hid (Nil.trans HO.out h3)
        have p7 := h3.cell bx7 (fun h => h)
        clear h3 CS bx7 b0 b1 b2 b3 b4 b5 b6 b7 a0' z0
        cases r with
        | none =>
          have E : Hid (unionM l 0 = none) := Lib.hid (by rw [← HU.out, HU2.out])
          go_wp2_with fail
          go_ret2
          exact ⟨vend_none (by rw [E.out]; rfl), HO3.out⟩
        | some p =>
          have hp := spanM_lt HRR.out
          have HOR := Lib.hid (or_S u p HLU.out hp)
          have HLT := Lib.hid (or_lt HLU.out hp)
          clear hp
          go_wp2_with fail
          go_roundg (na - (k + 1))
          case measure => have := HG.out; omega
          case rel => exact ⟨k + 1, u ||| p, next_int hkn HN.out (by decide), congrArg (Value.int .i32) HOR.out, by omega, rfl, HO3.out, HLT.out, HU2.out.symm.trans HU.out, p7⟩
      · obtain ⟨xl, hxl⟩ : ∃ y, xvs k = y := ⟨_, rfl⟩
        have hx := hr k t htk
        rw [← hm9, ← e9] at b7
        clear e9 hm9
        rw [hxl] at hx b7
        rw [hX] at hx
        obtain ⟨_, ao2, cap2, off2, bb2, ovs2, xvs2, g0, g1, gb, gn, gs, gc, gt, gr⟩ := hx
        have g00 := g0 (by simp)
        subst g00
        simp only [List.length_cons, List.length_nil, Nat.zero_add, Nat.reduceAdd] at b7
        have a0' := (gc 0 e0 rfl).kept hO (fun _ h => h)
        unfold exCells at a0'
        have a1' := (gc 1 e1 rfl).kept hO (fun _ h => h)
        unfold exCells at a1'
        rw [Nat.zero_mul, Nat.add_zero] at a0'
        rw [Nat.one_mul] at a1'
        have z0 := fun n' : NilW wr => n'.cell (a0'.get 5 rfl)
        have z1 := fun n' : NilW wr => n'.cell (a1'.get 5 rfl)
        simp only [Nat.add_assoc, Nat.reduceAdd] at z1
        have wz : IntKind.i64.wrap 0 = 0 := rfl
        have wo : IntKind.i64.wrap 1 = 1 := rfl
        have CS := fun w => spanR_any e0.i e1.i w
        have HU2 : Hid (unionM (l.drop k) u = match spanM e0.i e1.i with | some p => unionM (l.drop (k + 1)) (u ||| p) | none => none) := Lib.hid (by
          rw [drop_get htk]
          show (match spanM (firstI t.x) (lastI t.x) with | some p => _ | none => none) = _
          rw [hX]
          rfl)
        obtain ⟨r, hrr⟩ : ∃ r, spanM e0.i e1.i = r := ⟨_, rfl⟩
        have HRR := Lib.hid hrr
        have ESP : spI e0.i e1.i = (r.map S).getD 0 := by unfold spI; rw [hrr]
        rw [ESP, hrr] at CS
        rw [hrr] at HU2
        clear ESP hrr hX hxl a1 hr hc ht htk hk k0 e3 hm3 g0 g1 gb gn gs gc gt gr hO
        go_wp2_with fail
        refine wp_region_nilq (by kernel_rfl) (by kernel_rfl) ?_
        repeat (quiet_step ((go_at_call 117; exact Calls.nilq_same (CS _))))
        refine wpQuiet_nil ?_
        intro w3 h3
        obtain ⟨n3, e3⟩ := h3
        have h3 := n3.only
        rw [← e3] at h3
        clear e3 n3
        have HO3 : Hid (Only Nil w w3) := Lib.hid (Nil.trans HO.out h3)
        have p7 := h3.cell bx7 (fun h => h)
        clear h3 CS bx7 b0 b1 b2 b3 b4 b5 b6 b7 a0' z0 a1' z1
        cases r with
        | none =>
          have E : Hid (unionM l 0 = none) := Lib.hid (by rw [← HU.out, HU2.out])
          go_wp2_with fail
          go_ret2
          exact ⟨vend_none (by rw [E.out]; rfl), HO3.out⟩
        | some p =>
          have hp := spanM_lt HRR.out
          have HOR := Lib.hid (or_S u p HLU.out hp)
          have HLT := Lib.hid (or_lt HLU.out hp)
          clear hp
          go_wp2_with fail
          go_roundg (na - (k + 1))
          case measure => have := HG.out; omega
          case rel => exact ⟨k + 1, u ||| p, next_int hkn HN.out (by decide), congrArg (Value.int .i32) HOR.out, by omega, rfl, HO3.out, HLT.out, HU2.out.symm.trans HU.out, p7⟩
    · have hkn' : k = na := by omega
      subst hkn'
      have k1 : (k : Int) ≤ (k : Int) := Int.le_refl _
      have E : Hid ((unionM l 0).map S = some (S u)) := Lib.hid (by
        rw [← HU.out, List.drop_eq_nil_of_le (by rw [HA.out]; exact Nat.le_refl _)]
        rfl)
      clear hr hc ht
      go_wp2_with fail
      go_ret2
      exact ⟨vend_some E.out rfl, HO.out⟩
end Go.Proofs.Ytgicibblkmeoeaa
