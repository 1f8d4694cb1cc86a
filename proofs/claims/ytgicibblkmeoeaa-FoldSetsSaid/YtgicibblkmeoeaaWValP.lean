/- What an expression that is known makes: the program. -/
import Derived.Test.YtgicibblkmeoeaaProg
import Derived.Test.YtgicibblkmeoeaaWKnowP
import Derived.Test.YtgicibblkmeoeaaWKnowR
set_option linter.unusedSimpArgs false
set_option linter.unusedVariables false
namespace Go.Proofs.Ytgicibblkmeoeaa
open Go.RowKit M


set_option maxRecDepth 10000 in
set_option maxHeartbeats 1600000 in
theorem value_one {Z : Nat → Prop} {w0 : World} {ov xv : Value} {e0 : Ex} (op f n i : Int) (nm st : ByteArray) (h : ExS Z w0 xv [e0]) (w : World) (hw : Only Nil w0 w) (hop : op = 7 ∨ op = 8 ∨ op = 27 ∨ op = 28 ∨ op = 32 ∨ op = 33) :
    Calls Try.prog 59 #[.agg #[.int .i64 op, .int .i64 f, .int .i64 n, .string nm, ov, .int .i32 i, .string st, xv]] w fun e w' => VEnd 0 (oneM op e0.t.form e0.i) e ∧ Only Nil w w' := by
  obtain ⟨_, ao, cap, off, b, ovs, xvs, h0, h1, hb, hn, hs, hc, ht, hr⟩ := h
  have e1 := h0 (by simp)
  subst e1
  simp only [List.length_cons, List.length_nil, Nat.zero_add, Nat.reduceAdd] at *
  have a0 := hc 0 e0 rfl
  obtain ⟨aa0, ca0, q0⟩ := (ht 0 e0 rfl).slice
  obtain ⟨ax0, cx0, p0⟩ := (hr 0 e0 rfl).slice
  have i0 := (hs e0 (by simp)).2.2
  unfold exCells at a0
  rw [q0, p0] at a0
  obtain ⟨m0, hm0⟩ : ∃ m, e0.t.of.length = m := ⟨_, rfl⟩
  obtain ⟨l0, hl0⟩ : ∃ m, e0.x.length = m := ⟨_, rfl⟩
  rw [hm0, hl0] at a0
  rw [Nat.zero_mul, Nat.add_zero] at a0
  have hop2 : (op == 24) = false := by simp; omega
  have C := fun w => ofOne_any op e0.op e0.t.form e0.t.n e0.i e0.t.name e0.s (.slice aa0 m0 ca0) (.slice ax0 l0 cx0) w hop i0
  obtain ⟨r, hrr⟩ : ∃ r, oneM op e0.t.form e0.i = r := ⟨_, rfl⟩
  rw [hrr] at C ⊢
  unfold VEnd at C ⊢
  clear h0 h1 hb hn hs hc ht hr hm0 hl0 q0 p0
  clear hrr i0 hop
  go_enter Try.func59, Try.ntmps59
  go_wp2_with fail
  have hB6 := Blk.new w #[.int .i64 op, .int .i64 f, .int .i64 n, .string nm, ov, .int .i32 i, .string st, .slice (some ⟨b, off, none⟩) 1 cap] 27
  have hO6 : Only Nil w (w.alloc (.cells #[.int .i64 op, .int .i64 f, .int .i64 n, .string nm, ov, .int .i32 i, .string st, .slice (some ⟨b, off, none⟩) 1 cap] 27)) := alloc_nil _ _
  obtain ⟨w1, hw1⟩ : ∃ y, w.alloc (.cells #[.int .i64 op, .int .i64 f, .int .i64 n, .string nm, ov, .int .i32 i, .string st, .slice (some ⟨b, off, none⟩) 1 cap] 27) = y := ⟨_, rfl⟩
  rw [hw1] at hB6 hO6 ⊢
  clear hw1
  have c0 := hB6.cell 0
  have c7 := hB6.cell 7
  simp only [List.getElem?_toArray, List.getElem?_cons_zero, List.getElem?_cons_succ] at c0 c7
  have d0 := fun n' : NilW w1 => n'.cell c0
  have d7 := fun n' : NilW w1 => n'.cell c7
  have HO6 := Lib.hid hO6
  have k0 := (a0.kept hw (fun _ h => h)).kept hO6 (fun _ h => h)
  have x00 := fun n' : NilW w1 => n'.cell (k0.get0)
  have x01 := fun n' : NilW w1 => n'.cell (k0.get 1 rfl)
  have x02 := fun n' : NilW w1 => n'.cell (k0.get 2 rfl)
  have x03 := fun n' : NilW w1 => n'.cell (k0.get 3 rfl)
  have x04 := fun n' : NilW w1 => n'.cell (k0.get 4 rfl)
  have x05 := fun n' : NilW w1 => n'.cell (k0.get 5 rfl)
  have x06 := fun n' : NilW w1 => n'.cell (k0.get 6 rfl)
  have x07 := fun n' : NilW w1 => n'.cell (k0.get 7 rfl)
  clear hB6 c0 c7 hO6 a0 k0
  refine wp_region_nilq (by kernel_rfl) (by kernel_rfl) ?_
  repeat (quiet_step ((go_at_call 111; exact Calls.nilq_of (C _))))
  refine wpQuiet_nil ?_
  intro w3 h3
  obtain ⟨n3, e3⟩ := h3
  have h3 := n3.only
  rw [← e3] at h3
  clear e3 n3
  have HO3 : Hid (Only Nil w w3) := Lib.hid (Nil.trans HO6.out h3)
  clear h3 d0 d7
  go_wp2_with fail
  go_ret2
  exact ⟨rfl, HO3.out⟩
set_option maxRecDepth 10000 in
set_option maxHeartbeats 3200000 in
theorem value_num {Z : Nat → Prop} {w0 : World} {ov xv : Value} {e0 e1 : Ex} (op f n i : Int) (nm st : ByteArray) (h : ExS Z w0 xv [e0, e1]) (w : World) (hw : Only Nil w0 w) (hop : (9 ≤ op ∧ op ≤ 22) ∨ op = 29 ∨ op = 30 ∨ op = 31) (c : Bool) (E : binM op e0.t.form e0.i e1.i = twoM op e0.i e1.i) (g3 : (e0.t.form == 4) = c) (g4 : c = true → decide (9 ≤ op ∧ op ≤ 12) = false) :
    Calls Try.prog 59 #[.agg #[.int .i64 op, .int .i64 f, .int .i64 n, .string nm, ov, .int .i32 i, .string st, xv]] w fun e w' => VEnd 0 (binM op e0.t.form e0.i e1.i) e ∧ Only Nil w w' := by
  obtain ⟨_, ao, cap, off, b, ovs, xvs, h0, h1, hb, hn, hs, hc, ht, hr⟩ := h
  have ee := h0 (by simp)
  subst ee
  simp only [List.length_cons, List.length_nil, Nat.zero_add, Nat.reduceAdd] at *
  have a0 := hc 0 e0 rfl
  obtain ⟨aa0, ca0, q0⟩ := (ht 0 e0 rfl).slice
  obtain ⟨ax0, cx0, p0⟩ := (hr 0 e0 rfl).slice
  have i0 := (hs e0 (by simp)).2.2
  unfold exCells at a0
  rw [q0, p0] at a0
  obtain ⟨m0, hm0⟩ : ∃ m, e0.t.of.length = m := ⟨_, rfl⟩
  obtain ⟨l0, hl0⟩ : ∃ m, e0.x.length = m := ⟨_, rfl⟩
  rw [hm0, hl0] at a0
  have a1 := hc 1 e1 rfl
  obtain ⟨aa1, ca1, q1⟩ := (ht 1 e1 rfl).slice
  obtain ⟨ax1, cx1, p1⟩ := (hr 1 e1 rfl).slice
  have i1 := (hs e1 (by simp)).2.2
  unfold exCells at a1
  rw [q1, p1] at a1
  obtain ⟨m1, hm1⟩ : ∃ m, e1.t.of.length = m := ⟨_, rfl⟩
  obtain ⟨l1, hl1⟩ : ∃ m, e1.x.length = m := ⟨_, rfl⟩
  rw [hm1, hl1] at a1
  rw [Nat.zero_mul, Nat.add_zero] at a0
  rw [Nat.one_mul] at a1
  have hop2 : (op == 24) = false := by simp; omega
  have C := fun w => ofTwo_any op e0.i e1.i w hop i0 i1
  have CI := fun w => isOfSets_any op w (by omega)
  clear h0 h1 hb hn hs hc ht hr hm0 hl0 q0 p0 hm1 hl1 q1 p1
  have y1 : ∀ o : Obj, (w.alloc o).cell? ⟨b, off + 1, none⟩ = some (.int .i64 e0.t.form) := fun o => (alloc_nil w o).cell ((a0.kept hw (fun _ h => h)).get 1 rfl) (fun h => h)
  rw [E]
  obtain ⟨r, hrr⟩ : ∃ r, twoM op e0.i e1.i = r := ⟨_, rfl⟩
  rw [hrr] at C ⊢
  unfold VEnd at C ⊢
  clear E hrr i0 i1 hop
  cases c
  · clear CI g4
    go_enter Try.func59, Try.ntmps59
    go_wp2_with fail
    have hB6 := Blk.new w #[.int .i64 op, .int .i64 f, .int .i64 n, .string nm, ov, .int .i32 i, .string st, .slice (some ⟨b, off, none⟩) 2 cap] 27
    have hO6 : Only Nil w (w.alloc (.cells #[.int .i64 op, .int .i64 f, .int .i64 n, .string nm, ov, .int .i32 i, .string st, .slice (some ⟨b, off, none⟩) 2 cap] 27)) := alloc_nil _ _
    obtain ⟨w1, hw1⟩ : ∃ y, w.alloc (.cells #[.int .i64 op, .int .i64 f, .int .i64 n, .string nm, ov, .int .i32 i, .string st, .slice (some ⟨b, off, none⟩) 2 cap] 27) = y := ⟨_, rfl⟩
    rw [hw1] at hB6 hO6 ⊢
    clear hw1
    have c0 := hB6.cell 0
    have c7 := hB6.cell 7
    simp only [List.getElem?_toArray, List.getElem?_cons_zero, List.getElem?_cons_succ] at c0 c7
    have d0 := fun n' : NilW w1 => n'.cell c0
    have d7 := fun n' : NilW w1 => n'.cell c7
    have HO6 := Lib.hid hO6
    have k0 := (a0.kept hw (fun _ h => h)).kept hO6 (fun _ h => h)
    have x00 := fun n' : NilW w1 => n'.cell (k0.get0)
    have x01 := fun n' : NilW w1 => n'.cell (k0.get 1 rfl)
    have x02 := fun n' : NilW w1 => n'.cell (k0.get 2 rfl)
    have x03 := fun n' : NilW w1 => n'.cell (k0.get 3 rfl)
    have x04 := fun n' : NilW w1 => n'.cell (k0.get 4 rfl)
    have x05 := fun n' : NilW w1 => n'.cell (k0.get 5 rfl)
    have x06 := fun n' : NilW w1 => n'.cell (k0.get 6 rfl)
    have x07 := fun n' : NilW w1 => n'.cell (k0.get 7 rfl)
    have k1 := (a1.kept hw (fun _ h => h)).kept hO6 (fun _ h => h)
    have x10 := fun n' : NilW w1 => n'.cell (k1.get0)
    have x11 := fun n' : NilW w1 => n'.cell (k1.get 1 rfl)
    have x12 := fun n' : NilW w1 => n'.cell (k1.get 2 rfl)
    have x13 := fun n' : NilW w1 => n'.cell (k1.get 3 rfl)
    have x14 := fun n' : NilW w1 => n'.cell (k1.get 4 rfl)
    have x15 := fun n' : NilW w1 => n'.cell (k1.get 5 rfl)
    have x16 := fun n' : NilW w1 => n'.cell (k1.get 6 rfl)
    have x17 := fun n' : NilW w1 => n'.cell (k1.get 7 rfl)
    simp only [Nat.add_assoc, Nat.reduceAdd] at x10 x11 x12 x13 x14 x15 x16 x17
    clear hB6 c0 c7 hO6 a0 k0 a1 k1
    refine wp_region_nilq (by kernel_rfl) (by kernel_rfl) ?_
    repeat (quiet_step ((go_at_call 114; exact Calls.nilq_same (C _))))
    refine wpQuiet_nil ?_
    intro w3 h3
    obtain ⟨n3, e3⟩ := h3
    have h3 := n3.only
    rw [← e3] at h3
    clear e3 n3
    have HO3 : Hid (Only Nil w w3) := Lib.hid (Nil.trans HO6.out h3)
    clear h3 d0 d7
    go_wp2_with fail
    go_ret2
    exact ⟨rfl, HO3.out⟩
  · rw [g4 rfl] at CI
    clear g4
    go_enter Try.func59, Try.ntmps59
    go_wp2_with (go_at_call 112; refine (CI _).mono ?_; rintro e w1 ⟨rfl, rfl⟩)
    have hB6 := Blk.new w #[.int .i64 op, .int .i64 f, .int .i64 n, .string nm, ov, .int .i32 i, .string st, .slice (some ⟨b, off, none⟩) 2 cap] 27
    have hO6 : Only Nil w (w.alloc (.cells #[.int .i64 op, .int .i64 f, .int .i64 n, .string nm, ov, .int .i32 i, .string st, .slice (some ⟨b, off, none⟩) 2 cap] 27)) := alloc_nil _ _
    obtain ⟨w1, hw1⟩ : ∃ y, w.alloc (.cells #[.int .i64 op, .int .i64 f, .int .i64 n, .string nm, ov, .int .i32 i, .string st, .slice (some ⟨b, off, none⟩) 2 cap] 27) = y := ⟨_, rfl⟩
    rw [hw1] at hB6 hO6 ⊢
    clear hw1
    have c0 := hB6.cell 0
    have c7 := hB6.cell 7
    simp only [List.getElem?_toArray, List.getElem?_cons_zero, List.getElem?_cons_succ] at c0 c7
    have d0 := fun n' : NilW w1 => n'.cell c0
    have d7 := fun n' : NilW w1 => n'.cell c7
    have HO6 := Lib.hid hO6
    have k0 := (a0.kept hw (fun _ h => h)).kept hO6 (fun _ h => h)
    have x00 := fun n' : NilW w1 => n'.cell (k0.get0)
    have x01 := fun n' : NilW w1 => n'.cell (k0.get 1 rfl)
    have x02 := fun n' : NilW w1 => n'.cell (k0.get 2 rfl)
    have x03 := fun n' : NilW w1 => n'.cell (k0.get 3 rfl)
    have x04 := fun n' : NilW w1 => n'.cell (k0.get 4 rfl)
    have x05 := fun n' : NilW w1 => n'.cell (k0.get 5 rfl)
    have x06 := fun n' : NilW w1 => n'.cell (k0.get 6 rfl)
    have x07 := fun n' : NilW w1 => n'.cell (k0.get 7 rfl)
    have k1 := (a1.kept hw (fun _ h => h)).kept hO6 (fun _ h => h)
    have x10 := fun n' : NilW w1 => n'.cell (k1.get0)
    have x11 := fun n' : NilW w1 => n'.cell (k1.get 1 rfl)
    have x12 := fun n' : NilW w1 => n'.cell (k1.get 2 rfl)
    have x13 := fun n' : NilW w1 => n'.cell (k1.get 3 rfl)
    have x14 := fun n' : NilW w1 => n'.cell (k1.get 4 rfl)
    have x15 := fun n' : NilW w1 => n'.cell (k1.get 5 rfl)
    have x16 := fun n' : NilW w1 => n'.cell (k1.get 6 rfl)
    have x17 := fun n' : NilW w1 => n'.cell (k1.get 7 rfl)
    simp only [Nat.add_assoc, Nat.reduceAdd] at x10 x11 x12 x13 x14 x15 x16 x17
    clear hB6 c0 c7 hO6 a0 k0 a1 k1
    refine wp_region_nilq (by kernel_rfl) (by kernel_rfl) ?_
    repeat (quiet_step ((go_at_call 114; exact Calls.nilq_same (C _))))
    refine wpQuiet_nil ?_
    intro w3 h3
    obtain ⟨n3, e3⟩ := h3
    have h3 := n3.only
    rw [← e3] at h3
    clear e3 n3
    have HO3 : Hid (Only Nil w w3) := Lib.hid (Nil.trans HO6.out h3)
    clear h3 d0 d7
    go_wp2_with fail
    go_ret2
    exact ⟨rfl, HO3.out⟩
set_option maxRecDepth 10000 in
set_option maxHeartbeats 3200000 in
theorem value_sets {Z : Nat → Prop} {w0 : World} {ov xv : Value} {e0 e1 : Ex} (op f n i : Int) (nm st : ByteArray) (h : ExS Z w0 xv [e0, e1]) (w : World) (hw : Only Nil w0 w) (hop : (9 ≤ op ∧ op ≤ 22) ∨ op = 29 ∨ op = 30 ∨ op = 31) (g : e0.t.form = 4) (g2 : 9 ≤ op ∧ op ≤ 12) :
    Calls Try.prog 59 #[.agg #[.int .i64 op, .int .i64 f, .int .i64 n, .string nm, ov, .int .i32 i, .string st, xv]] w fun e w' => VEnd 0 (binM op e0.t.form e0.i e1.i) e ∧ Only Nil w w' := by
  obtain ⟨_, ao, cap, off, b, ovs, xvs, h0, h1, hb, hn, hs, hc, ht, hr⟩ := h
  have ee := h0 (by simp)
  subst ee
  simp only [List.length_cons, List.length_nil, Nat.zero_add, Nat.reduceAdd] at *
  have a0 := hc 0 e0 rfl
  obtain ⟨aa0, ca0, q0⟩ := (ht 0 e0 rfl).slice
  obtain ⟨ax0, cx0, p0⟩ := (hr 0 e0 rfl).slice
  have i0 := (hs e0 (by simp)).2.2
  unfold exCells at a0
  rw [q0, p0] at a0
  obtain ⟨m0, hm0⟩ : ∃ m, e0.t.of.length = m := ⟨_, rfl⟩
  obtain ⟨l0, hl0⟩ : ∃ m, e0.x.length = m := ⟨_, rfl⟩
  rw [hm0, hl0] at a0
  have a1 := hc 1 e1 rfl
  obtain ⟨aa1, ca1, q1⟩ := (ht 1 e1 rfl).slice
  obtain ⟨ax1, cx1, p1⟩ := (hr 1 e1 rfl).slice
  have i1 := (hs e1 (by simp)).2.2
  unfold exCells at a1
  rw [q1, p1] at a1
  obtain ⟨m1, hm1⟩ : ∃ m, e1.t.of.length = m := ⟨_, rfl⟩
  obtain ⟨l1, hl1⟩ : ∃ m, e1.x.length = m := ⟨_, rfl⟩
  rw [hm1, hl1] at a1
  rw [Nat.zero_mul, Nat.add_zero] at a0
  rw [Nat.one_mul] at a1
  have hop2 : (op == 24) = false := by simp; omega
  have CI := fun w => isOfSets_any op w (by omega)
  have CS := fun (h : 9 ≤ op ∧ op ≤ 12) w => ofSets_any op (U e0.i) (U e1.i) w h (U_lt _) (U_lt _)
  clear h0 h1 hb hn hs hc ht hr hm0 hl0 q0 p0 hm1 hl1 q1 p1
  have y1 : ∀ o : Obj, (w.alloc o).cell? ⟨b, off + 1, none⟩ = some (.int .i64 e0.t.form) := fun o => (alloc_nil w o).cell ((a0.kept hw (fun _ h => h)).get 1 rfl) (fun h => h)
  have E := Lib.hid (show binM op e0.t.form e0.i e1.i = some (S (setsM op (U e0.i) (U e1.i))) by unfold binM; rw [if_pos ⟨g, g2⟩])
  have ES := ws_nat (setsM op (U e0.i) (U e1.i)) (setsM_lt op _ _ (U_lt _) (U_lt _))
  rw [show decide (9 ≤ op ∧ op ≤ 12) = true by simpa using g2] at CI
  replace CS := CS g2
  have u0 := wu e0.i
  have u1 := wu e1.i
  have g3 : (e0.t.form == 4) = true := by rw [g]; rfl
  obtain ⟨q, hq⟩ : ∃ q, setsM op (U e0.i) (U e1.i) = q := ⟨_, rfl⟩
  obtain ⟨v0, hv0⟩ : ∃ q, U e0.i = q := ⟨_, rfl⟩
  obtain ⟨v1, hv1⟩ : ∃ q, U e1.i = q := ⟨_, rfl⟩
  rw [hq] at E ES CS
  rw [hv0] at u0 CS
  rw [hv1] at u1 CS
  have HES := Lib.hid ES
  clear i0 i1 hop g g2 hq hv0 hv1 ES
  go_enter Try.func59, Try.ntmps59
  go_wp2_with (go_at_call 112; refine (CI _).mono ?_; rintro e w1 ⟨rfl, rfl⟩)
  have hB6 := Blk.new w #[.int .i64 op, .int .i64 f, .int .i64 n, .string nm, ov, .int .i32 i, .string st, .slice (some ⟨b, off, none⟩) 2 cap] 27
  have hO6 : Only Nil w (w.alloc (.cells #[.int .i64 op, .int .i64 f, .int .i64 n, .string nm, ov, .int .i32 i, .string st, .slice (some ⟨b, off, none⟩) 2 cap] 27)) := alloc_nil _ _
  obtain ⟨w1, hw1⟩ : ∃ y, w.alloc (.cells #[.int .i64 op, .int .i64 f, .int .i64 n, .string nm, ov, .int .i32 i, .string st, .slice (some ⟨b, off, none⟩) 2 cap] 27) = y := ⟨_, rfl⟩
  rw [hw1] at hB6 hO6 ⊢
  clear hw1
  have c0 := hB6.cell 0
  have c7 := hB6.cell 7
  simp only [List.getElem?_toArray, List.getElem?_cons_zero, List.getElem?_cons_succ] at c0 c7
  have d0 := fun n' : NilW w1 => n'.cell c0
  have d7 := fun n' : NilW w1 => n'.cell c7
  have HO6 := Lib.hid hO6
  have k0 := (a0.kept hw (fun _ h => h)).kept hO6 (fun _ h => h)
  have x00 := fun n' : NilW w1 => n'.cell (k0.get0)
  have x01 := fun n' : NilW w1 => n'.cell (k0.get 1 rfl)
  have x02 := fun n' : NilW w1 => n'.cell (k0.get 2 rfl)
  have x03 := fun n' : NilW w1 => n'.cell (k0.get 3 rfl)
  have x04 := fun n' : NilW w1 => n'.cell (k0.get 4 rfl)
  have x05 := fun n' : NilW w1 => n'.cell (k0.get 5 rfl)
  have x06 := fun n' : NilW w1 => n'.cell (k0.get 6 rfl)
  have x07 := fun n' : NilW w1 => n'.cell (k0.get 7 rfl)
  have k1 := (a1.kept hw (fun _ h => h)).kept hO6 (fun _ h => h)
  have x10 := fun n' : NilW w1 => n'.cell (k1.get0)
  have x11 := fun n' : NilW w1 => n'.cell (k1.get 1 rfl)
  have x12 := fun n' : NilW w1 => n'.cell (k1.get 2 rfl)
  have x13 := fun n' : NilW w1 => n'.cell (k1.get 3 rfl)
  have x14 := fun n' : NilW w1 => n'.cell (k1.get 4 rfl)
  have x15 := fun n' : NilW w1 => n'.cell (k1.get 5 rfl)
  have x16 := fun n' : NilW w1 => n'.cell (k1.get 6 rfl)
  have x17 := fun n' : NilW w1 => n'.cell (k1.get 7 rfl)
  simp only [Nat.add_assoc, Nat.reduceAdd] at x10 x11 x12 x13 x14 x15 x16 x17
  clear hB6 c0 c7 hO6 a0 k0 a1 k1
  refine wp_region_nilq (by kernel_rfl) (by kernel_rfl) ?_
  repeat (quiet_step ((go_at_call 113; exact Calls.nilq_same (CS _))))
  refine wpQuiet_nil ?_
  intro w3 h3
  obtain ⟨n3, e3⟩ := h3
  have h3 := n3.only
  rw [← e3] at h3
  clear e3 n3
  have HO3 : Hid (Only Nil w w3) := Lib.hid (Nil.trans HO6.out h3)
  clear h3 d0 d7
  go_wp2_with fail
  go_ret2
  exact ⟨vend_some E.out HES.out, HO3.out⟩
set_option maxRecDepth 10000 in
set_option maxHeartbeats 3200000 in
theorem value_two {Z : Nat → Prop} {w0 : World} {ov xv : Value} {e0 e1 : Ex} (op f n i : Int) (nm st : ByteArray) (h : ExS Z w0 xv [e0, e1]) (w : World) (hw : Only Nil w0 w) (hop : (9 ≤ op ∧ op ≤ 22) ∨ op = 29 ∨ op = 30 ∨ op = 31) :
    Calls Try.prog 59 #[.agg #[.int .i64 op, .int .i64 f, .int .i64 n, .string nm, ov, .int .i32 i, .string st, xv]] w fun e w' => VEnd 0 (binM op e0.t.form e0.i e1.i) e ∧ Only Nil w w' := by
  by_cases g : e0.t.form = 4
  · by_cases g2 : 9 ≤ op ∧ op ≤ 12
    · exact value_sets op f n i nm st h w hw hop g g2
    · exact value_num op f n i nm st h w hw hop true (by unfold binM; rw [if_neg (fun h => g2 h.2)]) (by rw [g]; rfl) (fun _ => by simpa using g2)
  · exact value_num op f n i nm st h w hw hop false (by unfold binM; rw [if_neg (fun h => g h.1)]) (by simpa using g) (fun h => by cases h)
end Go.Proofs.Ytgicibblkmeoeaa
