/- What is known: the document. -/
import Derived.Test.YtgicibblkmeoeaaProg
import Derived.Test.YtgicibblkmeoeaaWList
set_option linter.unusedSimpArgs false
set_option linter.unusedVariables false
namespace Go.Proofs.Ytgicibblkmeoeaa
open Go.RowKit M


theorem Calls.nilq_same {P : Program} {f : FuncId} {args : Array Value} {w : World} {n : NilW w} {v : Value}
    (h : Calls P f args n.at fun e w' => e = .returned v ∧ n.at = w') : Calls P f args n.at fun e w'' => e = .returned v ∧ ∃ m : NilW w, w'' = m.at :=
  h.mono fun _ _ ⟨he, hm⟩ => ⟨he, n, hm.symm⟩
set_option maxRecDepth 10000 in
set_option maxHeartbeats 3200000 in
theorem foldable_set {U : Nat → Prop} {w0 : World} {ov xv : Value} {l : List Ex} (f n i : Int) (nm st : ByteArray) (h : ExS U w0 xv l) (w : World) (hw : Only Nil w0 w) :
    Calls Try.prog 60 #[.agg #[.int .i64 24, .int .i64 f, .int .i64 n, .string nm, ov, .int .i32 i, .string st, xv]] w fun e w' => e = .returned (.bool (l.all elemM)) ∧ Only Nil w w' := by
  obtain ⟨l, ao, cap, off, b, ovs, xvs, h0, h1, hb, hn, hs, hc, ht, hr⟩ := h
  obtain ⟨na, hna⟩ : ∃ x, l.length = x := ⟨_, rfl⟩
  rw [hna] at h0 hn ⊢
  have HW := Lib.hid hw
  have H0 := Lib.hid h0
  have HA := Lib.hid hna
  have HN := Lib.hid hn
  clear hw h0 h1 hb hna hn hs
  go_enter Try.func60, Try.ntmps60
  go_wp2_with fail
  go_loopg [3] na (fun g j wr => ∃ k : Nat, j = .int .i64 (k : Int) ∧ k ≤ na ∧ g = na - k ∧ Only Nil w wr ∧ AllTo elemM k l ∧ wr.cell? ⟨w.heap.size, 7, none⟩ = some (.slice ao na cap))
  case atStart => exact ⟨0, rfl, Nat.zero_le _, rfl, alloc_nil _ _, AllTo.zero _ _, by simp⟩
  case round =>
    obtain ⟨k, rfl, hk, hg, ho, hall, bx7⟩ := hrel
    have HG := Lib.hid hg
    have HO := Lib.hid ho
    have HL := Lib.hid hall
    clear hg ho hall
    have BX : Hid (∀ o : Obj, (wr.alloc o).cell? ⟨w.heap.size, 7, none⟩ = some (.slice ao na cap)) := Lib.hid (fun o => (alloc_nil wr o).cell bx7 (fun h => h))
    have k0 : (0 : Int) ≤ (k : Int) := Int.natCast_nonneg _
    by_cases hkn : k < na
    · have k1 : (k : Int) < (na : Int) := by omega
      obtain ⟨t, htk⟩ : ∃ t, l[k]? = some t := ⟨_, List.getElem?_eq_getElem (by rw [HA.out]; exact hkn)⟩
      have e1 := H0.out (by omega)
      subst e1
      have hO : Only Nil w0 wr := Nil.trans HW.out HO.out
      have a1 := (hc k t htk).kept hO (fun _ h => h)
      unfold exCells at a1
      have b0 := a1.get0
      have b1 := a1.get 1 rfl
      have b2 := a1.get 2 rfl
      have b3 := a1.get 3 rfl
      have b4 := a1.get 4 rfl
      have b5 := a1.get 5 rfl
      have b6 := a1.get 6 rfl
      have b7 := a1.get 7 rfl
      obtain ⟨ao3, cap3, e3⟩ := (ht k t htk).slice
      obtain ⟨ao9, cap9, e9⟩ := (hr k t htk).slice
      rw [e3] at b4
      rw [e9] at b7
      obtain ⟨m3, hm3⟩ : ∃ x, t.t.of.length = x := ⟨_, rfl⟩
      rw [hm3] at b4
      obtain ⟨m9, hm9⟩ : ∃ x, t.x.length = x := ⟨_, rfl⟩
      rw [hm9] at b7
      have HT := Lib.hid htk
      by_cases g : t.op = 25
      · have HR : Hid (elemM t = knownM t.x 1) := Lib.hid (by unfold elemM; simp [g])
        obtain ⟨r, hr0⟩ : ∃ r, knownM t.x 1 = r := ⟨_, rfl⟩
        replace HR : Hid (elemM t = r) := Lib.hid (HR.out.trans hr0)
        have C := fun w' (h : Only Nil w0 w') => knownR_any (hr k t htk) 1 w' h
        rw [e9, hm9, hr0, show (r && decide (0 < 1)) = r by simp] at C
        have HC := Lib.hid C
        rw [g] at b0
        clear a1 hr hc ht htk hk k0 e3 hm3 e9 hm9 hr0 g C
        go_wp2_with fail
        have HO6 : Hid (∀ n : NilW (wr.alloc (.cells #[.int .i64 25, .int .i64 t.t.form, .int .i64 t.t.n, .string t.t.name, .slice ao3 m3 cap3, .int .i32 t.i, .string t.s, .slice ao9 m9 cap9] 27)), Only Nil w0 n.at) := Lib.hid (fun n => Nil.trans (hO.alloc _) n.only)
        have hB6 := Blk.new wr #[.int .i64 25, .int .i64 t.t.form, .int .i64 t.t.n, .string t.t.name, .slice ao3 m3 cap3, .int .i32 t.i, .string t.s, .slice ao9 m9 cap9] 27
        have c0 := hB6.cell 0
        have c7 := hB6.cell 7
        simp only [List.getElem?_toArray, List.getElem?_cons_zero, List.getElem?_cons_succ] at c0 c7
        have d0 := fun n : NilW (wr.alloc (.cells #[.int .i64 25, .int .i64 t.t.form, .int .i64 t.t.n, .string t.t.name, .slice ao3 m3 cap3, .int .i32 t.i, .string t.s, .slice ao9 m9 cap9] 27)) => n.cell c0
        have d7 := fun n : NilW (wr.alloc (.cells #[.int .i64 25, .int .i64 t.t.form, .int .i64 t.t.n, .string t.t.name, .slice ao3 m3 cap3, .int .i32 t.i, .string t.s, .slice ao9 m9 cap9] 27)) => n.cell c7
        have CA := fun w => arity_any 25 w
        rw [show (arR 25 : Nat) = 1 from rfl] at CA
        clear hB6 c0 c7 hO
        refine wp_region_nilq (by kernel_rfl) (by kernel_rfl) ?_
        repeat (quiet_step (first | (go_at_call 116; exact Calls.nilq_same (CA _)) | (go_at_call 115; exact Calls.nilq_of (HC.out _ (HO6.out _)))))
        refine wpQuiet_nil ?_
        intro w3 h3
        obtain ⟨n3, e3⟩ := h3
        have h3 := n3.only
        rw [← e3] at h3
        clear e3 n3
        have HO3 : Hid (Only Nil w w3) := Lib.hid (Nil.trans (HO.out.alloc _) h3)
        have p7 := h3.cell (a := ⟨w.heap.size, 7, none⟩) (v := .slice (some ⟨b, off, none⟩) na cap) (BX.out _) (fun h => h)
        clear h3 HC CA HO6 d0 d7 b0 b1 b2 b3 b4 b5 b6 b7 bx7
        cases r
        · have E := Lib.hid (show l.all elemM = false from all_no HT.out HR.out)
          go_wp2_with fail
          go_ret
          exact ⟨retB E.out, HO3.out⟩
        · have HL2 := Lib.hid (HL.out.next HT.out HR.out)
          go_wp2_with fail
          go_roundg (na - (k + 1))
          case measure => have := HG.out; omega
          case rel => exact ⟨k + 1, next_int hkn HN.out (by decide), by omega, rfl, HO3.out, HL2.out, p7⟩
      · by_cases g2 : t.op = 26
        · have HR : Hid (elemM t = knownM t.x 2) := Lib.hid (by unfold elemM; simp [g2])
          obtain ⟨r, hr0⟩ : ∃ r, knownM t.x 2 = r := ⟨_, rfl⟩
          replace HR : Hid (elemM t = r) := Lib.hid (HR.out.trans hr0)
          have C := fun w' (h : Only Nil w0 w') => knownR_any (hr k t htk) 2 w' h
          rw [e9, hm9, hr0, show (r && decide (0 < 2)) = r by simp] at C
          have HC := Lib.hid C
          rw [g2] at b0
          clear a1 hr hc ht htk hk k0 e3 hm3 e9 hm9 hr0 g C
          go_wp2_with fail
          have HO6 : Hid (∀ n : NilW (wr.alloc (.cells #[.int .i64 26, .int .i64 t.t.form, .int .i64 t.t.n, .string t.t.name, .slice ao3 m3 cap3, .int .i32 t.i, .string t.s, .slice ao9 m9 cap9] 27)), Only Nil w0 n.at) := Lib.hid (fun n => Nil.trans (hO.alloc _) n.only)
          have hB6 := Blk.new wr #[.int .i64 26, .int .i64 t.t.form, .int .i64 t.t.n, .string t.t.name, .slice ao3 m3 cap3, .int .i32 t.i, .string t.s, .slice ao9 m9 cap9] 27
          have c0 := hB6.cell 0
          have c7 := hB6.cell 7
          simp only [List.getElem?_toArray, List.getElem?_cons_zero, List.getElem?_cons_succ] at c0 c7
          have d0 := fun n : NilW (wr.alloc (.cells #[.int .i64 26, .int .i64 t.t.form, .int .i64 t.t.n, .string t.t.name, .slice ao3 m3 cap3, .int .i32 t.i, .string t.s, .slice ao9 m9 cap9] 27)) => n.cell c0
          have d7 := fun n : NilW (wr.alloc (.cells #[.int .i64 26, .int .i64 t.t.form, .int .i64 t.t.n, .string t.t.name, .slice ao3 m3 cap3, .int .i32 t.i, .string t.s, .slice ao9 m9 cap9] 27)) => n.cell c7
          have CA := fun w => arity_any 26 w
          rw [show (arR 26 : Nat) = 2 from rfl] at CA
          clear hB6 c0 c7 hO
          refine wp_region_nilq (by kernel_rfl) (by kernel_rfl) ?_
          repeat (quiet_step (first | (go_at_call 116; exact Calls.nilq_same (CA _)) | (go_at_call 115; exact Calls.nilq_of (HC.out _ (HO6.out _)))))
          refine wpQuiet_nil ?_
          intro w3 h3
          obtain ⟨n3, e3⟩ := h3
          have h3 := n3.only
          rw [← e3] at h3
          clear e3 n3
          have HO3 : Hid (Only Nil w w3) := Lib.hid (Nil.trans (HO.out.alloc _) h3)
          have p7 := h3.cell (a := ⟨w.heap.size, 7, none⟩) (v := .slice (some ⟨b, off, none⟩) na cap) (BX.out _) (fun h => h)
          clear h3 HC CA HO6 d0 d7 b0 b1 b2 b3 b4 b5 b6 b7 bx7
          cases r
          · have E := Lib.hid (show l.all elemM = false from all_no HT.out HR.out)
            go_wp2_with fail
            go_ret
            exact ⟨retB E.out, HO3.out⟩
          · have HL2 := Lib.hid (HL.out.next HT.out HR.out)
            go_wp2_with fail
            go_roundg (na - (k + 1))
            case measure => have := HG.out; omega
            case rel => exact ⟨k + 1, next_int hkn HN.out (by decide), by omega, rfl, HO3.out, HL2.out, p7⟩
        · have HR : Hid (elemM t = false) := Lib.hid (by unfold elemM; simp [g, g2])
          have g1 : (t.op != 25) = true := bne_of g
          have g3 : (t.op != 26) = true := bne_of g2
          have E := Lib.hid (show l.all elemM = false from all_no HT.out HR.out)
          clear a1 hr hc ht htk hk k0 e3 hm3 e9 hm9 hO g g2
          go_wp2_with fail
          have hB6 := Blk.new wr #[.int .i64 t.op, .int .i64 t.t.form, .int .i64 t.t.n, .string t.t.name, .slice ao3 m3 cap3, .int .i32 t.i, .string t.s, .slice ao9 m9 cap9] 27
          have c0 := hB6.cell 0
          simp only [List.getElem?_toArray, List.getElem?_cons_zero, List.getElem?_cons_succ] at c0
          have d0 := fun n : NilW (wr.alloc (.cells #[.int .i64 t.op, .int .i64 t.t.form, .int .i64 t.t.n, .string t.t.name, .slice ao3 m3 cap3, .int .i32 t.i, .string t.s, .slice ao9 m9 cap9] 27)) => n.cell c0
          clear hB6 c0
          refine wp_region_nilq (by kernel_rfl) (by kernel_rfl) ?_
          repeat (quiet_step (fail))
          refine wpQuiet_nil ?_
          intro w3 h3
          obtain ⟨n3, e3⟩ := h3
          have h3 := n3.only
          rw [← e3] at h3
          clear e3 n3
          have HO3 : Hid (Only Nil w w3) := Lib.hid (Nil.trans (HO.out.alloc _) h3)
          clear h3 d0
          go_wp2_with fail
          go_ret
          exact ⟨retB E.out, HO3.out⟩
    · have hkn' : k = na := by omega
      subst hkn'
      have k1 : (k : Int) ≤ (k : Int) := Int.le_refl _
      have EA := Lib.hid (HL.out.all (by rw [HA.out]; exact Nat.le_refl _))
      clear hr hc ht
      go_wp2_with fail
      go_ret
      exact ⟨retB EA.out, HO.out⟩

set_option maxRecDepth 10000 in
set_option maxHeartbeats 1600000 in
theorem foldable_other {U : Nat → Prop} {w0 : World} {ov xv : Value} {l : List Ex} (op f n i : Int) (nm st : ByteArray) (h : ExS U w0 xv l) (w : World) (hw : Only Nil w0 w) (hop : op ≠ 24) :
    Calls Try.prog 60 #[.agg #[.int .i64 op, .int .i64 f, .int .i64 n, .string nm, ov, .int .i32 i, .string st, xv]] w fun e w' => e = .returned (.bool (decide (0 < arM op) && knownM l (arM op))) ∧ Only Nil w w' := by
  have g1 := bne_of hop
  have HK := Lib.hid (fun m w' (h' : Only Nil w0 w') => knownR_any h m w' h')
  have CA := fun w => arity_any op w
  have HW : Hid (∀ (o : Obj) (n : NilW (w.alloc o)), Only Nil w0 n.at) := Lib.hid (fun o n => Nil.trans (hw.alloc o) n.only)
  obtain ⟨ao, cap, e⟩ := h.slice
  subst e
  obtain ⟨m, hm⟩ : ∃ m, l.length = m := ⟨_, rfl⟩
  rw [hm] at HK ⊢
  have HOP := Lib.hid hop
  clear h hm hw hop
  by_cases g : op = 25 ∨ op = 26
  · have E : Hid ((decide (0 < arM op) && knownM l (arM op)) = false) := Lib.hid (by rcases g with rfl | rfl <;> rfl)
    rcases g with rfl | rfl
    · clear HK CA
      go_enter Try.func60, Try.ntmps60
      go_wp2_with fail
      have hB6 := Blk.new w #[.int .i64 25, .int .i64 f, .int .i64 n, .string nm, ov, .int .i32 i, .string st, .slice ao m cap] 27
      have c0 := hB6.cell 0
      have c7 := hB6.cell 7
      simp only [List.getElem?_toArray, List.getElem?_cons_zero, List.getElem?_cons_succ] at c0 c7
      have d0 := fun n' : NilW (w.alloc (.cells #[.int .i64 25, .int .i64 f, .int .i64 n, .string nm, ov, .int .i32 i, .string st, .slice ao m cap] 27)) => n'.cell c0
      have d7 := fun n' : NilW (w.alloc (.cells #[.int .i64 25, .int .i64 f, .int .i64 n, .string nm, ov, .int .i32 i, .string st, .slice ao m cap] 27)) => n'.cell c7
      clear hB6 c0 c7
      refine wp_region_nilq (by kernel_rfl) (by kernel_rfl) ?_
      repeat (quiet_step (fail))
      refine wpQuiet_nil ?_
      intro w3 h3
      obtain ⟨n3, e3⟩ := h3
      have h3 := n3.only
      rw [← e3] at h3
      clear e3 n3
      have HO3 : Hid (Only Nil w w3) := Lib.hid (Nil.trans (alloc_nil _ _) h3)
      clear h3
      go_wp2_with fail
      go_ret
      exact ⟨retB E.out, HO3.out⟩
    · clear HK CA
      go_enter Try.func60, Try.ntmps60
      go_wp2_with fail
      have hB6 := Blk.new w #[.int .i64 26, .int .i64 f, .int .i64 n, .string nm, ov, .int .i32 i, .string st, .slice ao m cap] 27
      have c0 := hB6.cell 0
      have c7 := hB6.cell 7
      simp only [List.getElem?_toArray, List.getElem?_cons_zero, List.getElem?_cons_succ] at c0 c7
      have d0 := fun n' : NilW (w.alloc (.cells #[.int .i64 26, .int .i64 f, .int .i64 n, .string nm, ov, .int .i32 i, .string st, .slice ao m cap] 27)) => n'.cell c0
      have d7 := fun n' : NilW (w.alloc (.cells #[.int .i64 26, .int .i64 f, .int .i64 n, .string nm, ov, .int .i32 i, .string st, .slice ao m cap] 27)) => n'.cell c7
      clear hB6 c0 c7
      refine wp_region_nilq (by kernel_rfl) (by kernel_rfl) ?_
      repeat (quiet_step (fail))
      refine wpQuiet_nil ?_
      intro w3 h3
      obtain ⟨n3, e3⟩ := h3
      have h3 := n3.only
      rw [← e3] at h3
      clear e3 n3
      have HO3 : Hid (Only Nil w w3) := Lib.hid (Nil.trans (alloc_nil _ _) h3)
      clear h3
      go_wp2_with fail
      go_ret
      exact ⟨retB E.out, HO3.out⟩
  · have q1 : (op != 25) = true := bne_of (fun h => g (Or.inl h))
    have q2 : (op != 26) = true := bne_of (fun h => g (Or.inr h))
    have e0 : arR op = arM op := by unfold arR; rw [if_neg (fun h => g (Or.inl h)), if_neg (fun h => g (Or.inr h))]
    rw [e0] at CA
    obtain ⟨r, hr⟩ : ∃ r, (decide (0 < arM op) && knownM l (arM op)) = r := ⟨_, rfl⟩
    have HC := Lib.hid (HK.out (arM op))
    rw [show (knownM l (arM op) && decide (0 < arM op)) = r by rw [Bool.and_comm]; exact hr] at HC
    rw [hr]
    obtain ⟨q, hq⟩ : ∃ q, arM op = q := ⟨_, rfl⟩
    rw [hq] at HC CA
    clear g e0 hr hq HK
    go_enter Try.func60, Try.ntmps60
    go_wp2_with fail
    have hB6 := Blk.new w #[.int .i64 op, .int .i64 f, .int .i64 n, .string nm, ov, .int .i32 i, .string st, .slice ao m cap] 27
    have c0 := hB6.cell 0
    have c7 := hB6.cell 7
    simp only [List.getElem?_toArray, List.getElem?_cons_zero, List.getElem?_cons_succ] at c0 c7
    have d0 := fun n' : NilW (w.alloc (.cells #[.int .i64 op, .int .i64 f, .int .i64 n, .string nm, ov, .int .i32 i, .string st, .slice ao m cap] 27)) => n'.cell c0
    have d7 := fun n' : NilW (w.alloc (.cells #[.int .i64 op, .int .i64 f, .int .i64 n, .string nm, ov, .int .i32 i, .string st, .slice ao m cap] 27)) => n'.cell c7
    clear hB6 c0 c7
    refine wp_region_nilq (by kernel_rfl) (by kernel_rfl) ?_
    repeat (quiet_step (first | (go_at_call 116; exact Calls.nilq_same (CA _)) | (go_at_call 115; exact Calls.nilq_of (HC.out _ (HW.out _ _)))))
    refine wpQuiet_nil ?_
    intro w3 h3
    obtain ⟨n3, e3⟩ := h3
    have h3 := n3.only
    rw [← e3] at h3
    clear e3 n3
    have HO3 : Hid (Only Nil w w3) := Lib.hid (Nil.trans (alloc_nil _ _) h3)
    clear h3 HC CA d0 d7
    go_wp2_with fail
    go_ret
    exact ⟨rfl, HO3.out⟩
end Go.Proofs.Ytgicibblkmeoeaa
