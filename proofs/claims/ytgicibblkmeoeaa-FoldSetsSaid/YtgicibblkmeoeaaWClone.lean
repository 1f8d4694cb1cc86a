/- An expression in new memory: the program's clone. -/
import Derived.Test.YtgicibblkmeoeaaProg
import Derived.Test.YtgicibblkmeoeaaWCloneT
set_option linter.unusedSimpArgs false
set_option linter.unusedVariables false
namespace Go.Proofs.Ytgicibblkmeoeaa
open Go.RowKit M

/-- What clone leaves: the same expression, all in new memory. -/
def ClonePost (w : World) (e0 : Ex) (e : Ending) (w' : World) : Prop :=
  ∃ ov' xv', e = .returned (.agg #[.int .i64 e0.op, .int .i64 e0.t.form, .int .i64 e0.t.n, .string e0.t.name, ov', .int .i32 e0.i, .string e0.s, xv']) ∧ TyS (New w.heap.size w'.heap.size) w' ov' e0.t.of ∧ ExS (New w.heap.size w'.heap.size) w' xv' e0.x ∧ Only Nil w w'
set_option maxRecDepth 10000 in
set_option maxHeartbeats 3200000 in
theorem clone_any {U : Nat → Prop} {w0 : World} {va : Value} {la : List Ex} (ha : ExS U w0 va la) : ∀ (e0 : Ex) (ov0 : Value) (w : World), e0.x = la → TyS U w0 ov0 e0.t.of → Only Nil w0 w →
    Calls Try.prog 58 #[.agg #[.int .i64 e0.op, .int .i64 e0.t.form, .int .i64 e0.t.n, .string e0.t.name, ov0, .int .i32 e0.i, .string e0.s, va]] w (ClonePost w e0) := by
  obtain ⟨i0, z0, hi, hz0, hz1, hz2, hz3⟩ := infoEx_parts
  induction ha with
  | mk la ao cap off b ovs xvs h0 h1 hb hn hs hc ht hr ih =>
    intro e0 ov0 w hx hT0 hw
    obtain ⟨op, ⟨f, n, s, of⟩, i, st, x⟩ := e0
    simp only [Ex.op, Ex.t, Ex.i, Ex.s, Ex.x, Ty.form, Ty.n, Ty.name, Ty.of] at hx hT0 ⊢
    subst hx
    obtain ⟨na, hna⟩ : ∃ y, x.length = y := ⟨_, rfl⟩
    rw [hna] at h0 hn ⊢
    obtain ⟨ao0, cap0, e0⟩ := hT0.slice
    obtain ⟨m0, hm0⟩ : ∃ y, of.length = y := ⟨_, rfl⟩
    rw [hm0] at e0
    subst e0
    have HW := Lib.hid hw
    have H0 := Lib.hid h0
    have HA := Lib.hid hna
    have HN := Lib.hid hn
    have HS := Lib.hid hs
    have HT0 := Lib.hid hT0
    clear hw h0 h1 hb hna hn hs hT0 hm0
    go_enter Try.func58, Try.ntmps58
    go_wp2_with fail
    go_loopg [3, 9] na (fun g v j wr => ∃ (k : Nat) (vv : Value), j = .int .i64 (k : Int) ∧ v = vv ∧ k ≤ na ∧ g = na - k ∧ Only Nil w wr ∧ ExRow (w.heap.size + 2) wr vv (x.take k) ∧
      Blk wr w.heap.size #[.int .i64 op, .int .i64 f, .int .i64 n, .string s, .slice ao0 m0 cap0, .int .i32 i, .string st, .slice ao na cap] 27 ∧ (∃ c0 c1 c2 c3 c4 c5 c6 c7, Blk wr (w.heap.size + 1) #[c0, c1, c2, c3, c4, c5, c6, c7] 27))
    case atStart =>
      have h := Blk.new (w.alloc (.cells #[.int .i64 op, .int .i64 f, .int .i64 n, .string s, .slice ao0 m0 cap0, .int .i32 i, .string st, .slice ao na cap] 27)) #[.int .i64 0, .int .i64 0, .int .i64 0, .string ⟨#[]⟩, .slice none 0 0, .int .i32 0, .string ⟨#[]⟩, .slice none 0 0] 27
      rw [show (w.alloc (.cells #[.int .i64 op, .int .i64 f, .int .i64 n, .string s, .slice ao0 m0 cap0, .int .i32 i, .string st, .slice ao na cap] 27)).heap.size = w.heap.size + 1 by simp] at h
      exact ⟨0, _, rfl, rfl, Nat.zero_le _, rfl, ((Only.refl Nil w).alloc _).alloc _, ExRow.nil _ _, (Blk.new w _ _).alloc _, _, _, _, _, _, _, _, _, h⟩
    case round =>
      obtain ⟨k, vv, rfl, rfl, hk, hg, ho, hrow, hB1, c0, c1, c2, c3, c4, c5, c6, c7, hB2⟩ := hrel
      have HG := Lib.hid hg
      have HO := Lib.hid ho
      have HB1 := Lib.hid hB1
      have HB2 := Lib.hid hB2
      clear hg ho hB1 hB2
      have k0 : (0 : Int) ≤ (k : Int) := Int.natCast_nonneg _
      by_cases hkn : k < na
      · have k1 : (k : Int) < (na : Int) := by omega
        obtain ⟨xs, ovs2, xvs2, hown, hnm, hm⟩ := hrow
        have hlk : (x.take k).length = k := by rw [List.length_take, HA.out]; omega
        rw [hlk] at hown
        have HOWN := Lib.hid hown
        have HM := Lib.hid hm
        have HNM := Lib.hid hnm
        have HLK := Lib.hid hlk
        clear hown hm hnm hlk
        obtain ⟨t, htk⟩ : ∃ t, x[k]? = some t := ⟨_, List.getElem?_eq_getElem (by rw [HA.out]; exact hkn)⟩
        have e1 := H0.out (by omega)
        subst e1
        have hO : Only Nil w0 wr := Nil.trans HW.out HO.out
        have HO0 := Lib.hid hO
        have a1 := (hc k t htk).kept hO (fun _ h => h)
        unfold exCells at a1
        have b0 := a1.get0
        have b1 := a1.get 1 rfl
        have b2 := a1.get 2 rfl
        have b3 := a1.get 3 rfl
        have b4 := a1.get 4 rfl
        have b5 := a1.get 5 rfl
        have b6 := a1.get 6 rfl
        have b7 := a1.get 7 rfl
        have C := fun w' (h : Only Nil w0 w') => ih k t htk t (ovs k) w' rfl (ht k t htk) h
        obtain ⟨ao3, cap3, e3⟩ := (ht k t htk).slice
        obtain ⟨ao9, cap9, e9⟩ := (hr k t htk).slice
        rw [e3] at b4 C
        rw [e9] at b7 C
        obtain ⟨m3, hm3⟩ : ∃ x, t.t.of.length = x := ⟨_, rfl⟩
        rw [hm3] at b4 C
        obtain ⟨m9, hm9⟩ : ∃ x, t.x.length = x := ⟨_, rfl⟩
        rw [hm9] at b7 C
        have HC := Lib.hid C
        have HT := Lib.hid htk
        clear a1 ih hr hc ht htk C hk k0 e3 hm3 e9 hm9 hO
        go_wp2_with fail
        refine (HC.out _ (HO0.out.alloc _)).mono ?_
        rintro e w3 ⟨ov', xv', rfl, hT, hX, ho3⟩
        obtain ⟨ao4, cap4, e4⟩ := hT.slice
        obtain ⟨m4, hm4⟩ : ∃ x, t.t.of.length = x := ⟨_, rfl⟩
        rw [hm4] at e4
        subst e4
        obtain ⟨ao6, cap6, e6⟩ := hX.slice
        obtain ⟨m6, hm6⟩ : ∃ x, t.x.length = x := ⟨_, rfl⟩
        rw [hm6] at e6
        subst e6
        have h3 : Only Nil wr w3 := Nil.trans ((Only.refl Nil wr).alloc _) ho3
        have HT3 : Hid (TyS (New wr.heap.size w3.heap.size) w3 (.slice ao4 m4 cap4) t.t.of) := Lib.hid (hT.mono (fun q hq => ⟨by have := hq.1; simp at this; omega, hq.2⟩))
        have HX3 : Hid (ExS (New wr.heap.size w3.heap.size) w3 (.slice ao6 m6 cap6) t.x) := Lib.hid (hX.mono (fun q hq => ⟨by have := hq.1; simp at this; omega, hq.2⟩))
        have H3 := Lib.hid h3
        have HOWN3 := Lib.hid (ownsRow_only HOWN.out h3 (fun _ _ h => h))
        clear hT hX ho3 h3 HC b0 b1 b2 b3 b4 b5 b6 b7 hm4 hm6
        have hsz : w.heap.size + 2 ≤ w3.heap.size := by
          have e1 := H3.out.size
          have e2 := HB2.out.lt
          omega
        have h48 : (k + 1) * 112 ≤ 140737488355328 := by
          have := HN.out
          omega
        have h63 : k + 1 ≤ maxLen := by unfold maxLen; have := HN.out; omega
        have HSZ := Lib.hid hsz
        have H48 := Lib.hid h48
        have H63 := Lib.hid h63
        clear hsz h48 h63
        go_wp2_with (with_reducible refine wpList_append_cells rfl _ _ 25 rfl (w.heap.size + 2) 27 i0 z0 8 112 Try.underlying25 hi hz0 hz1 hz2 hz3 (by decide) _ _ _ rfl HOWN3.out #[.int .i64 t.op, .int .i64 t.t.form, .int .i64 t.t.n, .string t.t.name, .slice ao4 m4 cap4, .int .i32 t.i, .string t.s, .slice ao6 m6 cap6] rfl (by simp [Value.oneCell']) _ rfl rfl H63.out H48.out HSZ.out ?_)
        intro g cap5 w5 hown5 hc1 hc2 hg5 ho5
        have hne : ∀ q, q < w.heap.size + 2 → ¬ Own u3.ownBlock q := fun q hq h => by have := (HOWN3.out.lt _ h.symm).1; omega
        have HROW : Hid (ExRow (w.heap.size + 2) w5 (.slice (some ⟨g, 0, none⟩) (k + 1) cap5) (x.take k ++ [t])) :=
          Lib.hid (ExRow.push HLK.out HOWN.out HNM.out HM.out H3.out (by have := HB2.out.lt; omega) HT3.out HX3.out hown5 ⟨g, rfl, hg5.imp Eq.symm id⟩ ho5 (HS.out t (List.mem_of_getElem? HT.out)))
        have HB15 := Lib.hid ((HB1.out.kept H3.out (fun h => h)).kept ho5 (hne _ (by omega)))
        have HB25 := Lib.hid ((HB2.out.kept H3.out (fun h => h)).kept ho5 (hne _ (by omega)))
        have HO5 : Hid (Only Nil w w5) := Lib.hid ((Nil.trans HO.out H3.out).trans ho5 (fun q hq h => hne q (by omega) h))
        clear hown5 hg5 ho5 hne hc1 hc2 HOWN HOWN3 HM
        go_wp2_with fail
        go_roundg (na - (k + 1))
        case measure => have := HG.out; omega
        case rel =>
          refine ⟨k + 1, _, next_int hkn HN.out (by decide), rfl, by omega, rfl, HO5.out, ?_, HB15.out, _, _, _, _, _, _, _, _, HB25.out⟩
          rw [List.take_add_one, HT.out]
          exact HROW.out
      · have hkn' : k = na := by omega
        subst hkn'
        have k1 : (k : Int) ≤ (k : Int) := Int.le_refl _
        rw [List.take_of_length_le (by rw [HA.out]; exact Nat.le_refl _)] at hrow
        have hT := hrow.exS (by rw [HA.out]; exact HN.out)
        obtain ⟨ao5, cap5, e5⟩ := hT.slice
        rw [HA.out] at e5
        subst e5
        have HT := Lib.hid hT
        have p1 := HB1.out.cell 0
        have p2 := HB1.out.cell 1
        have p3 := HB1.out.cell 2
        have p4 := HB1.out.cell 3
        have p5 := HB1.out.cell 4
        have p6 := HB1.out.cell 5
        have p7 := HB1.out.cell 6
        have p8 := HB1.out.cell 7
        simp only [List.getElem?_toArray, List.getElem?_cons_zero, List.getElem?_cons_succ] at p1 p2 p3 p4 p5 p6 p7 p8
        have HC := Lib.hid (cloneType_any HT0.out f n s wr (Nil.trans HW.out HO.out))
        clear ih hr hc hrow hT ht
        go_wp2_with fail
        refine HC.out.mono ?_
        rintro e w3 ⟨ov', rfl, hT, ho3⟩
        obtain ⟨ao4, cap4, e4⟩ := hT.slice
        obtain ⟨m4, hm4⟩ : ∃ x, of.length = x := ⟨_, rfl⟩
        rw [hm4] at e4
        subst e4
        have hB1 := HB1.out.kept ho3 (fun h => h)
        have hB2 := HB2.out.kept ho3 (fun h => h)
        have q1 := hB1.cell 0
        have q2 := hB1.cell 1
        have q3 := hB1.cell 2
        have q4 := hB1.cell 3
        have q5 := hB1.cell 4
        have q6 := hB1.cell 5
        have q7 := hB1.cell 6
        have q8 := hB1.cell 7
        have f1 := hB1.free 1
        have f2 := hB1.free 2
        have f3 := hB1.free 3
        have f4 := hB1.free 4
        have f7 := hB1.free 7
        have r0 := hB2.cell 0
        have r1 := hB2.cell 1
        have r2 := hB2.cell 2
        have r3 := hB2.cell 3
        have r4 := hB2.cell 4
        have r5 := hB2.cell 5
        have r6 := hB2.cell 6
        have r7 := hB2.cell 7
        have g0 := hB2.free 0
        have g1 := hB2.free 1
        have g2 := hB2.free 2
        have g3 := hB2.free 3
        have g4 := hB2.free 4
        have g5 := hB2.free 5
        have g6 := hB2.free 6
        have g7 := hB2.free 7
        simp only [List.getElem?_toArray, List.getElem?_cons_zero, List.getElem?_cons_succ] at q1 q2 q3 q4 q5 q6 q7 q8 r0 r1 r2 r3 r4 r5 r6 r7
        have HB1' := Lib.hid hB1
        have HB2' := Lib.hid hB2
        have HO3 := Lib.hid ho3
        have HT4 := Lib.hid hT
        clear hB1 hB2 ho3 hT p1 p2 p3 p4 p5 p6 p7 p8 HC hm4
        go_wp2_with fail
        have hB8 := (((((((((((((HB2'.out.setOther ⟨w.heap.size, 1, none⟩ (.int .i64 f) (Nat.succ_ne_self _)).setOther ⟨w.heap.size, 2, none⟩ (.int .i64 n) (Nat.succ_ne_self _)).setOther ⟨w.heap.size, 3, none⟩ (.string s) (Nat.succ_ne_self _)).setOther ⟨w.heap.size, 4, none⟩ (.slice ao4 m4 cap4) (Nat.succ_ne_self _)).setOther ⟨w.heap.size, 7, none⟩ (.slice ao5 k cap5) (Nat.succ_ne_self _)).setCell 0 (.int .i64 op)).setCell 1 (.int .i64 f)).setCell 2 (.int .i64 n)).setCell 3 (.string s)).setCell 4 (.slice ao4 m4 cap4)).setCell 5 (.int .i32 i)).setCell 6 (.string st)).setCell 7 (.slice ao5 k cap5))
        simp only [List.setIfInBounds_toArray, List.set_cons_zero, List.set_cons_succ] at hB8
        refine bodyPost_ret (results_cell_row rfl _ _ (w.heap.size + 1) 27 _ (0, 0) _ rfl hB8 Try.underlying27 rfl (by kernel_rfl)) rfl ?_
        have hlo : w.heap.size + 2 ≤ wr.heap.size := by have := HB2.out.lt; omega
        have hlo3 := HO3.out.size
        have hW := ((((((((((((((Only.refl (Two w.heap.size) w3).setCell (p := ⟨w.heap.size, 1, none⟩) (fun _ => Or.inl rfl) (.int .i64 f)).setCell (p := ⟨w.heap.size, 2, none⟩) (fun _ => Or.inl rfl) (.int .i64 n)).setCell (p := ⟨w.heap.size, 3, none⟩) (fun _ => Or.inl rfl) (.string s)).setCell (p := ⟨w.heap.size, 4, none⟩) (fun _ => Or.inl rfl) (.slice ao4 m4 cap4)).setCell (p := ⟨w.heap.size, 7, none⟩) (fun _ => Or.inl rfl) (.slice ao5 k cap5)).setCell (p := ⟨w.heap.size + 1, 0, none⟩) (fun _ => Or.inr rfl) (.int .i64 op)).setCell (p := ⟨w.heap.size + 1, 1, none⟩) (fun _ => Or.inr rfl) (.int .i64 f)).setCell (p := ⟨w.heap.size + 1, 2, none⟩) (fun _ => Or.inr rfl) (.int .i64 n)).setCell (p := ⟨w.heap.size + 1, 3, none⟩) (fun _ => Or.inr rfl) (.string s)).setCell (p := ⟨w.heap.size + 1, 4, none⟩) (fun _ => Or.inr rfl) (.slice ao4 m4 cap4)).setCell (p := ⟨w.heap.size + 1, 5, none⟩) (fun _ => Or.inr rfl) (.int .i32 i)).setCell (p := ⟨w.heap.size + 1, 6, none⟩) (fun _ => Or.inr rfl) (.string st)).setCell (p := ⟨w.heap.size + 1, 7, none⟩) (fun _ => Or.inr rfl) (.slice ao5 k cap5))
        have hz := hW.size
        refine ⟨_, _, rfl, (HT4.out.kept hW (fun q hq h => ?_)).mono (fun q hq => ⟨by have := hq.1; omega, Nat.lt_of_lt_of_le hq.2 hz⟩), ((HT.out.go HO3.out).kept hW (fun q hq h => ?_)).mono (fun q hq => ⟨by have := hq.1; omega, Nat.lt_of_lt_of_le hq.2 (Nat.le_trans hlo3 hz)⟩), (Nil.trans HO.out HO3.out).trans hW (fun q hq h => ?_)⟩
        · have := hq.1
          rcases h with h | h <;> omega
        · have := hq.1
          rcases h with h | h <;> omega
        · rcases h with h | h <;> omega
end Go.Proofs.Ytgicibblkmeoeaa
