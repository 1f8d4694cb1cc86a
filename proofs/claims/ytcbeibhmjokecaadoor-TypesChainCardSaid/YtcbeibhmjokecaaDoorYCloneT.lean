/- A type in new memory: the program's clone. -/
import Derived.Test.YtcbeibhmjokecaaDoorProg
import Derived.Test.YtcbeibhmjokecaaDoorQClone
set_option linter.unusedSimpArgs false
set_option linter.unusedVariables false
namespace Go.Proofs.YtcbeibhmjokecaaDoor
open Go.RowKit M

def Two (b : Nat) : Nat → Prop := fun k => k = b ∨ k = b + 1
/-- What clone leaves. -/
def CloneTPost (w : World) (f n : Int) (s : ByteArray) (l : List Ty) (e : Ending) (w' : World) : Prop :=
  ∃ ov', e = .returned (.agg #[.int .i64 f, .int .i64 n, .string s, ov']) ∧ TyS (New w.heap.size w'.heap.size) w' ov' l ∧ Only Nil w w'
set_option maxRecDepth 10000 in
set_option maxHeartbeats 1600000 in
theorem cloneType_any {U : Nat → Prop} {w0 : World} {va : Value} {la : List Ty} (ha : TyS U w0 va la) : ∀ (f n : Int) (s : ByteArray) (w : World), Only Nil w0 w →
    Calls Tryd.prog 30 #[.agg #[.int .i64 f, .int .i64 n, .string s, va]] w (CloneTPost w f n s la) := by
  obtain ⟨i0, z0, hi, hz0, hz1, hz2, hz3⟩ := infoTy_parts
  induction ha with
  | mk la ao cap off b ovs h0 h1 hb hn hs hc hr ih =>
    intro f n s w hw
    obtain ⟨na, hna⟩ : ∃ x, la.length = x := ⟨_, rfl⟩
    rw [hna] at h0 hn ⊢
    have HW := Lib.hid hw
    have H0 := Lib.hid h0
    have HA := Lib.hid hna
    have HN := Lib.hid hn
    have HS := Lib.hid hs
    clear hw h0 h1 hb hna hn hs
    obtain ⟨kb, hkb⟩ : ∃ x, w.heap.size = x := ⟨_, rfl⟩
    have HKB := Lib.hid hkb
    clear hkb
    go_enter Tryd.func30, Tryd.ntmps30
    go_wp2_with fail
    go_loopg [3, 9] na (fun g v i wr => ∃ (k : Nat) (vv : Value), i = .int .i64 (k : Int) ∧ v = vv ∧ k ≤ na ∧ g = na - k ∧ Only Nil w wr ∧ TyRow (w.heap.size + 2) wr vv (la.take k) ∧
      Blk wr w.heap.size #[.int .i64 f, .int .i64 n, .string s, .slice ao na cap] 25 ∧ (∃ c0 c1 c2 c3, Blk wr (w.heap.size + 1) #[c0, c1, c2, c3] 25))
    case atStart =>
      have h := Blk.new (w.alloc (.cells #[.int .i64 f, .int .i64 n, .string s, .slice ao na cap] 25)) #[.int .i64 0, .int .i64 0, .string ⟨#[]⟩, .slice none 0 0] 25
      rw [show (w.alloc (.cells #[.int .i64 f, .int .i64 n, .string s, .slice ao na cap] 25)).heap.size = w.heap.size + 1 by simp] at h
      exact ⟨0, _, rfl, rfl, Nat.zero_le _, rfl, ((Only.refl Nil w).alloc _).alloc _, TyRow.nil _ _, (Blk.new w _ _).alloc _, _, _, _, _, h⟩
    case round =>
      obtain ⟨k, vv, rfl, rfl, hk, hg, ho, hrow, hB1, c0, c1, c2, c3, hB2⟩ := hrel
      have HG := Lib.hid hg
      have HO := Lib.hid ho
      have HB1 := Lib.hid hB1
      have HB2 := Lib.hid hB2
      clear hg ho hB1 hB2
      have k0 : (0 : Int) ≤ (k : Int) := Int.natCast_nonneg _
      by_cases hkn : k < na
      · have k1 : (k : Int) < (na : Int) := by omega
        obtain ⟨xs, ovs2, hown, hnm, hm⟩ := hrow
        have hlk : (la.take k).length = k := by rw [List.length_take, HA.out]; omega
        have HM := Lib.hid hm
        have HNM := Lib.hid hnm
        rw [hlk] at hown
        have HOWN := Lib.hid hown
        have HLK := Lib.hid hlk
        clear hown hm hnm hlk
        obtain ⟨t, ht⟩ : ∃ t, la[k]? = some t := ⟨_, List.getElem?_eq_getElem (by rw [HA.out]; exact hkn)⟩
        have e1 := H0.out (by omega)
        subst e1
        have hO : Only Nil w0 wr := Nil.trans HW.out HO.out
        have HO0 := Lib.hid hO
        have a1 := (hc k t ht).kept hO (fun _ h => h)
        unfold tyCells at a1
        have b0 := a1.get0
        have b1 := a1.get 1 rfl
        have b2 := a1.get 2 rfl
        have b3 := a1.get 3 rfl
        have C := fun w' (h : Only Nil w0 w') => ih k t ht t.form t.n t.name w' h
        obtain ⟨ao3, cap3, e3⟩ := (hr k t ht).slice
        rw [e3] at b3 C
        obtain ⟨m3, hm3⟩ : ∃ x, t.of.length = x := ⟨_, rfl⟩
        rw [hm3] at b3 C
        have HC := Lib.hid C
        have HT := Lib.hid ht
        clear a1 ih hr hc ht C hk k0 e3 hm3 hO
        go_wp2_with fail
        refine (HC.out _ (HO0.out.alloc _)).mono ?_
        rintro e w3 ⟨ov', rfl, hT, ho3⟩
        obtain ⟨ao4, cap4, e4⟩ := hT.slice
        obtain ⟨m4, hm4⟩ : ∃ x, t.of.length = x := ⟨_, rfl⟩
        rw [hm4] at e4
        subst e4
        have h3 : Only Nil wr w3 := Nil.trans ((Only.refl Nil wr).alloc _) ho3
        have HT3 : Hid (TyS (New wr.heap.size w3.heap.size) w3 (.slice ao4 m4 cap4) t.of) := Lib.hid (hT.mono (fun q hq => ⟨by have := hq.1; simp at this; omega, hq.2⟩))
        have H3 := Lib.hid h3
        have HOWN3 := Lib.hid (ownsRow_only HOWN.out h3 (fun _ _ h => h))
        clear hT ho3 h3 HC b0 b1 b2 b3
        have hsz : w.heap.size + 2 ≤ w3.heap.size := by
          have e1 := H3.out.size
          have e2 := HB2.out.lt
          omega
        have h48 : (k + 1) * 56 ≤ 140737488355328 := by
          have := HN.out
          omega
        have h63 : k + 1 ≤ maxLen := by unfold maxLen; have := HN.out; omega
        have HSZ := Lib.hid hsz
        have H48 := Lib.hid h48
        have H63 := Lib.hid h63
        clear hsz h48 h63
        go_wp2_with (with_reducible refine wpList_append_cells rfl _ _ 23 rfl (w.heap.size + 2) 25 i0 z0 4 56 Tryd.underlying23 hi hz0 hz1 hz2 hz3 (by decide) _ _ _ rfl HOWN3.out #[.int .i64 t.form, .int .i64 t.n, .string t.name, .slice ao4 m4 cap4] rfl (by simp [Value.oneCell']) _ rfl rfl H63.out H48.out HSZ.out ?_)
        intro g cap5 w5 hown5 hc1 hc2 hg5 ho5
        have hne : ∀ q, q < w.heap.size + 2 → ¬ Own u3.ownBlock q := fun q hq h => by have := (HOWN3.out.lt _ h.symm).1; omega
        have HROW : Hid (TyRow (w.heap.size + 2) w5 (.slice (some ⟨g, 0, none⟩) (k + 1) cap5) (la.take k ++ [t])) :=
          Lib.hid (TyRow.push HLK.out HOWN.out HNM.out HM.out H3.out (by have := HB2.out.lt; omega) HT3.out hown5 ⟨g, rfl, hg5.imp Eq.symm id⟩ ho5 (HS.out t (List.mem_of_getElem? HT.out)))
        have HB15 := Lib.hid ((HB1.out.kept H3.out (fun h => h)).kept ho5 (hne _ (by omega)))
        have HB25 := Lib.hid ((HB2.out.kept H3.out (fun h => h)).kept ho5 (hne _ (by omega)))
        have HO5 : Hid (Only Nil w w5) := Lib.hid ((Nil.trans HO.out H3.out).trans ho5 (fun q hq h => hne q (by omega) h))
        clear hown5 hg5 ho5 hne hc1 hc2 HOWN HOWN3 HM
        go_wp2_with fail
        go_roundg (na - (k + 1))
        case measure => have := HG.out; omega
        case rel =>
          refine ⟨k + 1, _, next_int hkn HN.out (by decide), rfl, by omega, rfl, HO5.out, ?_, HB15.out, _, _, _, _, HB25.out⟩
          rw [List.take_add_one, HT.out]
          exact HROW.out
      · have hkn' : k = na := by omega
        subst hkn'
        have k1 : (k : Int) ≤ (k : Int) := Int.le_refl _
        rw [List.take_of_length_le (by rw [HA.out]; exact Nat.le_refl _)] at hrow
        have hT := hrow.tyS (by rw [HA.out]; exact HN.out)
        obtain ⟨ao5, cap5, e5⟩ := hT.slice
        rw [HA.out] at e5
        subst e5
        have HT := Lib.hid hT
        have p1 := HB1.out.cell 0
        have p2 := HB1.out.cell 1
        have p3 := HB1.out.cell 2
        have p4 := HB1.out.cell 3
        have p5 := HB1.out.free 3
        have r1 := HB2.out.cell 0
        have r2 := HB2.out.cell 1
        have r3 := HB2.out.cell 2
        have r4 := HB2.out.cell 3
        have r5 := HB2.out.free 0
        have r6 := HB2.out.free 1
        have r7 := HB2.out.free 2
        have r8 := HB2.out.free 3
        simp only [List.getElem?_toArray, List.getElem?_cons_zero, List.getElem?_cons_succ] at p1 p2 p3 p4 r1 r2 r3 r4
        clear ih hr hc hrow hT
        go_wp2_with fail
        have hB8 := ((((HB2.out.setOther ⟨w.heap.size, 3, none⟩ (.slice ao5 k cap5) (Nat.succ_ne_self _)).setCell 0 (.int .i64 f)).setCell 1 (.int .i64 n)).setCell 2 (.string s)).setCell 3 (.slice ao5 k cap5)
        simp only [List.setIfInBounds_toArray, List.set_cons_zero, List.set_cons_succ] at hB8
        refine bodyPost_ret (results_cell_row rfl _ _ (w.heap.size + 1) 25 _ (0, 0) _ rfl hB8 Tryd.underlying25 rfl (by kernel_rfl)) rfl ?_
        have hlo : w.heap.size + 2 ≤ wr.heap.size := by have := HB2.out.lt; omega
        have hW := (((((Only.refl (Two w.heap.size) wr).setCell (p := ⟨w.heap.size, 3, none⟩) (fun _ => Or.inl rfl) (.slice ao5 k cap5)).setCell (p := ⟨w.heap.size + 1, 0, none⟩) (fun _ => Or.inr rfl) (.int .i64 f)).setCell (p := ⟨w.heap.size + 1, 1, none⟩) (fun _ => Or.inr rfl) (.int .i64 n)).setCell (p := ⟨w.heap.size + 1, 2, none⟩) (fun _ => Or.inr rfl) (.string s)).setCell (p := ⟨w.heap.size + 1, 3, none⟩) (fun _ => Or.inr rfl) (.slice ao5 k cap5)
        refine ⟨_, rfl, (HT.out.kept hW (fun q hq h => ?_)).mono (fun q hq => ⟨by have := hq.1; omega, by simp; exact hq.2⟩), HO.out.trans hW (fun q hq h => ?_)⟩
        · have := hq.1
          rcases h with h | h <;> omega
        · rcases h with h | h <;> omega
end Go.Proofs.YtcbeibhmjokecaaDoor
