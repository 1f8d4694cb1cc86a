/- Two types: are they the same? The program's Same. -/
import Derived.Test.YtcbeibhmjokecaaDoorProg
import Derived.Test.YtcbeibhmjokecaaDoorYSameM
import Derived.Test.YtcbeibhmjokecaaDoorQSame
set_option linter.unusedSimpArgs false
set_option linter.unusedVariables false
namespace Go.Proofs.YtcbeibhmjokecaaDoor
open Go.RowKit M

theorem alloc0 (w : World) (o : Obj) : Only Nil w (w.alloc o) := (Only.refl Nil w).alloc o
set_option maxRecDepth 10000 in
set_option maxHeartbeats 1600000 in
theorem sameListP_any {V : Nat → Prop} {w0 : World} (la : List Ty) (ao : Option Addr) (cap off b na : Nat) (ovs : Nat → Value) (hna : la.length = na) (h0 : 0 < na → ao = some ⟨b, off, none⟩) (hn : na * 56 ≤ 140737488355328)
    (hc : ∀ i t, la[i]? = some t → At w0 b (off + i * 4) (tyCells t (ovs i)))
    (ih : ∀ i t, la[i]? = some t → ∀ (t2 : Ty) (ov2 : Value), TyS V w0 ov2 t2.of → ∀ w, Only Nil w0 w → Calls Tryd.prog 28 #[.agg #[.int .i64 t.form, .int .i64 t.n, .string t.name, ovs i], .agg #[.int .i64 t2.form, .int .i64 t2.n, .string t2.name, ov2]] w fun e w' => e = .returned (.bool (sameB t t2)) ∧ Only Nil w w')
    (vb : Value) (lb : List Ty) (hB : TyS V w0 vb lb) (w : World) (hw : Only Nil w0 w) :
    Calls Tryd.prog 45 #[.slice ao na cap, vb] w fun e w' => e = .returned (.bool (sameL la lb)) ∧ Only Nil w w' := by
  obtain ⟨lb, ao2, cap2, off2, b2, ovs2, q0, q1, qb, qn, qs, qc, qr⟩ := hB
  obtain ⟨nb, hnb⟩ : ∃ x, lb.length = x := ⟨_, rfl⟩
  rw [hnb] at q0 qn ⊢
  have HW := Lib.hid hw
  clear hw q1 qb qs
  obtain ⟨RB, hRB⟩ : ∃ r, sameL la lb = r := ⟨_, rfl⟩
  rw [hRB]
  by_cases e1 : na = nb
  · subst e1
    have H0 := Lib.hid h0
    have Q0 := Lib.hid q0
    have HA := Lib.hid hna
    have HB := Lib.hid hnb
    have HN := Lib.hid hn
    have HRB := Lib.hid hRB
    clear h0 q0 hna hnb hn qn hRB
    go_enter Tryd.func45, Tryd.ntmps45
    go_wp2_with fail
    go_loopg [13] na (fun g i wr => ∃ k : Nat, i = .int .i64 (k : Int) ∧ k ≤ na ∧ g = na - k ∧ Only Nil w wr ∧ SameUp k la lb)
    case atStart => exact ⟨0, rfl, Nat.zero_le _, rfl, Only.refl Nil w, SameUp.zero _ _⟩
    case round =>
      obtain ⟨k, rfl, hk, hg, ho, hsame⟩ := hrel
      have HG := Lib.hid hg
      have HO := Lib.hid ho
      have HS := Lib.hid hsame
      clear hg ho hsame
      have k0 : (0 : Int) ≤ (k : Int) := Int.natCast_nonneg _
      by_cases hkn : k < na
      · have k1 : (k : Int) < (na : Int) := by omega
        obtain ⟨t, ht⟩ : ∃ t, la[k]? = some t := ⟨_, List.getElem?_eq_getElem (by rw [HA.out]; exact hkn)⟩
        obtain ⟨t2, ht2⟩ : ∃ t, lb[k]? = some t := ⟨_, List.getElem?_eq_getElem (by rw [HB.out]; exact hkn)⟩
        have e1 := H0.out (by omega)
        have e2 := Q0.out (by omega)
        subst e1 e2
        have hO : Only Nil w0 wr := Nil.trans HW.out HO.out
        have a1 := (hc k t ht).kept hO (fun _ h => h)
        have a2 := (qc k t2 ht2).kept hO (fun _ h => h)
        unfold tyCells at a1 a2
        have b0 := fun n : NilW wr => n.cell a1.get0
        have b1 := fun n : NilW wr => n.cell (a1.get 1 rfl)
        have b2 := fun n : NilW wr => n.cell (a1.get 2 rfl)
        have b3 := fun n : NilW wr => n.cell (a1.get 3 rfl)
        have c0 := fun n : NilW wr => n.cell a2.get0
        have c1 := fun n : NilW wr => n.cell (a2.get 1 rfl)
        have c2 := fun n : NilW wr => n.cell (a2.get 2 rfl)
        have c3 := fun n : NilW wr => n.cell (a2.get 3 rfl)
        have C := fun n : NilW wr => ih k t ht t2 (ovs2 k) (qr k t2 ht2) n.at (Nil.trans hO n.only)
        have HT := Lib.hid ht
        have HT2 := Lib.hid ht2
        clear a1 a2 ih qr hc qc ht ht2
        obtain ⟨r, hr⟩ : ∃ r, sameB t t2 = r := ⟨_, rfl⟩
        rw [hr] at C
        go_wp2_with fail
        refine wp_region_nilq (by kernel_rfl) (by kernel_rfl) ?_
        repeat (quiet_step ((go_at_call 28; exact Calls.nilq_of (C _))))
        refine wpQuiet_nil ?_
        intro w3 h3
        obtain ⟨n3, e3⟩ := h3
        have h3 := n3.only
        rw [← e3] at h3
        clear e3 n3
        have HO3 := Lib.hid (Nil.trans HO.out h3)
        clear b0 b1 b2 b3 c0 c1 c2 c3 C h3
        cases r
        · have E : Hid (RB = false) := Lib.hid (by rw [← HRB.out]; exact sameL_no HT.out HT2.out hr)
          go_wp2_with fail
          go_ret
          exact ⟨retB E.out, HO3.out⟩
        · have HS2 := Lib.hid (HS.out.next HT.out HT2.out hr)
          clear hr
          go_wp2_with fail
          go_roundg (na - (k + 1))
          case measure => have := HG.out; omega
          case rel => exact ⟨k + 1, next_int hkn HN.out (by decide), by omega, rfl, HO3.out, HS2.out⟩
      · have hkn' : k = na := by omega
        subst hkn'
        have k1 : (k : Int) ≤ (k : Int) := Int.le_refl _
        have E : Hid (RB = true) := Lib.hid (by rw [← HRB.out]; exact SameUp.all (by rw [HA.out]; exact HS.out) (HA.out.trans HB.out.symm))
        clear ih qr hc qc
        go_wp2_with fail
        go_ret
        exact ⟨retB E.out, HO.out⟩
  · have e2 : ((na : Int) != (nb : Int)) = true := bne_of (fun h => e1 (Int.ofNat_inj.1 h))
    rw [sameL_ne (by rw [hna, hnb]; exact e1)] at hRB
    subst hRB
    clear ih qr hc qc e1 h0 q0 hna hnb hn qn
    go_enter Tryd.func45, Tryd.ntmps45
    go_wp2
    go_ret
    exact ⟨rfl, Only.refl _ _⟩
set_option maxRecDepth 10000 in
set_option maxHeartbeats 1600000 in
theorem sameP_any {U V : Nat → Prop} {w0 : World} {va : Value} {la : List Ty} (ha : TyS U w0 va la) : ∀ (vb : Value) (lb : List Ty) (f n f2 n2 : Int) (s s2 : ByteArray) (w : World), TyS V w0 vb lb → Only Nil w0 w →
    Calls Tryd.prog 28 #[.agg #[.int .i64 f, .int .i64 n, .string s, va], .agg #[.int .i64 f2, .int .i64 n2, .string s2, vb]] w fun e w' => e = .returned (.bool (sameB (Ty.mk f n s la) (Ty.mk f2 n2 s2 lb))) ∧ Only Nil w w' := by
  induction ha with
  | mk la ao cap off b ovs h0 h1 hb hn hs hc hr ih =>
    intro vb lb f n f2 n2 s s2 w hB hw
    have HL := Lib.hid (fun w' (h' : Only Nil w0 w') => sameListP_any (V := V) la ao cap off b la.length ovs rfl h0 hn hc (fun i t hi t2 ov2 h2 w' hw' => by
      have := ih i t hi ov2 t2.of t.form t.n t2.form t2.n t.name t2.name w' h2 hw'
      rwa [Ty.eta, Ty.eta] at this) vb lb hB w' h')
    obtain ⟨ao2, cap2, e⟩ := hB.slice
    subst e
    obtain ⟨na, hna⟩ : ∃ x, la.length = x := ⟨_, rfl⟩
    obtain ⟨nb, hnb⟩ : ∃ x, lb.length = x := ⟨_, rfl⟩
    rw [hna, hnb] at HL ⊢
    obtain ⟨c, hcc⟩ : ∃ c, sameL la lb = c := ⟨_, rfl⟩
    rw [hcc] at HL
    have HW := Lib.hid hw
    obtain ⟨RB, hRB⟩ : ∃ r, sameB (Ty.mk f n s la) (Ty.mk f2 n2 s2 lb) = r := ⟨_, rfl⟩
    rw [hRB]
    unfold sameB at hRB
    rw [hcc] at hRB
    clear ih hr hc h0 h1 hb hn hs hB hw hna hnb hcc
    by_cases e1 : f = f2
    · subst e1
      by_cases e7 : f = 7
      · subst e7
        simp only [beq_self_eq_true, Bool.true_and, if_true] at hRB
        by_cases en : n = n2
        · subst en
          simp only [beq_self_eq_true, Bool.true_and] at hRB
          subst hRB
          go_enter Tryd.func28, Tryd.ntmps28
          go_wp2_with fail
          refine (HL.out _ ((HW.out.alloc _).alloc _)).mono ?_
          rintro e w3 ⟨rfl, ho3⟩
          have HO3 : Hid (Only Nil w w3) := Lib.hid (Nil.trans ((alloc0 w _).alloc _) ho3)
          clear ho3 HL
          go_wp2_with fail
          go_ret
          exact ⟨rfl, HO3.out⟩
        · have e3 : (n == n2) = false := by simpa using en
          rw [e3, Bool.false_and] at hRB
          subst hRB
          clear HL en
          go_enter Tryd.func28, Tryd.ntmps28
          go_wp2
          go_ret
          exact ⟨rfl, ((Only.refl Nil w).alloc _).alloc _⟩
      · have q7 : (f == 7) = false := by simpa using e7
        rw [if_neg e7] at hRB
        simp only [beq_self_eq_true, Bool.true_and] at hRB
        by_cases e89 : f = 8 ∨ f = 9
        · rw [if_pos e89] at hRB
          obtain ⟨c, hcc⟩ : ∃ c, (s.toList == s2.toList) = c := ⟨_, rfl⟩
          rw [hcc] at hRB
          rcases e89 with rfl | rfl
          · subst hRB
            clear HL e7 q7
            go_enter Tryd.func28, Tryd.ntmps28
            go_wp2
            go_ret
            exact ⟨rfl, ((Only.refl Nil w).alloc _).alloc _⟩
          · subst hRB
            clear HL e7 q7
            go_enter Tryd.func28, Tryd.ntmps28
            go_wp2
            go_ret
            exact ⟨rfl, ((Only.refl Nil w).alloc _).alloc _⟩
        · rw [if_neg e89] at hRB
          have q8 : (f == 8) = false := by simp; omega
          have q9 : (f == 9) = false := by simp; omega
          subst hRB
          clear HL e7 e89
          go_enter Tryd.func28, Tryd.ntmps28
          go_wp2
          go_ret
          exact ⟨rfl, ((Only.refl Nil w).alloc _).alloc _⟩
    · have e2 := bne_of e1
      have e3 : (f == f2) = false := by simpa using e1
      rw [e3, Bool.false_and] at hRB
      subst hRB
      clear HL e1 e3
      go_enter Tryd.func28, Tryd.ntmps28
      go_wp2
      go_ret
      exact ⟨rfl, ((Only.refl Nil w).alloc _).alloc _⟩
end Go.Proofs.YtcbeibhmjokecaaDoor
