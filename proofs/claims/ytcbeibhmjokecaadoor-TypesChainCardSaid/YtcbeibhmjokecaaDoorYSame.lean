/- Two types: are they the same? The document's Same. -/
import Derived.Test.YtcbeibhmjokecaaDoorProg
import Derived.Test.YtcbeibhmjokecaaDoorYSameM
import Derived.Test.YtcbeibhmjokecaaDoorQSame
set_option linter.unusedSimpArgs false
set_option linter.unusedVariables false
namespace Go.Proofs.YtcbeibhmjokecaaDoor
open Go.RowKit M

set_option maxRecDepth 10000 in
set_option maxHeartbeats 1600000 in
theorem sameR_any {U V : Nat → Prop} {w0 : World} {va : Value} {la : List Ty} (ha : TyS U w0 va la) : ∀ (vb : Value) (lb : List Ty) (f n f2 n2 : Int) (s s2 : ByteArray) (w : World), TyS V w0 vb lb → Only Nil w0 w →
    Calls Tryd.prog 35 #[.agg #[.int .i64 f, .int .i64 n, .string s, va], .agg #[.int .i64 f2, .int .i64 n2, .string s2, vb]] w fun e w' => e = .returned (.bool (sameB (Ty.mk f n s la) (Ty.mk f2 n2 s2 lb))) ∧ Only Nil w w' := by
  induction ha with
  | mk la ao cap off b ovs h0 h1 hb hn hs hc hr ih =>
    intro vb lb f n f2 n2 s s2 w hB hw
    obtain ⟨lb, ao2, cap2, off2, b2, ovs2, q0, q1, qb, qn, qs, qc, qr⟩ := hB
    obtain ⟨na, hna⟩ : ∃ x, la.length = x := ⟨_, rfl⟩
    obtain ⟨nb, hnb⟩ : ∃ x, lb.length = x := ⟨_, rfl⟩
    rw [hna] at h0 hn ⊢
    rw [hnb] at q0 qn ⊢
    have HW := Lib.hid hw
    clear hw h1 hb hs q1 qb qs
    obtain ⟨RB, hRB⟩ : ∃ r, sameB (Ty.mk f n s la) (Ty.mk f2 n2 s2 lb) = r := ⟨_, rfl⟩
    rw [hRB]
    unfold sameB at hRB
    by_cases e1 : f = f2
    · subst e1
      by_cases e7 : f = 7
      · subst e7
        simp only [beq_self_eq_true, Bool.true_and, if_true] at hRB
        by_cases en : n = n2
        · subst en
          simp only [beq_self_eq_true, Bool.true_and] at hRB
          by_cases e1 : na = nb
          · subst e1
            have H0 := Lib.hid h0
            have Q0 := Lib.hid q0
            have HA := Lib.hid hna
            have HB := Lib.hid hnb
            have HN := Lib.hid hn
            have HRB := Lib.hid hRB
            clear h0 q0 hna hnb hn qn hRB
            go_enter Tryd.func35, Tryd.ntmps35
            go_wp2_with fail
            go_loopg [5] na (fun g i wr => ∃ k : Nat, i = .int .i64 (k : Int) ∧ k ≤ na ∧ g = na - k ∧ Only Nil w wr ∧ SameUp k la lb ∧
              wr.cell? ⟨w.heap.size, 3, none⟩ = some (.slice ao na cap) ∧ wr.cell? ⟨w.heap.size + 1, 3, none⟩ = some (.slice ao2 na cap2))
            case atStart => exact ⟨0, rfl, Nat.zero_le _, rfl, ((Only.refl Nil w).alloc _).alloc _, SameUp.zero _ _, by simp, by simp⟩
            case round =>
              obtain ⟨k, rfl, hk, hg, ho, hsame, d1, d2⟩ := hrel
              have HG := Lib.hid hg
              have HO := Lib.hid ho
              have HS := Lib.hid hsame
              clear hg ho hsame
              have k0 : (0 : Int) ≤ (k : Int) := Int.natCast_nonneg _
              by_cases hkn : k < na
              · have k1 : (k : Int) < (na : Int) := by omega
                obtain ⟨t, ht⟩ : ∃ t, la[k]? = some t := ⟨_, List.getElem?_eq_getElem (by rw [HA.out]; exact hkn)⟩
                obtain ⟨t2, ht2⟩ : ∃ t, lb[k]? = some t := ⟨_, List.getElem?_eq_getElem (by rw [HB.out]; exact hkn)⟩
                have e1 := H0.out (by omega)
                have e2 := Q0.out (by omega)
                subst e1 e2
                have hO : Only Nil w0 wr := Nil.trans HW.out HO.out
                have a1 := (hc k t ht).kept hO (fun _ h => h)
                have a2 := (qc k t2 ht2).kept hO (fun _ h => h)
                unfold tyCells at a1 a2
                have b0 := fun n : NilW wr => n.cell a1.get0
                have b1 := fun n : NilW wr => n.cell (a1.get 1 rfl)
                have b2 := fun n : NilW wr => n.cell (a1.get 2 rfl)
                have b3 := fun n : NilW wr => n.cell (a1.get 3 rfl)
                have c0 := fun n : NilW wr => n.cell a2.get0
                have c1 := fun n : NilW wr => n.cell (a2.get 1 rfl)
                have c2 := fun n : NilW wr => n.cell (a2.get 2 rfl)
                have c3 := fun n : NilW wr => n.cell (a2.get 3 rfl)
                have g1 := fun n : NilW wr => n.cell d1
                have g2 := fun n : NilW wr => n.cell d2
                have C := fun n : NilW wr => ih k t ht (ovs2 k) t2.of t.form t.n t2.form t2.n t.name t2.name n.at (qr k t2 ht2) (Nil.trans hO n.only)
                have HT := Lib.hid ht
                have HT2 := Lib.hid ht2
                clear a1 a2 ih hr qr hc qc ht ht2
                rw [Ty.eta, Ty.eta] at C
                obtain ⟨r, hr⟩ : ∃ r, sameB t t2 = r := ⟨_, rfl⟩
                rw [hr] at C
                go_wp2_with fail
                refine wp_region_nilq (by kernel_rfl) (by kernel_rfl) ?_
                repeat (quiet_step ((go_at_call 35; exact Calls.nilq_of (C _))))
                refine wpQuiet_nil ?_
                intro w3 h3
                obtain ⟨n3, e3⟩ := h3
                have h3 := n3.only
                rw [← e3] at h3
                clear e3 n3
                have g1' := h3.cell d1 (fun h => h)
                have g2' := h3.cell d2 (fun h => h)
                have HO3 := Lib.hid (Nil.trans HO.out h3)
                clear b0 b1 b2 b3 c0 c1 c2 c3 g1 g2 C d1 d2 h3
                cases r
                · have E : Hid (RB = false) := Lib.hid (by rw [← HRB.out]; exact sameL_no HT.out HT2.out hr)
                  go_wp2_with fail
                  go_ret
                  exact ⟨retB E.out, HO3.out⟩
                · have HS2 := Lib.hid (HS.out.next HT.out HT2.out hr)
                  clear hr
                  go_wp2_with fail
                  go_roundg (na - (k + 1))
                  case measure => have := HG.out; omega
                  case rel => exact ⟨k + 1, next_int hkn HN.out (by decide), by omega, rfl, HO3.out, HS2.out, g1', g2'⟩
              · have hkn' : k = na := by omega
                subst hkn'
                have k1 : (k : Int) ≤ (k : Int) := Int.le_refl _
                have E : Hid (RB = true) := Lib.hid (by rw [← HRB.out]; exact SameUp.all (by rw [HA.out]; exact HS.out) (HA.out.trans HB.out.symm))
                clear ih hr qr hc qc
                go_wp2_with fail
                go_ret
                exact ⟨retB E.out, HO.out⟩
          · have e2 : ((na : Int) != (nb : Int)) = true := bne_of (fun h => e1 (Int.ofNat_inj.1 h))
            rw [sameL_ne (by rw [hna, hnb]; exact e1)] at hRB
            subst hRB
            clear ih hr qr hc qc e1 h0 q0 hna hnb hn qn
            go_enter Tryd.func35, Tryd.ntmps35
            go_wp2
            go_ret
            exact ⟨rfl, ((Only.refl Nil w).alloc _).alloc _⟩
        · have e2 := bne_of en
          have e3 : (n == n2) = false := by simpa using en
          rw [e3, Bool.false_and] at hRB
          subst hRB
          clear ih hr qr hc qc en e3 h0 q0 hna hnb hn qn
          go_enter Tryd.func35, Tryd.ntmps35
          go_wp2
          go_ret
          exact ⟨rfl, ((Only.refl Nil w).alloc _).alloc _⟩
      · have q7 : (f == 7) = false := by simpa using e7
        rw [if_neg e7] at hRB
        simp only [beq_self_eq_true, Bool.true_and] at hRB
        by_cases e89 : f = 8 ∨ f = 9
        · rw [if_pos e89] at hRB
          obtain ⟨c, hcc⟩ : ∃ c, (s.toList == s2.toList) = c := ⟨_, rfl⟩
          rw [hcc] at hRB
          rcases e89 with rfl | rfl
          · subst hRB
            clear ih hr qr hc qc e7 q7 h0 q0 hna hnb hn qn
            go_enter Tryd.func35, Tryd.ntmps35
            go_wp2
            go_ret
            exact ⟨rfl, ((Only.refl Nil w).alloc _).alloc _⟩
          · subst hRB
            clear ih hr qr hc qc e7 q7 h0 q0 hna hnb hn qn
            go_enter Tryd.func35, Tryd.ntmps35
            go_wp2
            go_ret
            exact ⟨rfl, ((Only.refl Nil w).alloc _).alloc _⟩
        · rw [if_neg e89] at hRB
          have q8 : (f == 8) = false := by simp; omega
          have q9 : (f == 9) = false := by simp; omega
          subst hRB
          clear ih hr qr hc qc e7 e89 h0 q0 hna hnb hn qn
          go_enter Tryd.func35, Tryd.ntmps35
          go_wp2
          go_ret
          exact ⟨rfl, ((Only.refl Nil w).alloc _).alloc _⟩
    · have e2 := bne_of e1
      have e3 : (f == f2) = false := by simpa using e1
      rw [e3, Bool.false_and] at hRB
      subst hRB
      clear ih hr qr hc qc e1 e3 h0 q0 hna hnb hn qn
      go_enter Tryd.func35, Tryd.ntmps35
      go_wp2
      go_ret
      exact ⟨rfl, ((Only.refl Nil w).alloc _).alloc _⟩
end Go.Proofs.YtcbeibhmjokecaaDoor
