/- Two types, two expressions: are they the same? -/
import Derived.Test.YtcbeibhmjokecaaDoorProg
import Derived.Test.YtcbeibhmjokecaaDoorQTree
import Derived.Test.YtcbeibhmjokecaaDoorQWay
import Derived.Test.YtcbeibhmjokecaaDoorVNum
import Derived.Lib.Hide
import Derived.Deep.LoopGhost
import Derived.Deep.DeepCutAuto
set_option linter.unusedSimpArgs false
set_option linter.unusedVariables false
namespace Go.Proofs.YtcbeibhmjokecaaDoor
open Go.RowKit M

noncomputable def eqB {α : Type} (a b : α) : Bool := @decide (a = b) (Classical.propDecidable _)
theorem eqB_true {α : Type} {a b : α} (h : a = b) : eqB a b = true := by unfold eqB; simp [h]
theorem eqB_false {α : Type} {a b : α} (h : a ≠ b) : eqB a b = false := by unfold eqB; simp [h]

theorem next_int {k n m : Nat} (h : k < n) (hn : n * m ≤ 140737488355328) (hm : 0 < m) : Value.int .i64 (wrap64 ((k : Int) + 1)) = .int .i64 ((k + 1 : Nat) : Int) := by
  have : n ≤ n * m := Nat.le_mul_of_pos_right n hm
  have e : wrap64 ((k : Int) + 1) = ((k + 1 : Nat) : Int) := by unfold wrap64; omega
  rw [e]
theorem retB {a b : Bool} (h : a = b) : Ending.returned (.bool b) = .returned (.bool a) := by rw [h]
theorem bne_of {a b : Int} (h : a ≠ b) : (a != b) = true := by simpa using h
theorem toList_inj {s s2 : ByteArray} (h : s.toList = s2.toList) : s = s2 := by
  rw [ByteArray.toList_eq, ByteArray.toList_eq] at h
  cases s; cases s2; simp only at h; congr; exact Array.toList_inj.1 h
theorem beq_of {s s2 : ByteArray} (h : s ≠ s2) : (s.toList == s2.toList) = false := by
  rw [beq_eq_false_iff_ne]; exact fun e => h (toList_inj e)
/-- 'all below k are the same'. -/
def SameTo {α : Type} (k : Nat) (a b : List α) : Prop := ∀ j, j < k → a[j]? = b[j]?
theorem SameTo.zero {α : Type} {a b : List α} : SameTo 0 a b := fun _ h => absurd h (Nat.not_lt_zero _)
theorem SameTo.next {α : Type} {k : Nat} {a b : List α} (h : SameTo k a b) (e : a[k]? = b[k]?) : SameTo (k + 1) a b := fun j hj => by
  rcases Nat.lt_or_eq_of_le (Nat.le_of_lt_succ hj) with h1 | h1
  · exact h j h1
  · rw [h1]; exact e
theorem SameTo.all {α : Type} {a b : List α} (h : SameTo a.length a b) (hl : a.length = b.length) : a = b := by
  apply List.ext_getElem? ; intro j
  by_cases hj : j < a.length
  · exact h j hj
  · rw [List.getElem?_eq_none (by omega), List.getElem?_eq_none (by omega)]
theorem Ty.eta (t : Ty) : Ty.mk t.form t.n t.name t.of = t := by cases t; rfl
theorem Ex.eta (e : Ex) : Ex.mk e.op (Ty.mk e.t.form e.t.n e.t.name e.t.of) e.i e.s e.x = e := by rw [Ty.eta]; cases e; rfl

set_option maxRecDepth 10000 in
set_option maxHeartbeats 1600000 in
theorem alike_any {U V : Nat → Prop} {w0 : World} {va : Value} {la : List Ty} (ha : TyS U w0 va la) : ∀ (vb : Value) (lb : List Ty) (f n f2 n2 : Int) (s s2 : ByteArray) (w : World), TyS V w0 vb lb → Only Nil w0 w →
    Calls Tryd.prog 32 #[.agg #[.int .i64 f, .int .i64 n, .string s, va], .agg #[.int .i64 f2, .int .i64 n2, .string s2, vb]] w fun e w' => e = .returned (.bool (eqB (Ty.mk f n s la) (Ty.mk f2 n2 s2 lb))) ∧ Only Nil w w' := by
  induction ha with
  | mk la ao cap off b ovs h0 h1 hb hn hs hc hr ih =>
    intro vb lb f n f2 n2 s s2 w hB hw
    obtain ⟨lb, ao2, cap2, off2, b2, ovs2, q0, q1, qb, qn, qs, qc, qr⟩ := hB
    obtain ⟨na, hna⟩ : ∃ x, la.length = x := ⟨_, rfl⟩
    obtain ⟨nb, hnb⟩ : ∃ x, lb.length = x := ⟨_, rfl⟩
    rw [hna] at h0 hn ⊢
    rw [hnb] at q0 qn ⊢
    have HW := Lib.hid hw
    clear hw h1 hb hs q1 qb qs
    by_cases e1 : f = f2
    · subst e1
      by_cases e1 : n = n2
      · subst e1
        by_cases e1 : s = s2
        · subst e1
          by_cases e1 : na = nb
          · subst e1
            have H0 := Lib.hid h0
            have Q0 := Lib.hid q0
            have HA := Lib.hid hna
            have HB := Lib.hid hnb
            have HN := Lib.hid hn
            clear h0 q0 hna hnb hn qn
            go_enter Tryd.func32, Tryd.ntmps32
            go_wp2_with fail
            go_loopg [5] na (fun g i wr => ∃ k : Nat, i = .int .i64 (k : Int) ∧ k ≤ na ∧ g = na - k ∧ Only Nil w wr ∧ SameTo k la lb ∧
              wr.cell? ⟨w.heap.size, 3, none⟩ = some (.slice ao na cap) ∧ wr.cell? ⟨w.heap.size + 1, 3, none⟩ = some (.slice ao2 na cap2))
            case atStart => exact ⟨0, rfl, Nat.zero_le _, rfl, ((Only.refl Nil w).alloc _).alloc _, SameTo.zero, by simp, by simp⟩
            case round =>
              obtain ⟨k, rfl, hk, hg, ho, hsame, d1, d2⟩ := hrel
              have HG := Lib.hid hg
              have HO := Lib.hid ho
              have HS := Lib.hid hsame
              clear hg ho hsame
              have k0 : (0 : Int) ≤ (k : Int) := Int.natCast_nonneg _
              by_cases hkn : k < na
              · have k1 : (k : Int) < (na : Int) := by omega
                obtain ⟨t, ht⟩ : ∃ t, la[k]? = some t := ⟨_, List.getElem?_eq_getElem (by rw [HA.out]; exact hkn)⟩
                obtain ⟨t2, ht2⟩ : ∃ t, lb[k]? = some t := ⟨_, List.getElem?_eq_getElem (by rw [HB.out]; exact hkn)⟩
                have e1 := H0.out (by omega)
                have e2 := Q0.out (by omega)
                subst e1 e2
                have hO : Only Nil w0 wr := Nil.trans HW.out HO.out
                have a1 := (hc k t ht).kept hO (fun _ h => h)
                have a2 := (qc k t2 ht2).kept hO (fun _ h => h)
                unfold tyCells at a1 a2
                have b0 := fun n : NilW wr => n.cell a1.get0
                have b1 := fun n : NilW wr => n.cell (a1.get 1 rfl)
                have b2 := fun n : NilW wr => n.cell (a1.get 2 rfl)
                have b3 := fun n : NilW wr => n.cell (a1.get 3 rfl)
                have c0 := fun n : NilW wr => n.cell a2.get0
                have c1 := fun n : NilW wr => n.cell (a2.get 1 rfl)
                have c2 := fun n : NilW wr => n.cell (a2.get 2 rfl)
                have c3 := fun n : NilW wr => n.cell (a2.get 3 rfl)
                have g1 := fun n : NilW wr => n.cell d1
                have g2 := fun n : NilW wr => n.cell d2
                have C := fun n : NilW wr => ih k t ht (ovs2 k) t2.of t.form t.n t2.form t2.n t.name t2.name n.at (qr k t2 ht2) (Nil.trans hO n.only)
                have HT := Lib.hid ht
                have HT2 := Lib.hid ht2
                clear a1 a2 ih hr qr hc qc ht ht2
                rw [Ty.eta, Ty.eta] at C
                obtain ⟨r, hr⟩ : ∃ r, eqB t t2 = r := ⟨_, rfl⟩
                rw [hr] at C
                go_wp2_with fail
                refine wp_region_nilq (by kernel_rfl) (by kernel_rfl) ?_
                repeat (quiet_step ((go_at_call 32; exact Calls.nilq_of (C _))))
                refine wpQuiet_nil ?_
                intro w3 h3
                obtain ⟨n3, e3⟩ := h3
                have h3 := n3.only
                rw [← e3] at h3
                clear e3 n3
                have g1' := h3.cell d1 (fun h => h)
                have g2' := h3.cell d2 (fun h => h)
                have HO3 := Lib.hid (Nil.trans HO.out h3)
                clear b0 b1 b2 b3 c0 c1 c2 c3 g1 g2 C d1 d2 h3
                cases r
                · have E := Lib.hid (eqB_false (a := Ty.mk f n s la) (b := Ty.mk f n s lb) (fun h => by
                    injection h with _ _ _ h
                    subst h
                    have := HT.out.symm.trans HT2.out
                    injection this with this
                    rw [this, eqB_true rfl] at hr; cases hr))
                  go_wp2_with fail
                  go_ret
                  exact ⟨retB E.out, HO3.out⟩
                · have e : t = t2 := by
                    by_cases e : t = t2
                    · exact e
                    · rw [eqB_false e] at hr; cases hr
                  have HS2 := Lib.hid (HS.out.next (HT.out.trans (by rw [e, HT2.out])))
                  clear e hr
                  go_wp2_with fail
                  go_roundg (na - (k + 1))
                  case measure => have := HG.out; omega
                  case rel => exact ⟨k + 1, next_int hkn HN.out (by decide), by omega, rfl, HO3.out, HS2.out, g1', g2'⟩
              · have hkn' : k = na := by omega
                subst hkn'
                have k1 : (k : Int) ≤ (k : Int) := Int.le_refl _
                have E := Lib.hid (eqB_true (a := Ty.mk f n s la) (b := Ty.mk f n s lb) (by rw [SameTo.all (by rw [HA.out]; exact HS.out) (HA.out.trans HB.out.symm)]))
                clear ih hr qr hc qc
                go_wp2_with fail
                go_ret
                exact ⟨retB E.out, HO.out⟩
          · have E := Lib.hid (eqB_false (a := Ty.mk f n s la) (b := Ty.mk f n s lb) (fun h => e1 (by injection h with _ _ _ h; rw [← hna, ← hnb, h])))
            clear ih hr qr hc qc
            have e2 : ((na : Int) != (nb : Int)) = true := bne_of (fun h => e1 (Int.ofNat_inj.1 h))
            clear e1 h0 q0 hna hnb
            go_enter Tryd.func32, Tryd.ntmps32
            go_wp2
            go_ret
            exact ⟨retB E.out, ((Only.refl Nil w).alloc _).alloc _⟩
        · have E := Lib.hid (eqB_false (a := Ty.mk f n s la) (b := Ty.mk f n s2 lb) (fun h => e1 (by injection h)))
          clear ih hr qr hc qc
          have e2 := beq_of e1
          clear e1 h0 q0 hna hnb
          go_enter Tryd.func32, Tryd.ntmps32
          go_wp2
          go_ret
          exact ⟨retB E.out, ((Only.refl Nil w).alloc _).alloc _⟩
      · have E := Lib.hid (eqB_false (a := Ty.mk f n s la) (b := Ty.mk f n2 s2 lb) (fun h => e1 (by injection h)))
        clear ih hr qr hc qc
        have e2 := bne_of e1
        clear e1 h0 q0 hna hnb
        go_enter Tryd.func32, Tryd.ntmps32
        go_wp2
        go_ret
        exact ⟨retB E.out, ((Only.refl Nil w).alloc _).alloc _⟩
    · have E := Lib.hid (eqB_false (a := Ty.mk f n s la) (b := Ty.mk f2 n2 s2 lb) (fun h => e1 (by injection h)))
      clear ih hr qr hc qc
      have e2 := bne_of e1
      clear e1 h0 q0 hna hnb
      go_enter Tryd.func32, Tryd.ntmps32
      go_wp2
      go_ret
      exact ⟨retB E.out, ((Only.refl Nil w).alloc _).alloc _⟩

theorem eqB_of {α : Type} {a b : α} (h : eqB a b = true) : a = b := by
  by_cases e : a = b
  · exact e
  · rw [eqB_false e] at h; cases h
theorem eqB_iff {α : Type} {a b : α} : eqB a b = true ↔ a = b := ⟨eqB_of, eqB_true⟩
theorem eqB_ex (e1 e2 : Ex) : eqB e1 e2 = ((e1.op == e2.op) && ((e1.i == e2.i) && ((e1.s.toList == e2.s.toList) && (eqB e1.t e2.t && eqB e1.x e2.x)))) := by
  rw [Bool.eq_iff_iff, eqB_iff]
  simp only [Bool.and_eq_true, beq_iff_eq, eqB_iff]
  constructor
  · rintro rfl; exact ⟨rfl, rfl, rfl, rfl, rfl⟩
  · rintro ⟨h1, h2, h3, h4, h5⟩; exact Ex.ext h1 h4 h2 (toList_inj h3) h5
theorem sizeOf_get {l : List Ex} {i : Nat} {e : Ex} (h : l[i]? = some e) : SizeOf.sizeOf e < SizeOf.sizeOf l := List.sizeOf_lt_of_mem (List.mem_of_getElem? h)
theorem sizeOf_x (e : Ex) : SizeOf.sizeOf e.x < SizeOf.sizeOf e := by cases e; simp [Ex.x]; omega

end Go.Proofs.YtcbeibhmjokecaaDoor
