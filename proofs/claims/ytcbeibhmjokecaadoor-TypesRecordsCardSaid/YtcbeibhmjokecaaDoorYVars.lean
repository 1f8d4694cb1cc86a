/- Two slices that read as the same variables are told the same: Vars. -/
import Derived.Test.YtcbeibhmjokecaaDoorYOpen
set_option linter.unusedSimpArgs false
set_option linter.unusedVariables false
namespace Go.Proofs.YtcbeibhmjokecaaDoor
open Go.RowKit M

set_option maxRecDepth 20000 in
set_option maxHeartbeats 3200000 in
theorem vars_any {U V : Nat → Prop} {w0 : World} {va vb : Value} {l : List Vr} (ha : VarS U w0 va l) (hb : VarS V w0 vb l) (w : World) (hw : Only Nil w0 w) :
    Calls Tryd.prog 13 #[va, vb] w fun e w' => e = .returned (.bool true) ∧ Only Nil w w' := by
  obtain ⟨ao, cap, off, b, ovs, rfl, p0, _, p2, p3, p4, p5⟩ := ha.inv
  obtain ⟨ao2, cap2, off2, b2, ovs2, rfl, q0, _, _, _, q4, q5⟩ := hb.inv
  obtain ⟨n, hn⟩ : ∃ z, l.length = z := ⟨_, rfl⟩
  rw [hn] at p0 p2 q0 ⊢
  have HN := Lib.hid hn
  have HW := Lib.hid hw
  have HP0 := Lib.hid p0
  have HQ0 := Lib.hid q0
  have HP2 := Lib.hid p2
  have HP4 := Lib.hid p4
  have HP5 := Lib.hid p5
  have HQ4 := Lib.hid q4
  have HQ5 := Lib.hid q5
  clear ha hb hn hw p0 p2 p3 p4 p5 q0 q4 q5
  have nn : ((n : Int) != (n : Int)) = false := by simp
  go_enter Tryd.func13, Tryd.ntmps13
  go_wp2_with fail
  go_loopg [5] n (fun g i wr => ∃ k : Nat, i = .int .i64 (k : Int) ∧ k ≤ n ∧ g = n - k ∧ Only Nil w wr)
  case atStart => exact ⟨0, rfl, Nat.zero_le _, rfl, Only.refl _ _⟩
  case round =>
    obtain ⟨k, rfl, hk, hg, ho⟩ := hrel
    have HG := Lib.hid hg
    have HO := Lib.hid ho
    have k0 : (0 : Int) ≤ (k : Int) := Int.natCast_nonneg _
    by_cases hkn : k < n
    · have k1 : (k : Int) < (n : Int) := by omega
      obtain ⟨x, hx⟩ : ∃ x, l[k]? = some x := ⟨_, List.getElem?_eq_getElem (by rw [HN.out]; exact hkn)⟩
      have e1 := HP0.out (by omega)
      have e2 := HQ0.out (by omega)
      subst e1 e2
      have hO : Only Nil w0 wr := Nil.trans HW.out ho
      have a1 := (HP4.out k x hx).kept hO (fun _ h => h)
      have a2 := (HQ4.out k x hx).kept hO (fun _ h => h)
      have C := Lib.hid (fun n : NilW wr => by
        have := alike_any (HP5.out k x hx) (ovs2 k) x.t.of x.t.form x.t.n x.t.form x.t.n x.t.name x.t.name n.at (HQ5.out k x hx) (Nil.trans hO n.only)
        rw [eqB_true rfl] at this
        exact this)
      obtain ⟨nm, hnm⟩ : ∃ y, x.name = y := ⟨_, rfl⟩
      obtain ⟨ex, hex⟩ : ∃ y, x.exp = y := ⟨_, rfl⟩
      unfold vrCells at a1 a2
      rw [hnm, hex] at a1 a2
      have b0 := fun n : NilW wr => n.cell a1.get0
      have b1 := fun n : NilW wr => n.cell (a1.get 1 rfl)
      have b2 := fun n : NilW wr => n.cell (a1.get 2 rfl)
      have b3 := fun n : NilW wr => n.cell (a1.get 3 rfl)
      have b4 := fun n : NilW wr => n.cell (a1.get 4 rfl)
      have b5 := fun n : NilW wr => n.cell (a1.get 5 rfl)
      have c0 := fun n : NilW wr => n.cell a2.get0
      have c1 := fun n : NilW wr => n.cell (a2.get 1 rfl)
      have c2 := fun n : NilW wr => n.cell (a2.get 2 rfl)
      have c3 := fun n : NilW wr => n.cell (a2.get 3 rfl)
      have c4 := fun n : NilW wr => n.cell (a2.get 4 rfl)
      have c5 := fun n : NilW wr => n.cell (a2.get 5 rfl)
      have s1 : (nm.toList != nm.toList) = false := by simp
      have s2 : (ex != ex) = false := by simp
      clear a1 a2 hx hnm hex hO hg ho hk
      go_wp2_with fail
      refine wp_region_nilq (by kernel_rfl) (by kernel_rfl) ?_
      repeat (quiet_step ((go_at_call 32; exact Calls.nilq_of (C.out _))))
      refine wpQuiet_nil ?_
      intro w9 h9
      obtain ⟨n3, e3⟩ := h9
      have h9 := n3.only
      rw [← e3] at h9
      clear e3 n3
      have HO9 := Lib.hid (Nil.trans HO.out h9)
      clear b0 b1 b2 b3 b4 b5 c0 c1 c2 c3 c4 c5 h9 C
      go_wp2_with fail
      go_roundg (n - (k + 1))
      case measure => have := HG.out; omega
      case rel => exact ⟨k + 1, next_int hkn HP2.out (by decide), by omega, rfl, HO9.out⟩
    · have hk7 : k = n := by omega
      subst hk7
      have k1 : (k : Int) ≤ (k : Int) := Int.le_refl _
      clear hg ho hk
      go_wp2_with fail
      go_ret
      exact ⟨rfl, HO.out⟩
end Go.Proofs.YtcbeibhmjokecaaDoor
