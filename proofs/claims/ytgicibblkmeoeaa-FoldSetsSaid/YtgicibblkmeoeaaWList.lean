/- Lists of constants, both sides. -/
import Derived.Test.YtgicibblkmeoeaaProg
import Derived.Test.YtgicibblkmeoeaaWLeafP
import Derived.Test.YtgicibblkmeoeaaWLeafR
set_option linter.unusedSimpArgs false
set_option linter.unusedVariables false
namespace Go.Proofs.Ytgicibblkmeoeaa
open Go.RowKit M

/-- 'all below k are so'. -/
def AllTo {α : Type} (p : α → Bool) (k : Nat) (l : List α) : Prop := (l.take k).all p = true
theorem AllTo.zero {α : Type} (p : α → Bool) (l : List α) : AllTo p 0 l := by simp [AllTo]
theorem AllTo.next {α : Type} {p : α → Bool} {k : Nat} {l : List α} {x : α} (h : AllTo p k l) (hx : l[k]? = some x) (hp : p x = true) : AllTo p (k + 1) l := by
  unfold AllTo at *
  rw [List.take_add_one, hx, List.all_append, h]
  simp [hp]
theorem AllTo.all {α : Type} {p : α → Bool} {k : Nat} {l : List α} (h : AllTo p k l) (hk : l.length ≤ k) : l.all p = true := by
  unfold AllTo at h
  rwa [List.take_of_length_le hk] at h
theorem all_no {α : Type} {p : α → Bool} {k : Nat} {l : List α} {x : α} (hx : l[k]? = some x) (hp : p x = false) : l.all p = false := by
  rw [List.all_eq_false]
  exact ⟨x, List.mem_of_getElem? hx, by rw [hp]; exact Bool.false_ne_true⟩

set_option maxRecDepth 10000 in
set_option maxHeartbeats 1600000 in
theorem knownP_any {U : Nat → Prop} {w0 : World} {xv : Value} {l : List Ex} (h : ExS U w0 xv l) (m : Nat) (w : World) (hw : Only Nil w0 w) :
    Calls Try.prog 108 #[xv, .int .i64 (m : Int)] w fun e w' => e = .returned (.bool (knownM l m)) ∧ Only Nil w w' := by
  obtain ⟨l, ao, cap, off, b, ovs, xvs, h0, h1, hb, hn, hs, hc, ht, hr⟩ := h
  obtain ⟨na, hna⟩ : ∃ x, l.length = x := ⟨_, rfl⟩
  rw [hna] at h0 hn ⊢
  have HW := Lib.hid hw
  have H0 := Lib.hid h0
  have HA := Lib.hid hna
  have HN := Lib.hid hn
  clear hw h0 h1 hb hna hn hs
  go_enter Try.func108, Try.ntmps108
  go_wp2_with fail
  go_loopg [9] na (fun g j wr => ∃ k : Nat, j = .int .i64 (k : Int) ∧ k ≤ na ∧ g = na - k ∧ Only Nil w wr ∧ AllTo isC k l)
  case atStart => exact ⟨0, rfl, Nat.zero_le _, rfl, Only.refl Nil w, AllTo.zero _ _⟩
  case round =>
    obtain ⟨k, rfl, hk, hg, ho, hall⟩ := hrel
    have HG := Lib.hid hg
    have HO := Lib.hid ho
    have HL := Lib.hid hall
    clear hg ho hall
    have k0 : (0 : Int) ≤ (k : Int) := Int.natCast_nonneg _
    by_cases hkn : k < na
    · have k1 : (k : Int) < (na : Int) := by omega
      obtain ⟨t, htk⟩ : ∃ t, l[k]? = some t := ⟨_, List.getElem?_eq_getElem (by rw [HA.out]; exact hkn)⟩
      have e1 := H0.out (by omega)
      subst e1
      have hO : Only Nil w0 wr := Nil.trans HW.out HO.out
      have a1 := (hc k t htk).kept hO (fun _ h => h)
      unfold exCells at a1
      have b0 := a1.get0
      have b1 := a1.get 1 rfl
      have b2 := a1.get 2 rfl
      have b3 := a1.get 3 rfl
      have b4 := a1.get 4 rfl
      have b5 := a1.get 5 rfl
      have b6 := a1.get 6 rfl
      have b7 := a1.get 7 rfl
      obtain ⟨ao3, cap3, e3⟩ := (ht k t htk).slice
      obtain ⟨ao9, cap9, e9⟩ := (hr k t htk).slice
      rw [e3] at b4
      rw [e9] at b7
      obtain ⟨m3, hm3⟩ : ∃ x, t.t.of.length = x := ⟨_, rfl⟩
      rw [hm3] at b4
      obtain ⟨m9, hm9⟩ : ∃ x, t.x.length = x := ⟨_, rfl⟩
      rw [hm9] at b7
      have HT := Lib.hid htk
      have C := fun w => isP_any t.op t.t.form t.t.n t.i t.t.name t.s (.slice ao3 m3 cap3) (.slice ao9 m9 cap9) w
      obtain ⟨r, hr0⟩ : ∃ r, isCB t.op t.t.form = r := ⟨_, rfl⟩
      have HR := Lib.hid hr0
      rw [hr0] at C
      clear a1 hr hc ht htk hk k0 e3 hm3 e9 hm9 hO hr0
      go_wp2_with fail
      refine (C _).mono ?_
      rintro e w3 ⟨rfl, ho3⟩
      have HO3 : Hid (Only Nil w w3) := Lib.hid (Nil.trans (HO.out.alloc _) ho3)
      clear ho3 C b0 b1 b2 b3 b4 b5 b6 b7
      cases r
      · have E := Lib.hid (show (knownM l m) = false by have := all_no HT.out (show isC t = false from HR.out); unfold knownM; rw [this]; rfl)
        go_wp2_with fail
        go_ret
        exact ⟨retB E.out, HO3.out⟩
      · have HL2 := Lib.hid (HL.out.next HT.out (show isC t = true from HR.out))
        go_wp2_with fail
        go_roundg (na - (k + 1))
        case measure => have := HG.out; omega
        case rel => exact ⟨k + 1, next_int hkn HN.out (by decide), by omega, rfl, HO3.out, HL2.out⟩
    · have hkn' : k = na := by omega
      subst hkn'
      have k1 : (k : Int) ≤ (k : Int) := Int.le_refl _
      have EA := Lib.hid (HL.out.all (by rw [HA.out]; exact Nat.le_refl _))
      clear hr hc ht
      by_cases hm : k = m
      · subst hm
        have E := Lib.hid (show knownM l k = true by unfold knownM; rw [EA.out, HA.out]; simp)
        go_wp2_with fail
        go_ret
        exact ⟨retB E.out, HO.out⟩
      · have e1 : ((k : Int) == (m : Int)) = false := by rw [beq_eq_false_iff_ne]; exact fun h => hm (Int.ofNat_inj.1 h)
        have E := Lib.hid (show knownM l m = false by unfold knownM; rw [HA.out]; simp [hm])
        clear hm
        go_wp2_with fail
        go_ret
        exact ⟨retB E.out, HO.out⟩

set_option maxRecDepth 10000 in
set_option maxHeartbeats 1600000 in
theorem knownR_any {U : Nat → Prop} {w0 : World} {xv : Value} {l : List Ex} (h : ExS U w0 xv l) (m : Nat) (w : World) (hw : Only Nil w0 w) :
    Calls Try.prog 115 #[xv, .int .i64 (m : Int)] w fun e w' => e = .returned (.bool (knownM l m && decide (0 < m))) ∧ Only Nil w w' := by
  obtain ⟨l, ao, cap, off, b, ovs, xvs, h0, h1, hb, hn, hs, hc, ht, hr⟩ := h
  obtain ⟨na, hna⟩ : ∃ x, l.length = x := ⟨_, rfl⟩
  rw [hna] at h0 hn ⊢
  have HW := Lib.hid hw
  have H0 := Lib.hid h0
  have HA := Lib.hid hna
  have HN := Lib.hid hn
  clear hw h0 h1 hb hna hn hs
  go_enter Try.func115, Try.ntmps115
  go_wp2_with fail
  go_loopg [5] na (fun g j wr => ∃ k : Nat, j = .int .i64 (k : Int) ∧ k ≤ na ∧ g = na - k ∧ Only Nil w wr ∧ AllTo isC k l)
  case atStart => exact ⟨0, rfl, Nat.zero_le _, rfl, Only.refl Nil w, AllTo.zero _ _⟩
  case round =>
    obtain ⟨k, rfl, hk, hg, ho, hall⟩ := hrel
    have HG := Lib.hid hg
    have HO := Lib.hid ho
    have HL := Lib.hid hall
    clear hg ho hall
    have k0 : (0 : Int) ≤ (k : Int) := Int.natCast_nonneg _
    by_cases hkn : k < na
    · have k1 : (k : Int) < (na : Int) := by omega
      obtain ⟨t, htk⟩ : ∃ t, l[k]? = some t := ⟨_, List.getElem?_eq_getElem (by rw [HA.out]; exact hkn)⟩
      have e1 := H0.out (by omega)
      subst e1
      have hO : Only Nil w0 wr := Nil.trans HW.out HO.out
      have a1 := (hc k t htk).kept hO (fun _ h => h)
      unfold exCells at a1
      have b0 := a1.get0
      have b1 := a1.get 1 rfl
      have b2 := a1.get 2 rfl
      have b3 := a1.get 3 rfl
      have b4 := a1.get 4 rfl
      have b5 := a1.get 5 rfl
      have b6 := a1.get 6 rfl
      have b7 := a1.get 7 rfl
      obtain ⟨ao3, cap3, e3⟩ := (ht k t htk).slice
      obtain ⟨ao9, cap9, e9⟩ := (hr k t htk).slice
      rw [e3] at b4
      rw [e9] at b7
      obtain ⟨m3, hm3⟩ : ∃ x, t.t.of.length = x := ⟨_, rfl⟩
      rw [hm3] at b4
      obtain ⟨m9, hm9⟩ : ∃ x, t.x.length = x := ⟨_, rfl⟩
      rw [hm9] at b7
      have HT := Lib.hid htk
      have C := fun w => isR_any t.op t.t.form t.t.n t.i t.t.name t.s (.slice ao3 m3 cap3) (.slice ao9 m9 cap9) w
      obtain ⟨r, hr0⟩ : ∃ r, isCB t.op t.t.form = r := ⟨_, rfl⟩
      have HR := Lib.hid hr0
      rw [hr0] at C
      clear a1 hr hc ht htk hk k0 e3 hm3 e9 hm9 hO hr0
      go_wp2_with fail
      refine (C _).mono ?_
      rintro e w3 ⟨rfl, ho3⟩
      have HO3 : Hid (Only Nil w w3) := Lib.hid (Nil.trans HO.out ho3)
      clear ho3 C b0 b1 b2 b3 b4 b5 b6 b7
      cases r
      · have E := Lib.hid (show (knownM l m && decide (0 < m)) = false by have := all_no HT.out (show isC t = false from HR.out); unfold knownM; rw [this]; rfl)
        go_wp2_with fail
        go_ret
        exact ⟨retB E.out, HO3.out⟩
      · have HL2 := Lib.hid (HL.out.next HT.out (show isC t = true from HR.out))
        go_wp2_with fail
        go_roundg (na - (k + 1))
        case measure => have := HG.out; omega
        case rel => exact ⟨k + 1, next_int hkn HN.out (by decide), by omega, rfl, HO3.out, HL2.out⟩
    · have hkn' : k = na := by omega
      subst hkn'
      have k1 : (k : Int) ≤ (k : Int) := Int.le_refl _
      have EA := Lib.hid (HL.out.all (by rw [HA.out]; exact Nat.le_refl _))
      clear hr hc ht
      by_cases hm : k = m
      · subst hm
        by_cases hz : 0 < k
        · have E := Lib.hid (show (knownM l k && decide (0 < k)) = true by unfold knownM; rw [EA.out, HA.out]; simp [hz])
          have hz2 : (0 : Int) < (k : Int) := by omega
          go_wp2_with fail
          go_ret
          exact ⟨retB E.out, HO.out⟩
        · have hz2 : k = 0 := by omega
          subst hz2
          have E := Lib.hid (show (knownM l 0 && decide (0 < 0)) = false by simp)
          go_wp2_with fail
          go_ret
          exact ⟨retB E.out, HO.out⟩
      · have e1 : ((k : Int) == (m : Int)) = false := by rw [beq_eq_false_iff_ne]; exact fun h => hm (Int.ofNat_inj.1 h)
        have E := Lib.hid (show (knownM l m && decide (0 < m)) = false by unfold knownM; rw [HA.out]; simp [hm])
        clear hm
        go_wp2_with fail
        go_ret
        exact ⟨retB E.out, HO.out⟩
end Go.Proofs.Ytgicibblkmeoeaa
