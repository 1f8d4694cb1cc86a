/- What one evaluation told is used by another. No Go program is imported. -/
import Derived.Test.YtmgopjbcdoddoaaGreatDoorVCode
import Derived.Test.YtmgopjbcdoddoaaGreatDoorVKeep
set_option linter.unusedSimpArgs false
set_option linter.unusedVariables false
namespace Go.VE
open Go.RowKit

theorem forgetR_length : ∀ rows : List (List AV), (forgetR rows).length = rows.length
  | [] => rfl
  | a :: r => by simp only [forgetR, List.length_cons, forgetR_length r]
theorem forgetL_length : ∀ cs : List AV, (forgetL cs).length = cs.length
  | [] => rfl
  | a :: r => by simp only [forgetL, List.length_cons, forgetL_length r]
mutual
theorem forget_rv {g : Gh} : ∀ (a : AV) (v : Value), Rv g a v → Rv g (forget a) v
  | .eptr cs o, v, h => by
    simp only [forget, Rv] at h ⊢
    obtain ⟨b, p, e, r⟩ := h
    exact ⟨b, p, e, forget_rc b cs p r⟩
  | .lst s own rows, v, h => by
    simp only [forget, Rv] at h ⊢
    obtain ⟨b, o, cap, e, h1, h2, h3⟩ := h
    refine ⟨b, o, cap, by rw [forgetR_length]; exact e, by rw [forgetR_length]; exact h1, ?_, forget_rr s b rows o h3⟩
    rw [forgetR_length]
    cases own with
    | full => exact h2
    | tok t => trivial
    | unk => trivial
  | .fn f a c, v, h => by
    simp only [forget, Rv] at h ⊢
    obtain ⟨va, vc, e, r1, r2⟩ := h
    exact ⟨va, vc, e, forget_rl a va r1, forget_rl c vc r2⟩
  | .agg cs, v, h => by
    simp only [forget, Rv] at h ⊢
    obtain ⟨vs, e, r⟩ := h
    exact ⟨vs, e, forget_rl cs vs r⟩
  | .tup cs, v, h => by
    simp only [forget, Rv] at h ⊢
    obtain ⟨vs, e, r⟩ := h
    exact ⟨vs, e, forget_rl cs vs r⟩
  | .bool _, _, h => by simpa only [forget] using h
  | .int _ _, _, h => by simpa only [forget] using h
  | .sym _ _, _, h => by simpa only [forget] using h
  | .str _, _, h => by simpa only [forget] using h
  | .nilp, _, h => by simpa only [forget] using h
  | .ptr _ _, _, h => by simpa only [forget] using h
  | .nils, _, h => by simpa only [forget] using h
  | .view _ _ _ _, _, h => by simpa only [forget] using h
  | .nilm, _, h => by simpa only [forget] using h
  | .map _, _, h => by simpa only [forget] using h
  | .nilf, _, h => by simpa only [forget] using h
  | .vec _ _ _ _, _, h => by simpa only [forget] using h
  | .sub _ _ _, _, h => by simpa only [forget] using h
  | .nili, _, h => by simpa only [forget] using h
  | .iface t a, v, h => by
    simp only [forget, Rv] at h ⊢
    obtain ⟨u, e, r⟩ := h
    exact ⟨u, e, forget_rv a u r⟩
theorem forget_rl {g : Gh} : ∀ (as : List AV) (vs : List Value), Rl g as vs → Rl g (forgetL as) vs
  | [], vs, h => by simpa only [forgetL] using h
  | a :: as, vs, h => by
    simp only [forgetL, Rl] at h ⊢
    obtain ⟨v, rest, e, r1, r2⟩ := h
    exact ⟨v, rest, e, forget_rv a v r1, forget_rl as rest r2⟩
theorem forget_rc {g : Gh} (b : Nat) : ∀ (as : List AV) (p : Nat), Rc g b as p → Rc g b (forgetL as) p
  | [], p, h => by simp only [forgetL, Rc]
  | a :: as, p, h => by
    simp only [forgetL, Rc] at h ⊢
    obtain ⟨⟨v, e, r⟩, h2⟩ := h
    exact ⟨⟨v, e, forget_rv a v r⟩, forget_rc b as (p + 1) h2⟩
theorem forget_rr {g : Gh} (s b : Nat) : ∀ (rs : List (List AV)) (o : Nat), Rr g s b rs o → Rr g s b (forgetR rs) o
  | [], o, h => by simp only [forgetR, Rr]
  | r :: rs, o, h => by
    simp only [forgetR, Rr] at h ⊢
    exact ⟨by rw [forgetL_length]; exact h.1, forget_rc b r o h.2.1, forget_rr s b rs (o + s) h.2.2⟩
end

mutual
theorem plain_rv {g h : Gh} (le : ∀ b o v, g.fz b o = some v → h.fz b o = some v) : ∀ (a : AV) (v : Value), plain a = true → Rv g a v → Rv h a v
  | .eptr cs o, v, p, k => by
    simp only [Rv] at k ⊢
    obtain ⟨b, q, e, r⟩ := k
    exact ⟨b, q, e, plain_rc le b cs q (by simpa only [plain] using p) r⟩
  | .lst s own rows, v, p, k => by
    simp only [plain, Bool.and_eq_true] at p
    simp only [Rv] at k ⊢
    obtain ⟨b, o, cap, e, h1, h2, h3⟩ := k
    refine ⟨b, o, cap, e, h1, ?_, plain_rr le s b rows o p.2 h3⟩
    cases own with
    | full => exact h2
    | tok t => cases p.1
    | unk => trivial
  | .fn f a c, v, p, k => by
    simp only [plain, Bool.and_eq_true] at p
    simp only [Rv] at k ⊢
    obtain ⟨va, vc, e, r1, r2⟩ := k
    exact ⟨va, vc, e, plain_rl le a va p.1 r1, plain_rl le c vc p.2 r2⟩
  | .agg cs, v, p, k => by
    simp only [Rv] at k ⊢
    obtain ⟨vs, e, r⟩ := k
    exact ⟨vs, e, plain_rl le cs vs (by simpa only [plain] using p) r⟩
  | .tup cs, v, p, k => by
    simp only [Rv] at k ⊢
    obtain ⟨vs, e, r⟩ := k
    exact ⟨vs, e, plain_rl le cs vs (by simpa only [plain] using p) r⟩
  | .bool _, _, _, k => by simpa only [Rv] using k
  | .int _ _, _, _, k => by simpa only [Rv] using k
  | .sym _ _, _, p, _ => by simp [plain] at p
  | .str _, _, _, k => by simpa only [Rv] using k
  | .nilp, _, _, k => by simpa only [Rv] using k
  | .ptr _ _, _, p, _ => by simp [plain] at p
  | .nils, _, _, k => by simpa only [Rv] using k
  | .view _ _ _ _, _, p, _ => by simp [plain] at p
  | .nilm, _, _, k => by simpa only [Rv] using k
  | .map _, _, p, _ => by simp [plain] at p
  | .nilf, _, _, k => by simpa only [Rv] using k
  | .vec _ _ _ _, _, p, _ => by simp [plain] at p
  | .sub _ _ _, _, p, _ => by simp [plain] at p
  | .nili, _, _, k => by simpa only [Rv] using k
  | .iface t a, v, p, k => by
    simp only [Rv] at k ⊢
    obtain ⟨u, e, r⟩ := k
    exact ⟨u, e, plain_rv le a u (by simpa only [plain] using p) r⟩
theorem plain_rl {g h : Gh} (le : ∀ b o v, g.fz b o = some v → h.fz b o = some v) : ∀ (as : List AV) (vs : List Value), plainL as = true → Rl g as vs → Rl h as vs
  | [], vs, _, k => by simpa only [Rl] using k
  | a :: as, vs, p, k => by
    simp only [plainL, Bool.and_eq_true] at p
    simp only [Rl] at k ⊢
    obtain ⟨v, rest, e, r1, r2⟩ := k
    exact ⟨v, rest, e, plain_rv le a v p.1 r1, plain_rl le as rest p.2 r2⟩
theorem plain_rc {g h : Gh} (le : ∀ b o v, g.fz b o = some v → h.fz b o = some v) (b : Nat) : ∀ (as : List AV) (p : Nat), plainL as = true → Rc g b as p → Rc h b as p
  | [], p, _, _ => by simp only [Rc]
  | a :: as, q, p, k => by
    simp only [plainL, Bool.and_eq_true] at p
    simp only [Rc] at k ⊢
    obtain ⟨⟨v, e, r⟩, h2⟩ := k
    exact ⟨⟨v, le _ _ _ e, plain_rv le a v p.1 r⟩, plain_rc le b as (q + 1) p.2 h2⟩
theorem plain_rr {g h : Gh} (le : ∀ b o v, g.fz b o = some v → h.fz b o = some v) (s b : Nat) : ∀ (rs : List (List AV)) (o : Nat), plainR rs = true → Rr g s b rs o → Rr h s b rs o
  | [], o, _, _ => by simp only [Rr]
  | r :: rs, o, p, k => by
    simp only [plainR, Bool.and_eq_true] at p
    simp only [Rr] at k ⊢
    exact ⟨k.1, plain_rc le b r o p.1 k.2.1, plain_rr le s b rs (o + s) p.2 k.2.2⟩
end

mutual
theorem leb_rv {g : Gh} : ∀ (a b : AV) (v : Value), a.leb b = true → Rv g b v → Rv g a v
  | .eptr cs o, b, v, h, k => by
    cases b <;> simp only [AV.leb, AV.eqb, Bool.and_eq_true, Bool.false_eq_true] at h
    rename_i ds p
    rw [beq h.1]
    simp only [Rv] at k ⊢
    obtain ⟨x, y, e, r⟩ := k
    exact ⟨x, y, e, leb_rc x cs ds y h.2 r⟩
  | .lst s o r, b, v, h, k => by
    cases b <;> simp only [AV.leb, AV.eqb, Bool.and_eq_true, Bool.false_eq_true] at h
    rename_i t p q
    have hs := beq h.1
    subst hs
    have hl := lebR_length r q h.2.2
    simp only [Rv] at k ⊢
    obtain ⟨x, y, cap, e, h1, h2, h3⟩ := k
    refine ⟨x, y, cap, by rw [hl]; exact e, by rw [hl]; exact h1, ?_, leb_rr s x r q y h.2.2 h3⟩
    rw [hl]
    have ho := h.2.1
    cases o with
    | unk => trivial
    | full => rw [← Own.eqb_eq (show Own.eqb .full p = true from ho)] at h2; exact h2
    | tok t => rw [← Own.eqb_eq (show Own.eqb (.tok t) p = true from ho)] at h2; exact h2
  | .fn f a c, b, v, h, k => by
    cases b <;> simp only [AV.leb, AV.eqb, Bool.and_eq_true, Bool.false_eq_true] at h
    rename_i f' a' c'
    rw [beq h.1]
    simp only [Rv] at k ⊢
    obtain ⟨va, vc, e, r1, r2⟩ := k
    exact ⟨va, vc, e, leb_rl a a' va h.2.1 r1, leb_rl c c' vc h.2.2 r2⟩
  | .agg a, b, v, h, k => by
    cases b <;> simp only [AV.leb, AV.eqb, Bool.false_eq_true] at h
    rename_i a'
    simp only [Rv] at k ⊢
    obtain ⟨vs, e, r⟩ := k
    exact ⟨vs, e, leb_rl a a' vs h r⟩
  | .tup a, b, v, h, k => by
    cases b <;> simp only [AV.leb, AV.eqb, Bool.false_eq_true] at h
    rename_i a'
    simp only [Rv] at k ⊢
    obtain ⟨vs, e, r⟩ := k
    exact ⟨vs, e, leb_rl a a' vs h r⟩
  | .bool x, b, v, h, k => by rw [AV.eqb_eq _ _ (show AV.eqb (.bool x) b = true by simpa only [AV.leb] using h)]; exact k
  | .int x y, b, v, h, k => by rw [AV.eqb_eq _ _ (show AV.eqb (.int x y) b = true by simpa only [AV.leb] using h)]; exact k
  | .sym x y, b, v, h, k => by rw [AV.eqb_eq _ _ (show AV.eqb (.sym x y) b = true by simpa only [AV.leb] using h)]; exact k
  | .str x, b, v, h, k => by rw [AV.eqb_eq _ _ (show AV.eqb (.str x) b = true by simpa only [AV.leb] using h)]; exact k
  | .nilp, b, v, h, k => by rw [AV.eqb_eq _ _ (show AV.eqb .nilp b = true by simpa only [AV.leb] using h)]; exact k
  | .ptr x y, b, v, h, k => by rw [AV.eqb_eq _ _ (show AV.eqb (.ptr x y) b = true by simpa only [AV.leb] using h)]; exact k
  | .nils, b, v, h, k => by rw [AV.eqb_eq _ _ (show AV.eqb .nils b = true by simpa only [AV.leb] using h)]; exact k
  | .view x y z t, b, v, h, k => by rw [AV.eqb_eq _ _ (show AV.eqb (.view x y z t) b = true by simpa only [AV.leb] using h)]; exact k
  | .vec x y z t, b, v, h, k => by rw [AV.eqb_eq _ _ (show AV.eqb (.vec x y z t) b = true by simpa only [AV.leb] using h)]; exact k
  | .sub x y z, b, v, h, k => by rw [AV.eqb_eq _ _ (show AV.eqb (.sub x y z) b = true by simpa only [AV.leb] using h)]; exact k
  | .nilm, b, v, h, k => by rw [AV.eqb_eq _ _ (show AV.eqb .nilm b = true by simpa only [AV.leb] using h)]; exact k
  | .map x, b, v, h, k => by rw [AV.eqb_eq _ _ (show AV.eqb (.map x) b = true by simpa only [AV.leb] using h)]; exact k
  | .nilf, b, v, h, k => by rw [AV.eqb_eq _ _ (show AV.eqb .nilf b = true by simpa only [AV.leb] using h)]; exact k
  | .iface x y, b, v, h, k => by rw [AV.eqb_eq _ _ (show AV.eqb (.iface x y) b = true by simpa only [AV.leb] using h)]; exact k
  | .nili, b, v, h, k => by rw [AV.eqb_eq _ _ (show AV.eqb .nili b = true by simpa only [AV.leb] using h)]; exact k
theorem leb_rl {g : Gh} : ∀ (a b : List AV) (vs : List Value), lebL a b = true → Rl g b vs → Rl g a vs
  | [], [], vs, _, k => k
  | [], _ :: _, vs, h, _ => by simp [lebL] at h
  | _ :: _, [], vs, h, _ => by simp [lebL] at h
  | a :: r, b :: s, vs, h, k => by
    simp only [lebL, Bool.and_eq_true] at h
    simp only [Rl] at k ⊢
    obtain ⟨v, rest, e, k1, k2⟩ := k
    exact ⟨v, rest, e, leb_rv a b v h.1 k1, leb_rl r s rest h.2 k2⟩
theorem leb_rc {g : Gh} (x : Nat) : ∀ (a b : List AV) (p : Nat), lebL a b = true → Rc g x b p → Rc g x a p
  | [], [], p, _, k => k
  | [], _ :: _, p, h, _ => by simp [lebL] at h
  | _ :: _, [], p, h, _ => by simp [lebL] at h
  | a :: r, b :: s, p, h, k => by
    simp only [lebL, Bool.and_eq_true] at h
    simp only [Rc] at k ⊢
    obtain ⟨⟨v, e, k1⟩, k2⟩ := k
    exact ⟨⟨v, e, leb_rv a b v h.1 k1⟩, leb_rc x r s (p + 1) h.2 k2⟩
theorem leb_rr {g : Gh} (n x : Nat) : ∀ (a b : List (List AV)) (p : Nat), lebR a b = true → Rr g n x b p → Rr g n x a p
  | [], [], p, _, k => k
  | [], _ :: _, p, h, _ => by simp [lebR] at h
  | _ :: _, [], p, h, _ => by simp [lebR] at h
  | a :: r, b :: s, p, h, k => by
    simp only [lebR, Bool.and_eq_true] at h
    simp only [Rr] at k ⊢
    exact ⟨by rw [lebL_length a b h.1]; exact k.1, leb_rc x a b p h.1 k.2.1, leb_rr n x r s (p + n) h.2 k.2.2⟩
theorem lebL_length : ∀ (a b : List AV), lebL a b = true → a.length = b.length
  | [], [], _ => rfl
  | [], _ :: _, h => by simp [lebL] at h
  | _ :: _, [], h => by simp [lebL] at h
  | a :: r, b :: s, h => by
    simp only [lebL, Bool.and_eq_true] at h
    simp only [List.length_cons, lebL_length r s h.2]
theorem lebR_length : ∀ (a b : List (List AV)), lebR a b = true → a.length = b.length
  | [], [], _ => rfl
  | [], _ :: _, h => by simp [lebR] at h
  | _ :: _, [], h => by simp [lebR] at h
  | a :: r, b :: s, h => by
    simp only [lebR, Bool.and_eq_true] at h
    simp only [List.length_cons, lebR_length r s h.2]
end

/-- What is asked of a told call. -/
def Orc1 (E : Env) (f : FuncId) (args : List AV) (v : AV) : Prop :=
  (∀ vs w, (callFunc f vs).run E.P w = .ok (.enter f vs) w) ∧ ∀ (g : Gh) (base : Nat) (st : St) (w : World) (vs : List Value), GlobOk E g → Rw g base st w → Rl g args vs →
  Calls E.P f ⟨vs⟩ w fun e w' => ∃ v' fz, e = .returned v' ∧ Rv { g with fz := fz } v v' ∧ Rw { g with fz := fz } base st w' ∧ (∀ b o v, g.fz b o = some v → fz b o = some v) ∧ (∀ b o v, fz b o = some v → g.fz b o = some v ∨ base ≤ b) ∧ Below base w w'

open Classical in
/-- What nobody writes behind a call: what nobody wrote within it, and all memory that has a name there. -/
noncomputable def frozenAt (g : Gh) (w : World) (b o : Nat) : Option Value :=
  match g.fz b o with
  | some z => some z
  | none => if ∃ l, g.rho l = some b then match w.cell? ⟨b, o, none⟩ with
    | some z => if z.oneCell' then some z else none
    | none => none
    else none
theorem frozenAt_le {g : Gh} {w : World} {b o : Nat} {z : Value} (h : g.fz b o = some z) : frozenAt g w b o = some z := by
  unfold frozenAt; rw [h]
theorem frozenAt_cell {g : Gh} {base : Nat} {st : St} {w : World} (hw : Rw g base st w) {b o : Nat} {z : Value} (h : frozenAt g w b o = some z) : w.cell? ⟨b, o, none⟩ = some z ∧ z.oneCell' = true := by
  unfold frozenAt at h
  split at h
  · rename_i y hy; cases h; exact hw.fz b o z hy
  · split at h
    · split at h
      · rename_i y hy
        split at h
        · rename_i h1; cases h; exact ⟨hy, h1⟩
        · cases h
      · cases h
    · cases h
theorem frozenAt_old {g : Gh} {base : Nat} {st : St} {w : World} (hw : Rw g base st w) {b o : Nat} (hb : b < base) : frozenAt g w b o = g.fz b o := by
  unfold frozenAt
  split
  · rename_i h; exact h.symm
  · rename_i h
    rw [if_neg (fun ⟨l, hl⟩ => by have := (hw.lab l b hl).1; omega), h]
theorem frozenAt_named {g : Gh} {base : Nat} {st : St} {w : World} (hw : Rw g base st w) {l b o : Nat} {z : Value} (hl : g.rho l = some b) (hz : w.cell? ⟨b, o, none⟩ = some z) (h1 : z.oneCell' = true) : frozenAt g w b o = some z := by
  unfold frozenAt
  rw [hw.labfz l b o hl]
  simp only []
  rw [if_pos ⟨l, hl⟩, hz]
  simp only [h1, if_true]
theorem melt_rv {g g2 : Gh} {base : Nat} {st : St} {w : World} (hw : Rw g base st w) (hle : g2.fz = frozenAt g w) {u v : AV} (h : melt st u = some v) {x : Value} (hu : Rv g u x) : Rv g2 v x := by
  have le : ∀ b o z, g.fz b o = some z → g2.fz b o = some z := fun b o z q => by rw [hle]; exact frozenAt_le q
  unfold melt at h
  split at h
  · rename_i l s n top
    unfold rowsKept at h
    split at h
    · rename_i m t ve hl
      split at h
      · rename_i hnm
        have hnm := ble hnm
        split at h
        · rename_i cs hr
          split at h
          · rename_i hc
            simp only [Bool.and_eq_true] at hc
            cases h
            simp only [Rv] at hu
            obtain ⟨b, cap, hb, rfl, hnt, htc, hwide⟩ := hu
            obtain ⟨vs, q1, q2, q3⟩ := cells_src hw hb hl hr (by omega)
            have h1 := all_cells hc.2 q1
            have hpl : Rl g2 (forgetL cs) vs := plain_rl le _ _ hc.1 (forget_rl _ _ q1)
            simp only [Rv]
            refine ⟨b, 0, cap, by rw [rowsOf_length], by rw [rowsOf_length]; omega, trivial, rows_rr hpl (by rw [forgetL_length]; exact (row_spec hr).1) 0 fun j z hj => ?_⟩
            rw [hle]
            exact frozenAt_named hw hb (q3 j z hj) (h1 z (List.mem_of_getElem? hj))
          · cases h
        · cases h
      · cases h
    · cases h
  · split at h
    · rename_i hp
      cases h
      exact plain_rv le _ _ hp (forget_rv _ _ hu)
    · cases h
theorem melts_rv {g g2 : Gh} {base : Nat} {st : St} {w : World} (hw : Rw g base st w) (hle : g2.fz = frozenAt g w) : ∀ {us vs : List AV}, mapO (melt st) us = some vs → ∀ {xs : List Value}, Rl g us xs → Rl g2 vs xs
  | [], vs, h, xs, hu => by
    simp only [mapO] at h; cases h
    simp only [Rl] at hu ⊢; exact hu
  | u :: us, vs, h, xs, hu => by
    simp only [mapO] at h
    split at h
    · rename_i v hv
      split at h
      · rename_i rest hr
        cases h
        simp only [Rl] at hu ⊢
        obtain ⟨x, xs', rfl, h1, h2⟩ := hu
        exact ⟨x, xs', rfl, melt_rv hw hle hv h1, melts_rv hw hle hr h2⟩
      · cases h
    · cases h
theorem keep_rv {g g2 : Gh} {base : Nat} {st : St} {w : World} (hw : Rw g base st w) (hle : g2.fz = frozenAt g w) {u v : AV} (h : keep u st = some v) {x : Value} (hu : Rv g u x) : Rv g2 v x := by
  unfold keep at h
  split at h
  · rename_i cs
    cases hm : mapO (melt st) cs with
    | none => rw [hm] at h; cases h
    | some vs =>
      rw [hm] at h; cases h
      simp only [Rv] at hu ⊢
      obtain ⟨xs, rfl, hl⟩ := hu
      exact ⟨xs, rfl, melts_rv hw hle hm hl⟩
  · exact melt_rv hw hle h hu

theorem orc_of_ev {E E' : Env} {f : FuncId} (hP : E'.P = E.P) (hnum : ∀ vs w, (callFunc f vs).run E.P w = .ok (.enter f vs) w) (heff : EffOk E') (horc : OrcOk E') (ht : TabOk E') (hm : E'.P.follows .mixedOrders = true) (hfacts : FactsOk E') (hg : ∀ i x, E'.glob i = some x → E.glob i = some x ∧ plain x = true) {fuel n : Nat} {args : List AV} {v : AV}
    (h : evCall E' fuel n f args emptySt keep = some v) (hp : plainL args = true) : Orc1 E f args v := by
  refine ⟨hnum, fun g base st w vs hval hw ha => ?_⟩
  let g2 : Gh := ⟨fun _ => none, g.fz, fun _ => none, fun _ => False, E'.val, fun _ => 0⟩
  have hw2 : Rw g2 w.heap.size emptySt w :=
    ⟨hw.fz, fun _ _ h => (by cases h), fun _ _ _ h => (by cases h), fun _ _ _ h => (by cases h), fun _ _ _ _ h => (by cases h), fun _ _ _ _ _ _ _ h => (by cases h), fun _ h => False.elim h, fun _ h => False.elim h, Nat.le_refl _, fun _ _ h => (by cases h), fun _ _ => rfl⟩
  have ha2 : Rl g2 args vs := plain_rl (g := g) (h := g2) (fun _ _ _ q => q) args vs hp ha
  have := (evCall_ok heff horc hfacts hm ht fuel n f args emptySt keep v h ⟨fun _ _ => rfl, fun _ _ => rfl⟩ g2 w.heap.size w vs ⟨fun i x q => plain_rv (g := g) (h := g2) (fun _ _ _ q => q) x _ (hg i x q).2 (hval.at_ i x (hg i x q).1), rfl⟩ ha2 hw2 (fun l _ => ⟨rfl, rfl⟩)).2
  rw [hP] at this
  refine this.mono fun e w' ⟨v', he, u, st', g', q1, q2, q3, q4, q5⟩ => ?_
  have hbelow := q3.below
  have hcell : ∀ b i, b < w.heap.size → w'.cell? ⟨b, i, none⟩ = w.cell? ⟨b, i, none⟩ := fun b i k => hbelow.cell (p := ⟨b, i, none⟩) k
  have hfroz : ∀ b i, b < w.heap.size → w'.frozen? ⟨b, i, none⟩ = w.frozen? ⟨b, i, none⟩ := fun b i k => hbelow.frozen (p := ⟨b, i, none⟩) k
  have hold : ∀ b o, b < w.heap.size → g.fz b o = none → frozenAt g' w' b o = none := fun b o hb h0 => by
    rw [frozenAt_old q2 hb]
    cases hz : g'.fz b o with
    | none => rfl
    | some z =>
      rcases q3.fzb b o z hz with q | q
      · change g.fz b o = some z at q; rw [h0] at q; cases q
      · omega
  have hle0 : ∀ b o z, g.fz b o = some z → frozenAt g' w' b o = some z := fun b o z q => frozenAt_le (q3.le.fz b o z q)
  refine ⟨v', frozenAt g' w', he, keep_rv (g2 := { g with fz := frozenAt g' w' }) q2 rfl q5 q1, ?_, hle0, fun b o z q => ?_, hbelow.mono hw.base⟩
  · have hle : g.le { g with fz := frozenAt g' w' } := ⟨fun _ _ q => q, hle0, fun _ _ q => q, rfl, fun _ _ _ => rfl⟩
    refine ⟨fun b o z q => frozenAt_cell q2 q, fun l b q => ?_, hw.inj, fun l b o q => ?_, fun t b e r q d => ?_, hw.disj, hw.spent, hw.dead, Nat.le_trans hw.base hbelow.size, fun l b q i hi => ?_, fun b k => hw.wide0 b (Nat.le_trans hbelow.size k)⟩
    · obtain ⟨k1, k2, ab, k3, k4⟩ := hw.lab l b q
      refine ⟨k1, Nat.lt_of_lt_of_le k2 hbelow.size, ab, k3, RB.mono hle ?_⟩
      cases ab with
      | cells n t _ => intro i hi; obtain ⟨a, z, p1, p2, p3, p4⟩ := k4 i hi; exact ⟨a, z, p1, by rw [hcell _ _ k2]; exact p2, by rw [hfroz _ _ k2]; exact p3, p4⟩
      | map es _ => obtain ⟨x, y, p1, p2⟩ := k4; exact ⟨x, y, by rw [hbelow.block b k2]; exact p1, p2⟩
      | gone _ => trivial
    · exact hold b o (hw.lab l b q).2.1 (hw.labfz l b o q)
    · obtain ⟨k1, k2, k3, k4⟩ := hw.room t b e r q d
      exact ⟨k1, Nat.lt_of_lt_of_le k2 hbelow.size, k3, fun o p q => by rw [hcell _ _ k2, hfroz _ _ k2]; exact ⟨(k4 o p q).1, (k4 o p q).2.1, hold b o k2 (k4 o p q).2.2⟩⟩
    · obtain ⟨_, k2, _⟩ := hw.lab l b q
      rw [hcell _ _ k2, hfroz _ _ k2]; exact hw.wide l b q i hi
  · rcases Nat.lt_or_ge b w.heap.size with hb | hb
    · rw [frozenAt_old q2 hb] at q
      exact (q3.fzb b o z q).imp id fun q => Nat.le_trans hw.base q
    · exact .inr (Nat.le_trans hw.base hb)
end Go.VE
