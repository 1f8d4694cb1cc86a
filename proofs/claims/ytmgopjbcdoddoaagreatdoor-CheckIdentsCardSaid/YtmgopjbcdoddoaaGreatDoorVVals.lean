/- The evaluation is right: values made of values. No Go program is imported. -/
import Derived.Test.YtmgopjbcdoddoaaGreatDoorVMem
import Derived.Laws.Strings
set_option linter.unusedSimpArgs false
set_option linter.unusedVariables false
namespace Go.VE
open Go.RowKit

theorem und_run {P : Program} {t : TypeId} {d : TypeDesc} (h : P.underlying t = some d) (w : World) : (underlying t).run P w = .ok d w := run_underlying h w

theorem eqBytes_eq : ∀ (a b : List UInt8), eqBytes a b = (a == b)
  | [], [] => rfl
  | [], b :: s => rfl
  | a :: r, [] => rfl
  | a :: r, b :: s => by
    show (Nat.beq a.toNat b.toNat && eqBytes r s) = ((a == b) && (r == s))
    rw [eqBytes_eq r s]
    congr 1
    by_cases h : a = b
    · subst h; simp
    · rw [show (a == b) = false from by simpa using h]
      cases hb : Nat.beq a.toNat b.toNat with
      | false => rfl
      | true => exact absurd (UInt8.toNat_inj.1 (beq hb)) h

theorem Own.eqb_eq : ∀ {a b : Own}, a.eqb b = true → a = b
  | .full, .full, _ => rfl
  | .unk, .unk, _ => rfl
  | .tok a, .tok b, h => by rw [beq (show Nat.beq a b = true from h)]
  | .full, .unk, h => by cases h
  | .full, .tok _, h => by cases h
  | .unk, .full, h => by cases h
  | .unk, .tok _, h => by cases h
  | .tok _, .full, h => by cases h
  | .tok _, .unk, h => by cases h
mutual
theorem AV.eqb_eq : ∀ (a b : AV), a.eqb b = true → a = b
  | .bool a, b, h => by cases b <;> simp [AV.eqb] at h; rw [h]
  | .int j a, b, h => by cases b <;> simp [AV.eqb] at h; rw [h.1, h.2]
  | .sym j a, b, h => by cases b <;> simp [AV.eqb] at h; rw [h.1, h.2]
  | .str a, b, h => by cases b <;> simp [AV.eqb, eqBytes_eq] at h; rw [h]
  | .nilp, b, h => by cases b <;> simp [AV.eqb] at h; rfl
  | .ptr a c, b, h => by cases b <;> simp [AV.eqb] at h; rw [h.1, h.2]
  | .eptr a c, b, h => by
    cases b <;> simp only [AV.eqb, Bool.and_eq_true] at h <;> try cases h
    rename_i x y h1 h2
    rw [beq h1, eqbL_eq _ _ h2]
  | .nils, b, h => by cases b <;> simp [AV.eqb] at h; rfl
  | .lst s o r, b, h => by
    cases b <;> simp only [AV.eqb, Bool.and_eq_true] at h <;> try cases h
    rename_i x y z h1 h2
    rw [beq h1, Own.eqb_eq h2.1, eqbR_eq _ _ h2.2]
  | .view p q r s, b, h => by cases b <;> simp [AV.eqb] at h; rw [h.1, h.2.1, h.2.2.1, h.2.2.2]
  | .nilm, b, h => by cases b <;> simp [AV.eqb] at h; rfl
  | .map a, b, h => by cases b <;> simp [AV.eqb] at h; rw [h]
  | .fn f p q, b, h => by
    cases b <;> simp only [AV.eqb, Bool.and_eq_true] at h <;> try cases h
    rename_i x y z h1 h2
    rw [beq h1, eqbL_eq _ _ h2.1, eqbL_eq _ _ h2.2]
  | .nilf, b, h => by cases b <;> simp [AV.eqb] at h; rfl
  | .agg a, b, h => by
    cases b <;> simp only [AV.eqb] at h <;> try cases h
    rw [eqbL_eq _ _ h]
  | .tup a, b, h => by
    cases b <;> simp only [AV.eqb] at h <;> try cases h
    rw [eqbL_eq _ _ h]
  | .iface s a, b, h => by
    cases b <;> simp only [AV.eqb, Bool.and_eq_true] at h <;> try cases h
    rename_i x y h1 h2
    rw [beq h1, AV.eqb_eq _ _ h2]
  | .nili, b, h => by cases b <;> simp [AV.eqb] at h; rfl
  | .vec p q r s, b, h => by cases b <;> simp [AV.eqb] at h; rw [h.1, h.2.1, h.2.2.1, h.2.2.2]
  | .sub p q r, b, h => by cases b <;> simp [AV.eqb] at h; rw [h.1, h.2.1, h.2.2]
theorem eqbL_eq : ∀ (a b : List AV), eqbL a b = true → a = b
  | [], [], _ => rfl
  | [], _ :: _, h => by simp [eqbL] at h
  | _ :: _, [], h => by simp [eqbL] at h
  | a :: r, b :: s, h => by
    simp only [eqbL, Bool.and_eq_true] at h
    rw [AV.eqb_eq a b h.1, eqbL_eq r s h.2]
theorem eqbR_eq : ∀ (a b : List (List AV)), eqbR a b = true → a = b
  | [], [], _ => rfl
  | [], _ :: _, h => by simp [eqbR] at h
  | _ :: _, [], h => by simp [eqbR] at h
  | a :: r, b :: s, h => by
    simp only [eqbR, Bool.and_eq_true] at h
    rw [eqbL_eq a b h.1, eqbR_eq r s h.2]
end

theorem field_run {E : Env} {t : TypeId} {i : Nat} {p x : AV} (h : evField E t i p = some x) {g : Gh} {v : Value} (hv : Rv g p v) (w : World) :
    ∃ u, (Instr.fieldAt t v i).run E.P w = .ok u w ∧ Rv g x u := by
  unfold evField at h
  split at h
  · rename_i fs hu
    split at h
    · rename_i f hf
      split at h
      · rename_i n hs
        have hp : ∀ b o, (fieldPlace ⟨b, o, none⟩ f).run E.P w = .ok ⟨b, o + f.offset, none⟩ w := fun b o => by
          simp only [fieldPlace, Sem.run_bind, size_run hs, Result.andThen_ok, Nat.add_one_ne_zero, if_false, Sem.run_pure, addr_add, Sem.run_ite, ↓reduceIte]
        cases p with
        | ptr l o =>
          cases h
          simp only [Rv] at hv ⊢
          obtain ⟨b, hb, rfl⟩ := hv
          exact ⟨_, by simp only [Instr.fieldAt, Sem.run_bind, und_run hu, Result.andThen_ok, hf, Instr.sureAddr, Sem.run_pure, hp], b, hb, rfl⟩
        | eptr cs o =>
          cases h
          simp only [Rv] at hv ⊢
          obtain ⟨b, q, rfl, hc⟩ := hv
          exact ⟨.pointer (some ⟨b, q + o + f.offset, none⟩), by simp only [Instr.fieldAt, Sem.run_bind, und_run hu, Result.andThen_ok, hf, Instr.sureAddr, Sem.run_pure, hp], b, q, by rw [Nat.add_assoc], hc⟩
        | _ => cases h
      · cases h
    · cases h
  · cases h

theorem part_run {E : Env} {t : TypeId} {cs : List AV} {o : Nat} {x : AV} (h : evPart E t cs o = some x) {g : Gh} {vs : List Value} (hv : Rl g cs vs) (w : World) :
    ∃ u, (part t ⟨vs⟩ o).run E.P w = .ok u w ∧ Rv g x u := by
  unfold evPart at h
  split at h
  · rename_i n ha hs
    split at h
    · rename_i hle
      cases h
      have hle := ble hle
      refine ⟨.agg ⟨(vs.drop o).take n⟩, ?_, by simp only [Rv]; exact ⟨_, rfl, (hv.drop o).take n⟩⟩
      simp only [part, Sem.run_bind, agg_run ha, Result.andThen_ok, if_true, size_run hs, Sem.run_pure, Sem.run_ite, ↓reduceIte]
      congr 2
      simp [List.take_drop]
    · cases h
  · rename_i ha
    obtain ⟨u, hu, r⟩ := hv.get h
    refine ⟨u, ?_, r⟩
    have : (⟨vs⟩ : Array Value)[o]? = some u := by simpa using hu
    simp only [part, Sem.run_bind, agg_run ha, Result.andThen_ok, Bool.false_eq_true, if_false, this, Sem.run_pure, Sem.run_ite, ↓reduceIte]
  · cases h

theorem index_spec {n : Nat} {i : AV} {j : Nat} (h : index n i = some j) {g : Gh} {v : Value} (hv : Rv g i v) : j < n ∧ ∃ k, v = .int k (j : Int) := by
  unfold index at h
  split at h
  · rename_i k m
    split at h
    · rename_i hb
      cases h
      simp only [Rv] at hv
      exact ⟨blt hb, k, hv⟩
    · cases h
  · cases h

theorem indexAddr_run {E : Env} {t : TypeId} {x i r : AV} (h : evIndexAddr E t x i = some r) {g : Gh} {v vi : Value} (hv : Rv g x v) (hi : Rv g i vi) (w : World) :
    ∃ u, (Instr.indexAt t v vi).run E.P w = .ok u w ∧ Rv g r u := by
  unfold evIndexAddr at h
  split at h
  · rename_i e s own rows hu
    split at h
    · rename_i n j hs hj
      split at h
      · rename_i hns
        have hns := beq hns
        subst hns
        cases hr : rows[j]? with
        | none => rw [hr] at h; cases h
        | some rw' =>
          rw [hr] at h; cases h
          obtain ⟨hlt, k, rfl⟩ := index_spec hj hi
          simp only [Rv] at hv ⊢
          obtain ⟨b, o, cap, rfl, _, _, hrr⟩ := hv
          obtain ⟨_, hc⟩ := hrr.get hr
          refine ⟨.pointer (some ⟨b, o + j * n, none⟩), ?_, b, o + j * n, rfl, hc⟩
          have : (0 : Int) ≤ (j : Int) ∧ (j : Int) < (rows.length : Int) := by omega
          simp only [Instr.indexAt, asIntOf, Sem.run_bind, Sem.run_pure, Result.andThen_ok, und_run hu, this, and_self, if_true, size_run hs, Int.toNat_natCast, addr_add, Sem.run_ite, ↓reduceIte]
      · cases h
    · cases h
  · rename_i e l o n c hu
    split at h
    · rename_i s j hs hj
      cases h
      obtain ⟨hlt, k, rfl⟩ := index_spec hj hi
      simp only [Rv] at hv ⊢
      obtain ⟨b, hb, rfl⟩ := hv
      refine ⟨.pointer (some ⟨b, o + j * s, none⟩), ?_, b, hb, rfl⟩
      have : (0 : Int) ≤ (j : Int) ∧ (j : Int) < (n : Int) := by omega
      simp only [Instr.indexAt, asIntOf, Sem.run_bind, Sem.run_pure, Result.andThen_ok, und_run hu, this, and_self, if_true, size_run hs, Int.toNat_natCast, addr_add, Sem.run_ite, ↓reduceIte]
    · cases h
  · rename_i e l s n top hu
    split at h
    · rename_i z j hs hj
      split at h
      · rename_i hzs
        have hzs := beq hzs
        subst hzs
        cases h
        obtain ⟨hlt, k, rfl⟩ := index_spec hj hi
        simp only [Rv] at hv ⊢
        obtain ⟨b, c, hb, rfl, _, _⟩ := hv
        refine ⟨.pointer (some ⟨b, j * z, none⟩), ?_, b, hb, rfl⟩
        have : (0 : Int) ≤ (j : Int) ∧ (j : Int) < (n : Int) := by omega
        simp only [Instr.indexAt, asIntOf, Sem.run_bind, Sem.run_pure, Result.andThen_ok, und_run hu, this, and_self, if_true, size_run hs, Int.toNat_natCast, addr_add, Sem.run_ite, ↓reduceIte, Nat.zero_add]
      · cases h
    · cases h
  · rename_i e l o n hu
    split at h
    · rename_i s j hs hj
      cases h
      obtain ⟨hlt, k, rfl⟩ := index_spec hj hi
      simp only [Rv] at hv ⊢
      obtain ⟨b, c, hb, rfl, _⟩ := hv
      refine ⟨.pointer (some ⟨b, o + j * s, none⟩), ?_, b, hb, rfl⟩
      have : (0 : Int) ≤ (j : Int) ∧ (j : Int) < (n : Int) := by omega
      simp only [Instr.indexAt, asIntOf, Sem.run_bind, Sem.run_pure, Result.andThen_ok, und_run hu, this, and_self, if_true, size_run hs, Int.toNat_natCast, addr_add, Sem.run_ite, ↓reduceIte]
    · cases h
  · rename_i n e l o hu
    split at h
    · rename_i s j hs hj
      cases h
      obtain ⟨hlt, k, rfl⟩ := index_spec hj hi
      simp only [Rv] at hv ⊢
      obtain ⟨b, hb, rfl⟩ := hv
      refine ⟨.pointer (some ⟨b, o + j * s, none⟩), ?_, b, hb, rfl⟩
      have : (0 : Int) ≤ (j : Int) ∧ (j : Int) < (n : Int) := by omega
      simp only [Instr.indexAt, asIntOf, Instr.sureAddr, Sem.run_bind, Sem.run_pure, Result.andThen_ok, und_run hu, this, and_self, if_true, size_run hs, Int.toNat_natCast, addr_add, Sem.run_ite, ↓reduceIte]
    · cases h
  · rename_i n e cs o hu
    split at h
    · rename_i s j hs hj
      cases h
      obtain ⟨hlt, k, rfl⟩ := index_spec hj hi
      simp only [Rv] at hv ⊢
      obtain ⟨b, p, rfl, hc⟩ := hv
      refine ⟨.pointer (some ⟨b, p + o + j * s, none⟩), ?_, b, p, by rw [Nat.add_assoc], hc⟩
      have : (0 : Int) ≤ (j : Int) ∧ (j : Int) < (n : Int) := by omega
      simp only [Instr.indexAt, asIntOf, Instr.sureAddr, Sem.run_bind, Sem.run_pure, Result.andThen_ok, und_run hu, this, and_self, if_true, size_run hs, Int.toNat_natCast, addr_add, Sem.run_ite, ↓reduceIte]
    · cases h
  · cases h

/-- An operand that may be missing. -/
def Ro (g : Gh) : Option AV → Option Value → Prop
  | none, v => v = none
  | some a, v => ∃ u, v = some u ∧ Rv g a u

theorem bound_some {lo hi i : Nat} {x : AV} (h : bound lo hi (some x) = some i) {g : Gh} {v : Value} (hv : Rv g x v) : lo ≤ i ∧ i ≤ hi ∧ ∃ k, v = .int k (i : Int) := by
  unfold bound at h
  split at h
  · cases ‹some x = none›
  · rename_i k m e
    cases e
    split at h
    · rename_i hb
      cases h
      simp only [Bool.and_eq_true] at hb
      simp only [Rv] at hv
      exact ⟨ble hb.1, ble hb.2, k, hv⟩
    · cases h
  · cases h
theorem sliceBound_run {P : Program} {k : IntKind} {i y : Nat} (h : i ≤ y) (code : BoundsCode) (w : World) : (Instr.sliceBound (.int k (i : Int)) y code).run P w = .ok i w := by
  have : (0 : Int) ≤ (i : Int) ∧ (i : Int) ≤ (y : Int) := by omega
  simp only [Instr.sliceBound, asIntOf, Sem.run_bind, Sem.run_pure, Result.andThen_ok, this, and_self, if_true, Int.toNat_natCast, Sem.run_ite, ↓reduceIte]

/-- The bounds of a slice without a third one. -/
theorem bounds_run {P : Program} {b : Bool} {len cap h l : Nat} {lo hi : Option AV} {vlo vhi : Option Value} {g : Gh} (hlo : Ro g lo vlo) (hhi : Ro g hi vhi) (hh : bound 0 len hi = some h) (hl : bound 0 h (some (lo.getD (.int .i64 0))) = some l) (hc : len ≤ cap) (w : World) :
    l ≤ h ∧ h ≤ len ∧ (Instr.sliceBounds b len cap vlo vhi none).run P w = .ok (l, h, cap) w := by
  have h1 : h ≤ len ∧ (vhi = none ∧ h = len ∨ ∃ k, vhi = some (.int k (h : Int))) := by
    cases hi with
    | none =>
      simp only [Ro] at hhi; subst hhi
      simp only [bound] at hh; cases hh
      exact ⟨Nat.le_refl _, .inl ⟨rfl, rfl⟩⟩
    | some x =>
      obtain ⟨u, rfl, ru⟩ := hhi
      obtain ⟨_, q, k, rfl⟩ := bound_some hh ru
      exact ⟨q, .inr ⟨k, rfl⟩⟩
  have h2 : l ≤ h ∧ (vlo = none ∧ l = 0 ∨ ∃ k, vlo = some (.int k (l : Int))) := by
    cases lo with
    | none =>
      simp only [Ro] at hlo; subst hlo
      obtain ⟨_, q, k, e⟩ := bound_some (g := g) hl (v := .int .i64 0) (by simp only [Option.getD, Rv])
      have : l = 0 := by cases l with | zero => rfl | succ n => exact absurd (Value.int.inj e).2 (by omega)
      exact ⟨q, .inl ⟨rfl, this⟩⟩
    | some x =>
      obtain ⟨u, rfl, ru⟩ := hlo
      obtain ⟨_, q, k, rfl⟩ := bound_some hl ru
      exact ⟨q, .inr ⟨k, rfl⟩⟩
  refine ⟨h2.1, h1.1, ?_⟩
  have b1 := fun (k : IntKind) (c : BoundsCode) => sliceBound_run (P := P) (k := k) (i := h) (y := cap) (by omega) c w
  have b2 := fun (k : IntKind) (c : BoundsCode) => sliceBound_run (P := P) (k := k) (i := l) (y := h) h2.1 c w
  rcases h1.2 with ⟨rfl, rfl⟩ | ⟨k, rfl⟩ <;> rcases h2.2 with ⟨rfl, rfl⟩ | ⟨k', rfl⟩ <;>
    simp only [Instr.sliceBounds, Sem.run_bind, Sem.run_pure, Result.andThen_ok, b1, b2]

/-- The bounds of a slice with a third one, the same as the second. -/
theorem bounds3_run {P : Program} {len cap h l : Nat} {lo : Option AV} {vlo : Option Value} {vhi vmx : Value} {x m : AV} {g : Gh} (hlo : Ro g lo vlo) (hhi : Rv g x vhi) (hmx : Rv g m vmx) (hh : bound 0 len (some x) = some h) (hl : bound 0 h (some (lo.getD (.int .i64 0))) = some l) (hm : bound h h (some m) = some h) (hc : len ≤ cap) (w : World) :
    l ≤ h ∧ h ≤ len ∧ (Instr.sliceBounds true len cap vlo (some vhi) (some vmx)).run P w = .ok (l, h, h) w := by
  obtain ⟨_, q1, k1, rfl⟩ := bound_some hh hhi
  obtain ⟨_, q2, k2, rfl⟩ := bound_some hm hmx
  have h2 : l ≤ h ∧ (vlo = none ∧ l = 0 ∨ ∃ k, vlo = some (.int k (l : Int))) := by
    cases lo with
    | none =>
      simp only [Ro] at hlo; subst hlo
      obtain ⟨_, q, k, e⟩ := bound_some (g := g) hl (v := .int .i64 0) (by simp only [Option.getD, Rv])
      have : l = 0 := by cases l with | zero => rfl | succ n => exact absurd (Value.int.inj e).2 (by omega)
      exact ⟨q, .inl ⟨rfl, this⟩⟩
    | some x =>
      obtain ⟨u, rfl, ru⟩ := hlo
      obtain ⟨_, q, k, rfl⟩ := bound_some hl ru
      exact ⟨q, .inr ⟨k, rfl⟩⟩
  refine ⟨h2.1, q1, ?_⟩
  have b1 := fun (k : IntKind) (c : BoundsCode) => sliceBound_run (P := P) (k := k) (i := h) (y := cap) (by omega) c w
  have b3 := fun (k : IntKind) (c : BoundsCode) => sliceBound_run (P := P) (k := k) (i := h) (y := h) (Nat.le_refl _) c w
  have b2 := fun (k : IntKind) (c : BoundsCode) => sliceBound_run (P := P) (k := k) (i := l) (y := h) h2.1 c w
  rcases h2.2 with ⟨rfl, rfl⟩ | ⟨k', rfl⟩ <;>
    simp only [Instr.sliceBounds, Sem.run_bind, Sem.run_pure, Result.andThen_ok, b1, b2, b3]
theorem bound_same {h i : Nat} {m : AV} (k : bound h h (some m) = some i) : bound h h (some m) = some h ∧ i = h := by
  have : h ≤ i ∧ i ≤ h := by
    unfold bound at k
    split at k
    · cases ‹some m = none›
    · split at k
      · rename_i hb
        cases k
        simp only [Bool.and_eq_true] at hb
        exact ⟨ble hb.1, ble hb.2⟩
      · cases k
    · cases k
  have e : i = h := by omega
  exact ⟨e ▸ k, e⟩

theorem slice_run {E : Env} {t : TypeId} {x r : AV} {lo hi mx : Option AV} (h : evSlice E t x lo hi mx = some r) {g : Gh} {v : Value} {vlo vhi vmx : Option Value} (hv : Rv g x v) (hlo : Ro g lo vlo) (hhi : Ro g hi vhi) (hmx : Ro g mx vmx) (w : World) :
    ∃ u, (Instr.sliceAt t v vlo vhi vmx).run E.P w = .ok u w ∧ Rv g r u := by
  unfold evSlice at h
  split at h
  -- a string
  · rename_i s hu
    split at h
    · rename_i hh eh
      split at h
      · rename_i l el
        split at h
        · cases h
          simp only [Ro] at hmx; subst hmx
          simp only [Rv] at hv; subst hv
          have hsz : (⟨⟨s⟩⟩ : ByteArray).size = s.length := rfl
          obtain ⟨q1, q2, q3⟩ := bounds_run (P := E.P) (b := false) hlo hhi eh el (Nat.le_refl _) w
          refine ⟨.string ⟨⟨(s.take hh).drop l⟩⟩, ?_, by simp only [Rv]⟩
          simp only [Instr.sliceAt, Sem.run_bind, und_run hu, Result.andThen_ok, Instr.slice, Option.isSome_none, Bool.false_eq_true, if_false, Sem.run_ite, ↓reduceIte, Sem.run_pure, hsz, q3]
          congr 2
          apply ByteArray.ext
          simp [ByteArray.extract, ByteArray.copySlice, List.drop_take]
        · cases h
      · cases h
    · cases h
  -- a list
  · rename_i e s own rows hu
    split at h
    · rename_i n hs
      split at h
      · rename_i hns
        have hns := beq hns
        subst hns
        simp only [Rv] at hv
        obtain ⟨b, o, cap, rfl, hcap, hown, hrr⟩ := hv
        split at h
        · rename_i hh eh
          split at h
          · rename_i l el
            split at h
            · cases h
              simp only [Ro] at hmx; subst hmx
              obtain ⟨q1, q2, q3⟩ := bounds_run (P := E.P) (b := true) hlo hhi eh el hcap w
              refine ⟨.slice (if cap = l then some ⟨b, o, none⟩ else some ⟨b, o + l * n, none⟩) (hh - l) (cap - l), ?_, ?_⟩
              · simp only [Instr.sliceAt, Sem.run_bind, und_run hu, Result.andThen_ok, Instr.slice, q3, size_run hs, Sem.run_pure, Option.map_some, addr_add]
              · have hlen : ((rows.take hh).drop l).length = hh - l := by simp; omega
                simp only [Rv]
                have hrows := (hrr.take hh).drop l
                by_cases hcl : cap = l
                · rw [if_pos hcl]
                  have e0 : (rows.take hh).drop l = [] := List.eq_nil_of_length_eq_zero (by omega)
                  refine ⟨b, o, cap - l, by rw [hlen], by omega, ?_, by rw [e0]; simp only [Rr]⟩
                  rw [hlen]
                  split
                  · rename_i hc
                    simp only [Bool.and_eq_true, Bool.or_eq_true] at hc
                    obtain ⟨c1, c2⟩ := hc
                    have c1 := beq c1
                    have l0 : l = 0 := by
                      rcases c2 with c2 | c2
                      · have := blt c2; omega
                      · exact beq c2
                    subst l0
                    have hz : rows.length = 0 := by omega
                    have hh0 : hh = 0 := by omega
                    subst hcl
                    subst hh0
                    rw [hz] at hown
                    simpa using hown
                  · trivial
                · rw [if_neg hcl]
                  refine ⟨b, o + l * n, cap - l, by rw [hlen], by omega, ?_, hrows⟩
                  rw [hlen]
                  split
                  · rename_i hc
                    simp only [Bool.and_eq_true, Bool.or_eq_true] at hc
                    obtain ⟨c1, c2⟩ := hc
                    have c1 := beq c1
                    subst c1
                    have e1 : o + l * n + (rows.length - l) * n = o + rows.length * n := by
                      rw [Nat.add_assoc, ← Nat.add_mul, show l + (rows.length - l) = rows.length by omega]
                    rw [e1]
                    cases own with
                    | full => simp only [OwnOk] at hown ⊢; omega
                    | tok t =>
                      simp only [OwnOk] at hown ⊢
                      obtain ⟨r, z1, z2⟩ := hown
                      refine ⟨r, z1, ?_⟩
                      rw [Nat.sub_mul, Nat.sub_mul, z2]
                      have : l * n ≤ rows.length * n := Nat.mul_le_mul_right _ (by omega)
                      omega
                    | unk => trivial
                  · trivial
            · rename_i m
              split at h
              · rename_i i x em
                cases h
                obtain ⟨z1, rfl⟩ := bound_same em
                obtain ⟨vx, rfl, rx⟩ := hhi
                obtain ⟨vm, rfl, rm⟩ := hmx
                obtain ⟨q1, q2, q3⟩ := bounds3_run (P := E.P) hlo rx rm eh el z1 hcap w
                refine ⟨.slice (if i = l then some ⟨b, o, none⟩ else some ⟨b, o + l * n, none⟩) (i - l) (i - l), ?_, ?_⟩
                · simp only [Instr.sliceAt, Sem.run_bind, und_run hu, Result.andThen_ok, Instr.slice, q3, size_run hs, Sem.run_pure, Option.map_some, addr_add]
                · have hlen : ((rows.take i).drop l).length = i - l := by simp; omega
                  simp only [Rv]
                  have hrows := (hrr.take i).drop l
                  by_cases hcl : i = l
                  · rw [if_pos hcl]
                    have e0 : (rows.take i).drop l = [] := List.eq_nil_of_length_eq_zero (by omega)
                    exact ⟨b, o, i - l, by rw [hlen], by omega, by rw [hlen]; simp only [OwnOk], by rw [e0]; simp only [Rr]⟩
                  · rw [if_neg hcl]
                    exact ⟨b, o + l * n, i - l, by rw [hlen], by omega, by rw [hlen]; simp only [OwnOk], hrows⟩
              · cases h
          · cases h
        · cases h
      · cases h
    · cases h
  -- no slice
  · rename_i e hu
    split at h
    · rename_i n hh hs eh
      split at h
      · rename_i l el
        split at h
        · cases h
          simp only [Ro] at hmx; subst hmx
          simp only [Rv] at hv; subst hv
          obtain ⟨q1, q2, q3⟩ := bounds_run (P := E.P) (b := true) hlo hhi eh el (Nat.le_refl _) w
          have hl0 : l = 0 := by omega
          have hh0 : hh = 0 := by omega
          subst hl0; subst hh0
          refine ⟨.slice none 0 0, ?_, by simp only [Rv]⟩
          simp only [Instr.sliceAt, Sem.run_bind, und_run hu, Result.andThen_ok, Instr.slice, q3, size_run hs, Sem.run_pure, if_true]
        · rename_i m
          split at h
          · rename_i i x em
            cases h
            obtain ⟨z1, rfl⟩ := bound_same em
            obtain ⟨vx, rfl, rx⟩ := hhi
            obtain ⟨vm, rfl, rm⟩ := hmx
            simp only [Rv] at hv; subst hv
            obtain ⟨q1, q2, q3⟩ := bounds3_run (P := E.P) hlo rx rm eh el z1 (Nat.le_refl _) w
            have hl0 : l = 0 := by omega
            have hh0 : i = 0 := by omega
            subst hl0; subst hh0
            refine ⟨.slice none 0 0, ?_, by simp only [Rv]⟩
            simp only [Instr.sliceAt, Sem.run_bind, und_run hu, Result.andThen_ok, Instr.slice, q3, size_run hs, Sem.run_pure, if_true]
          · cases h
      · cases h
    · cases h
  -- a slice that may be written
  · rename_i e l o n c hu
    split at h
    · rename_i s hs
      split at h
      · rename_i hh eh
        split at h
        · rename_i a ea
          split at h
          · split at h
            · rename_i hc
              cases h
              simp only [Bool.and_eq_true] at hc
              have hac := blt hc.1
              have hnc := ble hc.2
              simp only [Ro] at hmx; subst hmx
              simp only [Rv] at hv ⊢
              obtain ⟨b, hb, rfl⟩ := hv
              obtain ⟨q1, q2, q3⟩ := bounds_run (P := E.P) (b := true) hlo hhi eh ea hnc w
              refine ⟨.slice (some ⟨b, o + a * s, none⟩) (hh - a) (c - a), ?_, b, hb, rfl⟩
              simp only [Instr.sliceAt, Sem.run_bind, und_run hu, Result.andThen_ok, Instr.slice, q3, size_run hs, Sem.run_pure, Option.map_some, addr_add, if_neg (show ¬ c = a by omega)]
            · cases h
          · cases h
        · cases h
      · cases h
    · cases h
  -- one that may be appended to
  · rename_i e l s n top hu
    split at h
    · rename_i z hs
      split at h
      · rename_i hh eh
        split at h
        · rename_i a ea
          split at h
          · simp only [Ro] at hmx; subst hmx
            simp only [Rv] at hv
            obtain ⟨b, cap, hb, rfl, hnt, htc, hw⟩ := hv
            obtain ⟨q1, q2, q3⟩ := bounds_run (P := E.P) (b := true) hlo hhi eh ea (Nat.le_trans hnt htc) w
            split at h
            · rename_i hzs
              have hzs := beq hzs
              subst hzs
              split at h
              · rename_i ha0
                have ha0 := beq ha0
                subst ha0
                cases h
                refine ⟨.slice (some ⟨b, 0, none⟩) hh cap, ?_, ?_⟩
                · simp only [Instr.sliceAt, Sem.run_bind, und_run hu, Result.andThen_ok, Instr.slice, q3, size_run hs, Sem.run_pure, Option.map_some, addr_add, Nat.zero_mul, Nat.zero_add, Nat.sub_zero, ite_self]
                · simp only [Rv]
                  exact ⟨b, cap, hb, rfl, by omega, htc, hw⟩
              · split at h
                · rename_i hac
                  have hac := blt hac
                  cases h
                  refine ⟨.slice (some ⟨b, a * z, none⟩) (hh - a) (cap - a), ?_, ?_⟩
                  · simp only [Instr.sliceAt, Sem.run_bind, und_run hu, Result.andThen_ok, Instr.slice, q3, size_run hs, Sem.run_pure, Option.map_some, addr_add, Nat.zero_add, if_neg (show ¬ cap = a by omega)]
                  · simp only [Rv]
                    exact ⟨b, cap - a, hb, rfl, by omega⟩
                · cases h
            · cases h
          · cases h
        · cases h
      · cases h
    · cases h
  -- a part of one
  · rename_i e l o n hu
    split at h
    · rename_i s hs
      split at h
      · rename_i hh eh
        split at h
        · rename_i a ea
          split at h
          · split at h
            · rename_i hac
              have hac := blt hac
              cases h
              simp only [Ro] at hmx; subst hmx
              simp only [Rv] at hv ⊢
              obtain ⟨b, c, hb, rfl, hnc⟩ := hv
              obtain ⟨q1, q2, q3⟩ := bounds_run (P := E.P) (b := true) hlo hhi eh ea hnc w
              refine ⟨.slice (some ⟨b, o + a * s, none⟩) (hh - a) (c - a), ?_, b, c - a, hb, rfl, by omega⟩
              simp only [Instr.sliceAt, Sem.run_bind, und_run hu, Result.andThen_ok, Instr.slice, q3, size_run hs, Sem.run_pure, Option.map_some, addr_add, if_neg (show ¬ c = a by omega)]
            · cases h
          · cases h
        · cases h
      · cases h
    · cases h
  -- an array
  · rename_i n e l o hu
    split at h
    · rename_i s hs
      split at h
      · rename_i hh eh
        split at h
        · rename_i a ea
          split at h
          · split at h
            · rename_i hc
              cases h
              have hac := blt hc
              simp only [Ro] at hmx; subst hmx
              simp only [Rv] at hv ⊢
              obtain ⟨b, hb, rfl⟩ := hv
              obtain ⟨q1, q2, q3⟩ := bounds_run (P := E.P) (b := false) hlo hhi eh ea (Nat.le_refl _) w
              refine ⟨.slice (some ⟨b, o + a * s, none⟩) (hh - a) (n - a), ?_, b, hb, rfl⟩
              simp only [Instr.sliceAt, Sem.run_bind, und_run hu, Result.andThen_ok, Instr.sureAddr, q3, size_run hs, Sem.run_pure, addr_add, if_neg (show ¬ n = a by omega)]
            · cases h
          · cases h
        · cases h
      · cases h
    · cases h
  · cases h
end Go.VE
