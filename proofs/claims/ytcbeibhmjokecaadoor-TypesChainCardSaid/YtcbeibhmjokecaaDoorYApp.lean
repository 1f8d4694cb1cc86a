/- append(l[:len(l):len(l)], m...) of variables. -/
import Derived.Test.YtcbeibhmjokecaaDoorYRows
import Derived.Deep.Upon
import Derived.Deep.AppendSrc
set_option linter.unusedSimpArgs false
set_option linter.unusedVariables false
namespace Go.Proofs.YtcbeibhmjokecaaDoor
open Go.RowKit M

def flatV (ovs : Nat → Value) : Nat → List Vr → List Value
  | _, [] => []
  | i, x :: l => vrCells x (ovs i) ++ flatV ovs (i + 1) l
theorem flatV_len (ovs : Nat → Value) : ∀ (l : List Vr) (i : Nat), (flatV ovs i l).length = l.length * 6
  | [], _ => rfl
  | x :: l, i => by simp only [flatV, List.length_append, vrCells_len, flatV_len ovs l, List.length_cons]; omega
theorem flatV_get (ovs : Nat → Value) : ∀ (l : List Vr) (k i : Nat) (x : Vr), l[i]? = some x → ∀ j u, (vrCells x (ovs (k + i)))[j]? = some u → (flatV ovs k l)[i * 6 + j]? = some u
  | [], _, _, _, h, _, _, _ => by simp at h
  | y :: l, k, 0, x, h, j, u, hu => by
    simp only [List.getElem?_cons_zero, Option.some.injEq] at h
    subst h
    rw [Nat.add_zero] at hu
    have hj := (List.getElem?_eq_some_iff.1 hu).1
    unfold flatV
    rw [Nat.zero_mul, Nat.zero_add, List.getElem?_append_left hj]
    exact hu
  | y :: l, k, i + 1, x, h, j, u, hu => by
    simp only [List.getElem?_cons_succ] at h
    have h2 := flatV_get ovs l (k + 1) i x h j u (by rw [show k + 1 + i = k + (i + 1) by omega]; exact hu)
    unfold flatV
    rw [List.getElem?_append_right (by rw [vrCells_len]; omega), vrCells_len, show (i + 1) * 6 + j - 6 = i * 6 + j by omega]
    exact h2
theorem flatV_at (ovs : Nat → Value) : ∀ (l : List Vr) (k q : Nat) (u : Value), (flatV ovs k l)[q]? = some u → ∃ i x j, l[i]? = some x ∧ q = i * 6 + j ∧ (vrCells x (ovs (k + i)))[j]? = some u
  | [], _, _, _, h => by simp [flatV] at h
  | y :: l, k, q, u, h => by
    unfold flatV at h
    by_cases hq : q < 6
    · rw [List.getElem?_append_left (by rw [vrCells_len]; exact hq)] at h
      exact ⟨0, y, q, rfl, by omega, h⟩
    · rw [List.getElem?_append_right (by rw [vrCells_len]; omega), vrCells_len] at h
      obtain ⟨i, x, j, h1, h2, h3⟩ := flatV_at ovs l (k + 1) (q - 6) u h
      exact ⟨i + 1, x, j, by simpa using h1, by omega, by rw [show k + (i + 1) = k + 1 + i by omega]; exact h3⟩
/-- A slice of variables as cells. -/
theorem VarS.cells {U : Nat → Prop} {w : World} {v : Value} {l : List Vr} (h : VarS U w v l) : ∃ (ao : Option Addr) (cap : Nat) (ovs : Nat → Value), v = .slice ao l.length cap ∧ (0 < l.length → ∃ a, ao = some a ∧ ∀ j u, (flatV ovs 0 l)[j]? = some u → w.cell? (a.add j) = some u) ∧
    (∀ i x, l[i]? = some x → TyS (fun k => k < w.heap.size) w (ovs i) x.t.of) ∧ (∀ v ∈ l, v.name.size ≤ maxLen ∧ v.t.name.size ≤ maxLen) ∧ ∀ u ∈ flatV ovs 0 l, u.oneCell' = true := by
  obtain ⟨ao, cap, off, b, ovs, e, h0, hb, hn, hs, hc, hr⟩ := h.inv
  refine ⟨ao, cap, ovs, e, fun h => ⟨_, h0 h, fun j u hu => ?_⟩, fun i x hi => (hr i x hi).lts.mono (fun k hk => hk.2), hs, fun u hu => ?_⟩
  · obtain ⟨i, x, q, h1, h2, h3⟩ := flatV_at ovs l 0 j u hu
    rw [Nat.zero_add] at h3
    rw [addr_add, h2, ← Nat.add_assoc]
    exact hc i x h1 q u h3
  · obtain ⟨q, hq, e2⟩ := List.mem_iff_getElem.1 hu
    obtain ⟨i, x, j, h1, h2, h3⟩ := flatV_at ovs l 0 q u (by rw [List.getElem?_eq_getElem hq, e2])
    rw [Nat.zero_add] at h3
    obtain ⟨ao2, cap2, e3⟩ := (hr i x h1).slice
    have := List.mem_of_getElem? h3
    simp only [vrCells, List.mem_cons, List.not_mem_nil, or_false, e3] at this
    rcases this with rfl | rfl | rfl | rfl | rfl | rfl <;> rfl
/-- There is room for what a slice has. -/
def RoomV (v : Value) : Prop := ∀ ao n cap, v = .slice ao n cap → n ≤ cap
theorem append_vars {C D : Nat → Prop} {w : World} {ao : Option Addr} {cap : Nat} {sv : Value} {L M : List Vr} (hL : VarS C w (.slice ao L.length cap) L) (hM : VarS D w sv M) (hs : (L.length + M.length) * 80 ≤ 140737488355328) (ty : TypeId) :
    ∃ v' w', (Builtin.append_ #[33, 33] ty #[.slice ao L.length L.length, sv]).run Tryd.prog w = .ok v' w' ∧ VarS (fun k => k < w'.heap.size) w' v' (L ++ M) ∧ Only Nil w w' ∧ RoomV v' := by
  obtain ⟨i0, z0, hi, hz0, hz1, hz2, hz3⟩ := infoVr_parts
  obtain ⟨aoM, capM, ovM, eM, cM, tM, sM, oM⟩ := hM.cells
  subst eM
  obtain ⟨aoL, capL, ovL, eL, cL, tL, sL, oL⟩ := hL.cells
  simp only [Value.slice.injEq] at eL
  obtain ⟨rfl, _, rfl⟩ := eL
  by_cases h0 : M.length = 0
  · have hm : M = [] := List.eq_nil_of_length_eq_zero h0
    subst hm
    refine ⟨.slice ao L.length L.length, w, ?_, ?_, Only.refl _ _, fun a n c e => by simp only [Value.slice.injEq] at e; omega⟩
    · cases aoM with
      | none => exact run_append_nothing (P := Tryd.prog) w 33 33 ty 47 i0 Tryd.underlying33 hi ao L.length L.length (Nat.le_refl _) _ (Src.ofNil w Tryd.underlying33 _)
      | some a => exact run_append_nothing (P := Tryd.prog) w 33 33 ty 47 i0 Tryd.underlying33 hi ao L.length L.length (Nat.le_refl _) _ (Src.ofSlice w Tryd.underlying33 a 0 _ [] (by simp) (by simp) (by simp))
    · rw [List.append_nil]
      obtain ⟨ao2, cap2, off, b, ovs, e, q0, qb, qn, qs, qc, qr⟩ := hL.lts.inv
      simp only [Value.slice.injEq] at e
      obtain ⟨rfl, _, rfl⟩ := e
      refine VarS.mk L ao _ off b ovs q0 (fun h => ?_) (fun h => (qb h).2) qn qs qc (fun i x hi => (qr i x hi).mono (fun k hk => hk.2))
      · rcases Nat.eq_zero_or_pos L.length with h2 | h2
        · exact h2
        · rw [q0 h2] at h; cases h
  · obtain ⟨aM, eaM, hcM⟩ := cM (by omega)
    subst eaM
    have hlM : (flatV ovM 0 M).length = M.length * i0.size := by rw [flatV_len, hz1]
    have hlL : (flatV ovL 0 L).length = L.length * i0.size := by rw [flatV_len, hz1]
    have hold : (Builtin.firstCells i0.size L.length (.slice ao L.length L.length)).run Tryd.prog w.drew = .ok (flatV ovL 0 L).toArray w.drew := by
      rcases Nat.eq_zero_or_pos L.length with h2 | h2
      · have hl : L = [] := List.eq_nil_of_length_eq_zero h2
        subst hl
        cases ao with
        | none => exact run_firstCells_none w.drew _ _ _ _
        | some a => exact run_firstCells_some w.drew i0.size 0 a 0 0 [] (by simp) (by simp)
      · obtain ⟨aL, eaL, hcL⟩ := cL h2
        subst eaL
        exact run_firstCells_some w.drew i0.size L.length aL _ _ (flatV ovL 0 L) hlL (by simpa using hcL)
    have hrun := run_append_grow_src (P := Tryd.prog) w 33 33 ty 47 i0 z0 Tryd.underlying33 hi hz0 ao L.length L.length (flatV ovL 0 L) hold _ M.length (flatV ovM 0 M)
      (Src.ofSlice w Tryd.underlying33 aM M.length capM _ hlM hcM oM) (by omega) (by omega) (growslice_fits (by omega) (by rw [hz2]; exact hs))
    refine ⟨_, _, hrun, ?_, ((Only.refl Nil w).drew).alloc _, fun a n c e => by simp only [Value.slice.injEq] at e; have := grownCap_ge w (L.length + M.length) L.length 47; omega⟩
    have hB := Blk.new w.drew ((flatV ovL 0 L ++ flatV ovM 0 M).toArray ++ Builtin.zeroCells z0.cells (grownCap w (L.length + M.length) L.length 47 - (L.length + M.length))) 47
    have hlen : (L ++ M).length = L.length + M.length := List.length_append
    rw [← hlen] at hB ⊢
    obtain ⟨gc, hgc⟩ : ∃ z, grownCap w (L ++ M).length L.length 47 = z := ⟨_, rfl⟩
    rw [hgc] at hB ⊢
    obtain ⟨zs, hzs⟩ : ∃ z, Builtin.zeroCells z0.cells (gc - (L ++ M).length) = z := ⟨_, rfl⟩
    rw [hzs] at hB ⊢
    obtain ⟨w2, hw2⟩ : ∃ z, w.drew.alloc (.cells ((flatV ovL 0 L ++ flatV ovM 0 M).toArray ++ zs) 47) = z := ⟨_, rfl⟩
    have ho : Only Nil w w2 := by rw [← hw2]; exact ((Only.refl Nil w).drew).alloc _
    rw [hw2] at hB ⊢
    have hsz := ho.size
    have hlt := hB.lt
    have hcell : ∀ q u, (flatV ovL 0 L ++ flatV ovM 0 M)[q]? = some u → w2.cell? ⟨w.drew.heap.size, q, none⟩ = some u := fun q u hq => by
      rw [hB.cell]
      have hql := (List.getElem?_eq_some_iff.1 hq).1
      rw [Array.getElem?_append_left (by simpa using hql), List.getElem?_toArray]
      exact hq
    refine VarS.mk (L ++ M) _ gc 0 w.drew.heap.size (fun i => if i < L.length then ovL i else ovM (i - L.length)) (fun _ => rfl) (fun h => by cases h) (fun _ => hlt) (by rw [hlen]; exact hs) (fun x hx => ?_) (fun i x hi j u hu => ?_) (fun i x hi => ?_)
    · rcases List.mem_append.1 hx with h | h
      · exact sL x h
      · exact sM x h
    · have hj := (List.getElem?_eq_some_iff.1 hu).1
      rw [vrCells_len] at hj
      rw [Nat.zero_add]
      refine hcell _ _ ?_
      by_cases hik : i < L.length
      · rw [List.getElem?_append_left hik] at hi
        simp only [if_pos hik] at hu
        rw [List.getElem?_append_left (by rw [flatV_len]; omega)]
        exact flatV_get ovL L 0 i x hi j u (by rw [Nat.zero_add]; exact hu)
      · rw [List.getElem?_append_right (by omega)] at hi
        simp only [if_neg hik] at hu
        rw [List.getElem?_append_right (by rw [flatV_len]; omega), flatV_len, show i * 6 + j - L.length * 6 = (i - L.length) * 6 + j by omega]
        exact flatV_get ovM M 0 (i - L.length) x hi j u (by rw [Nat.zero_add]; exact hu)
    · by_cases hik : i < L.length
      · rw [List.getElem?_append_left hik] at hi
        simp only [if_pos hik]
        exact ((tL i x hi).go ho).mono (fun k hk => by show k < _; have : k < w.heap.size := hk; omega)
      · rw [List.getElem?_append_right (by omega)] at hi
        simp only [if_neg hik]
        exact ((tM _ x hi).go ho).mono (fun k hk => by show k < _; have : k < w.heap.size := hk; omega)
end Go.Proofs.YtcbeibhmjokecaaDoor
