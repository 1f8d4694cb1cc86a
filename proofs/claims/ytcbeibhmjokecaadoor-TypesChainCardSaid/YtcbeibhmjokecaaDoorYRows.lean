/- Rows of variables and of records that the call makes. -/
import Derived.Test.YtcbeibhmjokecaaDoorYExt
import Derived.Test.YtcbeibhmjokecaaDoorYCloneT
set_option linter.unusedSimpArgs false
set_option linter.unusedVariables false
namespace Go.Proofs.YtcbeibhmjokecaaDoor
open Go.RowKit M

theorem infoVr : (Tryd.prog.info? 47).map (fun i => (i.zero.map (fun z => z.cells.size), i.size, i.bytes)) = some (some 6, 6, 80) := by kernel_rfl
theorem infoRc : (Tryd.prog.info? 49).map (fun i => (i.zero.map (fun z => z.cells.size), i.size, i.bytes)) = some (some 4, 4, 64) := by kernel_rfl
theorem infoVr_parts : ∃ i z, Tryd.prog.info? 47 = some i ∧ i.zero = some z ∧ i.size = 6 ∧ i.bytes = 80 ∧ z.cells.size = 6 := by
  obtain ⟨i, hi, h⟩ := Option.map_eq_some_iff.1 infoVr
  simp only [Prod.mk.injEq] at h
  obtain ⟨z, hz, h2⟩ := Option.map_eq_some_iff.1 h.1
  exact ⟨i, z, hi, hz, h.2.1, h.2.2, h2⟩
theorem infoRc_parts : ∃ i z, Tryd.prog.info? 49 = some i ∧ i.zero = some z ∧ i.size = 4 ∧ i.bytes = 64 ∧ z.cells.size = 4 := by
  obtain ⟨i, hi, h⟩ := Option.map_eq_some_iff.1 infoRc
  simp only [Prod.mk.injEq] at h
  obtain ⟨z, hz, h2⟩ := Option.map_eq_some_iff.1 h.1
  exact ⟨i, z, hi, hz, h.2.1, h.2.2, h2⟩
/-- What lies in memory lies below its end. -/
theorem At.lt {w : World} {b o : Nat} {cs : List Value} (h : At w b o cs) (hc : 0 < cs.length) : b < w.heap.size := by
  obtain ⟨u, hu⟩ : ∃ u, cs[0]? = some u := ⟨_, List.getElem?_eq_getElem hc⟩
  exact World.block_lt_of_cell? w _ (h 0 u hu)
theorem TyS.lts {U : Nat → Prop} {w : World} {v : Value} {l : List Ty} (h : TyS U w v l) : TyS (fun k => U k ∧ k < w.heap.size) w v l := by
  induction h with
  | mk l ao cap off b ovs h0 h1 hb hn hs hc hr ih =>
    refine TyS.mk l ao cap off b ovs h0 h1 (fun h => ⟨hb h, ?_⟩) hn hs hc (fun i t hi => ih i t hi)
    exact (hc 0 _ (List.getElem?_eq_getElem h)).lt (by first | (show 0 < 4; decide) | (show 0 < 6; decide))
theorem VarS.lts {U : Nat → Prop} {w : World} {v : Value} {l : List Vr} (h : VarS U w v l) : VarS (fun k => U k ∧ k < w.heap.size) w v l := by
  obtain ⟨l, ao, cap, off, b, ovs, h0, h1, hb, hn, hs, hc, hr⟩ := h
  refine VarS.mk l ao cap off b ovs h0 h1 (fun h => ⟨hb h, ?_⟩) hn hs hc (fun i t hi => (hr i t hi).lts)
  exact (hc 0 _ (List.getElem?_eq_getElem h)).lt (by first | (show 0 < 4; decide) | (show 0 < 6; decide))
theorem RMap.lts {U : Nat → Prop} {w : World} {v : Value} {n : Nat} {R : Recs} {fv : ByteArray → Value} (h : RMap U w v n R fv) : RMap (fun k => U k ∧ k < w.heap.size) w v n R fv :=
  ⟨h.map.imp id (fun ⟨b, hb, e, hm⟩ => ⟨b, ⟨hb, hm.lt⟩, e, hm⟩), fun s r hr => (h.fields s r hr).lts, h.names, h.keys, h.few⟩

/-- A row of variables that the call has made. -/
def VrRow (base : Nat) (w : World) (v : Value) (L : List Vr) : Prop :=
  ∃ (xs : List Value) (ovs : Nat → Value), w.ownsRow base 47 6 v L.length xs ∧ (∀ x ∈ L, x.name.size ≤ maxLen ∧ x.t.name.size ≤ maxLen) ∧ ∀ i x, L[i]? = some x → (∀ j u, (vrCells x (ovs i))[j]? = some u → xs[i * 6 + j]? = some u) ∧ TyS (fun k => k < w.heap.size ∧ v.ownBlock ≠ some k) w (ovs i) x.t.of
theorem VrRow.nil (base : Nat) (w : World) : VrRow base w (.slice none 0 0) [] :=
  ⟨[], fun _ => .slice none 0 0, World.ownsRow_nil _ _ _ _, fun _ h => by simp at h, fun i t h => by simp at h⟩
theorem VrRow.go {base : Nat} {w w' : World} {v : Value} {L : List Vr} (h : VrRow base w v L) (ho : Only Nil w w') : VrRow base w' v L := by
  obtain ⟨xs, ovs, h1, h2, h3⟩ := h
  exact ⟨xs, ovs, ownsRow_only h1 ho (fun _ _ h => h), h2, fun i x hi => ⟨(h3 i x hi).1, ((h3 i x hi).2.go ho).mono (fun k hk => ⟨Nat.lt_of_lt_of_le hk.1 ho.size, hk.2⟩)⟩⟩
/-- A row of variables is a slice of variables. -/
theorem VrRow.varS {base : Nat} {w : World} {v : Value} {L : List Vr} (h : VrRow base w v L) (hL : L.length * 80 ≤ 140737488355328) : VarS (fun k => k < w.heap.size) w v L := by
  obtain ⟨xs, ovs, h1, hs, h2⟩ := h
  by_cases h0 : 0 < L.length
  · obtain ⟨g, cap, rfl, q1, q2, q3, q4⟩ := ownsRow_shape h1 h0
    refine VarS.mk L _ cap 0 g ovs (fun _ => rfl) (fun h => by simp at h) (fun _ => q4) hL hs (fun i t hi j u hu => ?_) (fun i t hi => (h2 i t hi).2.mono (fun k h => h.1))
    have hj := (List.getElem?_eq_some_iff.1 hu).1
    rw [vrCells_len] at hj
    have hil := (List.getElem?_eq_some_iff.1 hi).1
    rw [Nat.zero_add, World.ownsRow.cellAt h1 (i * 6 + j) (by omega)]
    exact (h2 i t hi).1 j u hu
  · have hl : L = [] := List.eq_nil_of_length_eq_zero (by omega)
    subst hl
    rcases h1.2 with ⟨rfl, _⟩ | ⟨g, cap, cur, rfl, hb, _⟩
    · exact VarS.nil _ _
    · exact VarS.mk [] (some ⟨g, 0, none⟩) cap 0 g ovs (fun h => absurd h (by simp)) (fun h => by simp at h) (fun h => absurd h (by simp)) (by simp) (fun _ h => by simp at h) (fun _ _ h => by simp at h) (fun _ _ h => by simp at h)
/-- What is known of variables whose cells are M's, one behind another. -/
def VrNews (w : World) (v : Value) (M : List Vr) (news : List Value) : Prop :=
  news.length = M.length * 6 ∧ ∃ nvs : Nat → Value, ∀ i x, M[i]? = some x → (∀ j u, (vrCells x (nvs i))[j]? = some u → news[i * 6 + j]? = some u) ∧ TyS (fun k => k < w.heap.size ∧ v.ownBlock ≠ some k) w (nvs i) x.t.of ∧ x.name.size ≤ maxLen ∧ x.t.name.size ≤ maxLen
/-- Variables more. -/
theorem VrRow.more {base n m : Nat} {w w1 w2 : World} {v v' : Value} {L M : List Vr} {xs news : List Value} {ovs : Nat → Value} (hL : L.length = n) (hM : M.length = m) (hrow : w.ownsRow base 47 6 v n xs) (hnm : ∀ x ∈ L, x.name.size ≤ maxLen ∧ x.t.name.size ≤ maxLen)
    (hm : ∀ i x, L[i]? = some x → (∀ j u, (vrCells x (ovs i))[j]? = some u → xs[i * 6 + j]? = some u) ∧ TyS (fun k => k < w.heap.size ∧ v.ownBlock ≠ some k) w (ovs i) x.t.of)
    (h1 : Only Nil w w1) (hnew : VrNews w1 v M news) (hown : w2.ownsRow base 47 6 v' (n + m) (xs ++ news)) (hg : MovedTo w1 v v') (h2 : Only (Own v.ownBlock) w1 w2) : VrRow base w2 v' (L ++ M) := by
  subst hL
  subst hM
  have s1 := h1.size
  have s2 := h2.size
  have hxl := ownsRow_len hrow
  obtain ⟨g, hg1, hg2⟩ := hg
  obtain ⟨hnl, nvs, hnv⟩ := hnew
  have hcls : ∀ k, k < w1.heap.size → v.ownBlock ≠ some k → k < w2.heap.size ∧ v'.ownBlock ≠ some k := fun k hk hv => ⟨by omega, by
    rw [hg1]
    intro e; injection e with e; subst e
    rcases hg2 with h | h
    · exact hv h
    · omega⟩
  refine ⟨_, fun i => if i < L.length then ovs i else nvs (i - L.length), by rw [List.length_append]; exact hown, fun t' h' => ?_, fun i t' hi => ?_⟩
  · rcases List.mem_append.1 h' with h | h
    · exact hnm t' h
    · obtain ⟨i, hi, e⟩ := List.mem_iff_getElem.1 h
      have := hnv i t' (by rw [List.getElem?_eq_getElem hi, e])
      exact this.2.2
  · by_cases hik : i < L.length
    · rw [List.getElem?_append_left hik] at hi
      obtain ⟨q1, q2⟩ := hm i t' hi
      simp only [if_pos hik]
      refine ⟨fun j u hu => ?_, ?_⟩
      · have hj := (List.getElem?_eq_some_iff.1 hu).1
        rw [vrCells_len] at hj
        rw [List.getElem?_append_left (by omega)]
        exact q1 j u hu
      · exact ((q2.go h1).kept h2 (fun k hk h => hk.2 h.symm)).mono (fun k hk => hcls k (by have := hk.1; omega) hk.2)
    · rw [List.getElem?_append_right (by omega)] at hi
      obtain ⟨q1, q2, _⟩ := hnv (i - L.length) t' hi
      simp only [if_neg hik]
      refine ⟨fun j u hu => ?_, ?_⟩
      · rw [List.getElem?_append_right (by omega), show i * 6 + j - xs.length = (i - L.length) * 6 + j by rw [hxl, Nat.sub_mul]; omega]
        exact q1 j u hu
      · exact (q2.kept h2 (fun k hk h => hk.2 h.symm)).mono (fun k hk => hcls k hk.1 hk.2)
/-- One variable, new. -/
theorem VrNews.one {w : World} {v ov : Value} {x : Vr} (h : TyS (fun k => k < w.heap.size ∧ v.ownBlock ≠ some k) w ov x.t.of) (hx : x.name.size ≤ maxLen ∧ x.t.name.size ≤ maxLen) : VrNews w v [x] (vrCells x ov) := by
  refine ⟨rfl, fun _ => ov, fun i y hi => ?_⟩
  have hil := (List.getElem?_eq_some_iff.1 hi).1
  have : i = 0 := by simp at hil; omega
  subst this
  simp only [List.getElem?_cons_zero, Option.some.injEq] at hi
  subst hi
  exact ⟨fun j u hu => by rw [Nat.zero_mul, Nat.zero_add]; exact hu, h, hx⟩

/-- A record's cells. -/
def rcCells (r : Rc) (v : Value) : List Value := [.string r.name, .bool r.exp, .string r.base, v]
theorem rcCells_len (r : Rc) (v : Value) : (rcCells r v).length = 4 := rfl
/-- A row of records that the call has made; their fields are the map's. -/
def RcRow (base : Nat) (w : World) (v : Value) (R : Recs) (fv : ByteArray → Value) (c : List Rc) : Prop :=
  ∃ xs : List Value, w.ownsRow base 49 4 v c.length xs ∧ ∀ i r, c[i]? = some r → ∃ s, R s = some r ∧ ∀ j u, (rcCells r (fv s))[j]? = some u → xs[i * 4 + j]? = some u
theorem RcRow.nil (base : Nat) (w : World) (R : Recs) (fv : ByteArray → Value) : RcRow base w (.slice none 0 0) R fv [] :=
  ⟨[], World.ownsRow_nil _ _ _ _, fun i t h => by simp at h⟩
theorem RcRow.push {base n : Nat} {w w2 : World} {v v' : Value} {R : Recs} {fv : ByteArray → Value} {c : List Rc} {xs : List Value} {r : Rc} {s : ByteArray} (hL : c.length = n) (hrow : w.ownsRow base 49 4 v n xs)
    (hm : ∀ i r, c[i]? = some r → ∃ s, R s = some r ∧ ∀ j u, (rcCells r (fv s))[j]? = some u → xs[i * 4 + j]? = some u) (hR : R s = some r)
    (hown : w2.ownsRow base 49 4 v' (n + 1) (xs ++ rcCells r (fv s))) : RcRow base w2 v' R fv (c ++ [r]) := by
  subst hL
  have hxl := ownsRow_len hrow
  refine ⟨_, by rw [List.length_append]; exact hown, fun i t' hi => ?_⟩
  by_cases hik : i < c.length
  · rw [List.getElem?_append_left hik] at hi
    obtain ⟨s', q1, q2⟩ := hm i t' hi
    refine ⟨s', q1, fun j u hu => ?_⟩
    have hj := (List.getElem?_eq_some_iff.1 hu).1
    rw [rcCells_len] at hj
    rw [List.getElem?_append_left (by omega)]
    exact q2 j u hu
  · have hil := (List.getElem?_eq_some_iff.1 hi).1
    rw [List.length_append, List.length_singleton] at hil
    have : i = c.length := by omega
    subst this
    have : t' = r := by rw [List.getElem?_append_right (by omega)] at hi; simp at hi; exact hi.symm
    subst this
    refine ⟨s, hR, fun j u hu => ?_⟩
    rw [List.getElem?_append_right (by omega), show c.length * 4 + j - xs.length = j by omega]
    exact hu
end Go.Proofs.YtcbeibhmjokecaaDoor
