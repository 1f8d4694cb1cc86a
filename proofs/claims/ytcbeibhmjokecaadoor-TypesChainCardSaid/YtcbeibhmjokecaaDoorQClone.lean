/- Types and expressions in new memory. -/
import Derived.Test.YtcbeibhmjokecaaDoorProg
import Derived.Test.YtcbeibhmjokecaaDoorQSame
import Derived.Test.YtcbeibhmjokecaaDoorApp
import Derived.Test.YtcbeibhmjokecaaDoorVNum
set_option linter.unusedSimpArgs false
set_option linter.unusedVariables false
namespace Go.Proofs.YtcbeibhmjokecaaDoor
open Go.RowKit M

theorem infoTy : (Tryd.prog.info? 25).map (fun i => (i.zero.map (fun z => z.cells.size), i.size, i.bytes)) = some (some 4, 4, 56) := by kernel_rfl
theorem infoEx : (Tryd.prog.info? 78).map (fun i => (i.zero.map (fun z => z.cells.size), i.size, i.bytes)) = some (some 8, 8, 112) := by kernel_rfl
theorem infoTy_parts : ∃ i z, Tryd.prog.info? 25 = some i ∧ i.zero = some z ∧ i.size = 4 ∧ i.bytes = 56 ∧ z.cells.size = 4 := by
  obtain ⟨i, hi, h⟩ := Option.map_eq_some_iff.1 infoTy
  simp only [Prod.mk.injEq] at h
  obtain ⟨z, hz, h2⟩ := Option.map_eq_some_iff.1 h.1
  exact ⟨i, z, hi, hz, h.2.1, h.2.2, h2⟩
theorem infoEx_parts : ∃ i z, Tryd.prog.info? 78 = some i ∧ i.zero = some z ∧ i.size = 8 ∧ i.bytes = 112 ∧ z.cells.size = 8 := by
  obtain ⟨i, hi, h⟩ := Option.map_eq_some_iff.1 infoEx
  simp only [Prod.mk.injEq] at h
  obtain ⟨z, hz, h2⟩ := Option.map_eq_some_iff.1 h.1
  exact ⟨i, z, hi, hz, h.2.1, h.2.2, h2⟩

section
variable {P : Program} {w : World}
/-- 'append(s, x)' of one struct of some cells, which the translation lays into a new block of its own first. -/
theorem wpList_append_cells {ops : Array Oper} {rest : List Oper} {o : Oper} {a : Act} {Q : Exit → Act → World → Prop} (hgd : o.guard = none) (s x : Operand) (t : TypeId)
    (ho : o.op = .call { callee := .builtin .append, args := #[s, x], argTypes := #[t, t] })
    (base : Nat) (e : TypeId) (i : TypeInfo) (z : Value) (size bytes : Nat) (ht : P.underlying t = some (.slice e)) (hi : P.info? e = some i) (hz : i.zero = some z)
    (hsize : i.size = size) (hby : i.bytes = bytes) (hzs : z.cells.size = size) (hsz : 0 < size)
    (v : Value) (n : Nat) (xs : List Value) (hs : a.eval s = v) (hown : w.ownsRow base e size v n xs) (cs : Array Value) (hl : cs.size = size) (h1 : ∀ u ∈ cs, u.oneCell' = true)
    (bk : Nat) (hbk : w.heap.size = bk) (hx : a.eval x = .slice (some ⟨bk, 0, none⟩) 1 1) (h63 : n + 1 ≤ maxLen) (hbytes : (n + 1) * bytes ≤ 140737488355328) (hbase : base ≤ w.heap.size)
    (h : ∀ g cap w', w'.ownsRow base e size (.slice (some ⟨g, 0, none⟩) (n + 1) cap) (n + 1) (xs ++ cs.toList) → n + 1 ≤ cap → cap ≤ maxLen →
      (some g = v.ownBlock ∨ w.heap.size ≤ g) → Only (Own v.ownBlock) w w' → wpList P ops Q rest (a.put o.dst (.slice (some ⟨g, 0, none⟩) (n + 1) cap)) w') :
    wpList P ops Q (o :: rest) a (w.alloc (.cells cs e)) := by
  subst hbk
  refine wpList_append_row hgd s x t ho base e i z size bytes ht hi hz hsize hby hzs hsz v n xs hs (hown.alloc _) ⟨w.heap.size, 0, none⟩ 1 1 cs.toList hx (by simp [hl]) ?_ (fun u hu => h1 u (by simpa using hu)) (by decide) h63 hbytes (by simp; omega) ?_
  · intro j u hj
    have := (Blk.new w cs e).cell j
    rw [Array.getElem?_toList] at hj
    have e0 : (Addr.add ⟨w.heap.size, 0, none⟩ j) = ⟨w.heap.size, j, none⟩ := by
      simp only [Addr.add, Nat.zero_add]
      split
      · rename_i h; subst h; rfl
      · rfl
    rw [e0, this]; exact hj
  · intro g cap w' h2 h3 h4 h5 h6
    refine h g cap w' h2 h3 h4 (h5.imp id fun h => by simp at h; omega) ?_
    exact ((Only.refl (Own v.ownBlock) w).alloc _).trans h6 (fun _ _ h => h)
end

/-- A row of types that the call has made: all that it leads to is new, and isn't its own block. -/
def TyRow (base : Nat) (w : World) (v : Value) (L : List Ty) : Prop :=
  ∃ (xs : List Value) (ovs : Nat → Value), w.ownsRow base 25 4 v L.length xs ∧ (∀ t ∈ L, t.name.size ≤ maxLen) ∧ ∀ i t, L[i]? = some t → (∀ j u, (tyCells t (ovs i))[j]? = some u → xs[i * 4 + j]? = some u) ∧ TyS (fun k => base ≤ k ∧ k < w.heap.size ∧ v.ownBlock ≠ some k) w (ovs i) t.of
theorem TyRow.nil (base : Nat) (w : World) : TyRow base w (.slice none 0 0) [] :=
  ⟨[], fun _ => .slice none 0 0, World.ownsRow_nil _ _ _ _, fun _ h => by simp at h, fun i t h => by simp at h⟩
/-- A row of types is a slice of types. -/
theorem TyRow.tyS {base : Nat} {w : World} {v : Value} {L : List Ty} (h : TyRow base w v L) (hL : L.length * 56 ≤ 140737488355328) : TyS (New base w.heap.size) w v L := by
  obtain ⟨xs, ovs, h1, hs, h2⟩ := h
  by_cases h0 : 0 < L.length
  · obtain ⟨g, cap, rfl, q1, q2, q3, q4⟩ := ownsRow_shape h1 h0
    refine TyS.mk L _ cap 0 g ovs (fun _ => rfl) (fun h => by simp at h) (fun _ => ⟨q1, q4⟩) hL hs (fun i t hi j u hu => ?_) (fun i t hi => (h2 i t hi).2.mono (fun k h => ⟨h.1, h.2.1⟩))
    have hj := (List.getElem?_eq_some_iff.1 hu).1
    rw [tyCells_len] at hj
    have hil := (List.getElem?_eq_some_iff.1 hi).1
    rw [Nat.zero_add, World.ownsRow.cellAt h1 (i * 4 + j) (by omega)]
    exact (h2 i t hi).1 j u hu
  · have hl : L = [] := List.eq_nil_of_length_eq_zero (by omega)
    subst hl
    rcases h1.2 with ⟨rfl, _⟩ | ⟨g, cap, cur, rfl, hb, _⟩
    · exact TyS.nil _ _
    · exact TyS.mk [] (some ⟨g, 0, none⟩) cap 0 g ovs (fun h => absurd h (by simp)) (fun h => by simp at h) (fun h => absurd h (by simp)) (by simp) (fun _ h => by simp at h) (fun _ _ h => by simp at h) (fun _ _ h => by simp at h)
theorem ownsRow_len {w : World} {base : Nat} {e : TypeId} {size : Nat} {v : Value} {n : Nat} {xs : List Value} (h : w.ownsRow base e size v n xs) : xs.length = n * size := h.1
/-- What an append does to where a row lies. -/
def MovedTo (w : World) (v v' : Value) : Prop := ∃ g, v'.ownBlock = some g ∧ (v.ownBlock = some g ∨ w.heap.size ≤ g)
/-- A type more. -/
theorem TyRow.push {base n : Nat} {w w1 w2 : World} {v v' ov : Value} {L : List Ty} {xs : List Value} {ovs : Nat → Value} {t : Ty} (hL : L.length = n) (hrow : w.ownsRow base 25 4 v n xs) (hnm : ∀ t ∈ L, t.name.size ≤ maxLen)
    (hm : ∀ i t, L[i]? = some t → (∀ j u, (tyCells t (ovs i))[j]? = some u → xs[i * 4 + j]? = some u) ∧ TyS (fun k => base ≤ k ∧ k < w.heap.size ∧ v.ownBlock ≠ some k) w (ovs i) t.of)
    (h1 : Only Nil w w1) (hb : base ≤ w.heap.size) (hov : TyS (New w.heap.size w1.heap.size) w1 ov t.of) (hown : w2.ownsRow base 25 4 v' (n + 1) (xs ++ tyCells t ov)) (hg : MovedTo w1 v v') (h2 : Only (Own v.ownBlock) w1 w2)
    (ht : t.name.size ≤ maxLen) : TyRow base w2 v' (L ++ [t]) := by
  subst hL
  have s1 := h1.size
  have s2 := h2.size
  have hxl := ownsRow_len hrow
  have vlt : ∀ q, v.ownBlock = some q → q < w.heap.size := fun q hq => (hrow.lt q hq).2
  obtain ⟨g, hg1, hg2⟩ := hg
  refine ⟨_, fun i => if i < L.length then ovs i else ov, by rw [List.length_append]; exact hown, fun t' h' => ?_, fun i t' hi => ?_⟩
  · rcases List.mem_append.1 h' with h | h
    · exact hnm t' h
    · simp only [List.mem_singleton] at h; rw [h]; exact ht
  · by_cases hik : i < L.length
    · rw [List.getElem?_append_left hik] at hi
      obtain ⟨q1, q2⟩ := hm i t' hi
      simp only [if_pos hik]
      refine ⟨fun j u hu => ?_, ?_⟩
      · have hj := (List.getElem?_eq_some_iff.1 hu).1
        rw [tyCells_len] at hj
        rw [List.getElem?_append_left (by omega)]
        exact q1 j u hu
      · have q3 := (q2.go h1).kept h2 (fun k hk h => hk.2.2 h.symm)
        refine q3.mono (fun k hk => ⟨hk.1, by omega, ?_⟩)
        rw [hg1]
        intro e; injection e with e; subst e
        rcases hg2 with h | h
        · exact hk.2.2 h
        · omega
    · have hil := (List.getElem?_eq_some_iff.1 hi).1
      rw [List.length_append, List.length_singleton] at hil
      have : i = L.length := by omega
      subst this
      simp only [if_neg hik]
      have : t' = t := by rw [List.getElem?_append_right (by omega)] at hi; simp at hi; exact hi.symm
      subst this
      refine ⟨fun j u hu => ?_, ?_⟩
      · rw [List.getElem?_append_right (by omega), show L.length * 4 + j - xs.length = j by omega]
        exact hu
      · have q3 := hov.kept h2 (fun k hk h => by have := vlt k h.symm; have := hk.1; omega)
        refine q3.mono (fun k hk => ⟨by have := hk.1; omega, by have := hk.2; omega, ?_⟩)
        rw [hg1]
        intro e; injection e with e; subst e
        rcases hg2 with h | h
        · have := vlt g h; have := hk.1; omega
        · have := hk.2; omega

/-- A row of expressions that the call has made. -/
def ExRow (base : Nat) (w : World) (v : Value) (L : List Ex) : Prop :=
  ∃ (xs : List Value) (ovs xvs : Nat → Value), w.ownsRow base 78 8 v L.length xs ∧ (∀ e ∈ L, e.t.name.size ≤ maxLen ∧ e.s.size ≤ maxLen ∧ (-2147483648 ≤ e.i ∧ e.i ≤ 2147483647)) ∧
    ∀ i e, L[i]? = some e → (∀ j u, (exCells e (ovs i) (xvs i))[j]? = some u → xs[i * 8 + j]? = some u) ∧ TyS (fun k => base ≤ k ∧ k < w.heap.size ∧ v.ownBlock ≠ some k) w (ovs i) e.t.of ∧ ExS (fun k => base ≤ k ∧ k < w.heap.size ∧ v.ownBlock ≠ some k) w (xvs i) e.x
theorem ExRow.nil (base : Nat) (w : World) : ExRow base w (.slice none 0 0) [] :=
  ⟨[], fun _ => .slice none 0 0, fun _ => .slice none 0 0, World.ownsRow_nil _ _ _ _, fun _ h => by simp at h, fun i t h => by simp at h⟩
theorem ExRow.exS {base : Nat} {w : World} {v : Value} {L : List Ex} (h : ExRow base w v L) (hL : L.length * 112 ≤ 140737488355328) : ExS (New base w.heap.size) w v L := by
  obtain ⟨xs, ovs, xvs, h1, hs, h2⟩ := h
  by_cases h0 : 0 < L.length
  · obtain ⟨g, cap, rfl, q1, q2, q3, q4⟩ := ownsRow_shape h1 h0
    refine ExS.mk L _ cap 0 g ovs xvs (fun _ => rfl) (fun h => by simp at h) (fun _ => ⟨q1, q4⟩) hL hs (fun i t hi j u hu => ?_) (fun i t hi => (h2 i t hi).2.1.mono (fun k h => ⟨h.1, h.2.1⟩)) (fun i t hi => (h2 i t hi).2.2.mono (fun k h => ⟨h.1, h.2.1⟩))
    have hj := (List.getElem?_eq_some_iff.1 hu).1
    rw [exCells_len] at hj
    have hil := (List.getElem?_eq_some_iff.1 hi).1
    rw [Nat.zero_add, World.ownsRow.cellAt h1 (i * 8 + j) (by omega)]
    exact (h2 i t hi).1 j u hu
  · have hl : L = [] := List.eq_nil_of_length_eq_zero (by omega)
    subst hl
    rcases h1.2 with ⟨rfl, _⟩ | ⟨g, cap, cur, rfl, hb, _⟩
    · exact ExS.nil _ _
    · exact ExS.mk [] (some ⟨g, 0, none⟩) cap 0 g ovs xvs (fun h => absurd h (by simp)) (fun h => by simp at h) (fun h => absurd h (by simp)) (by simp) (fun _ h => by simp at h) (fun _ _ h => by simp at h) (fun _ _ h => by simp at h) (fun _ _ h => by simp at h)
theorem ExRow.push {base n : Nat} {w w1 w2 : World} {v v' ov xv : Value} {L : List Ex} {xs : List Value} {ovs xvs : Nat → Value} {e : Ex} (hL : L.length = n) (hrow : w.ownsRow base 78 8 v n xs) (hnm : ∀ e ∈ L, e.t.name.size ≤ maxLen ∧ e.s.size ≤ maxLen ∧ (-2147483648 ≤ e.i ∧ e.i ≤ 2147483647))
    (hm : ∀ i e, L[i]? = some e → (∀ j u, (exCells e (ovs i) (xvs i))[j]? = some u → xs[i * 8 + j]? = some u) ∧ TyS (fun k => base ≤ k ∧ k < w.heap.size ∧ v.ownBlock ≠ some k) w (ovs i) e.t.of ∧ ExS (fun k => base ≤ k ∧ k < w.heap.size ∧ v.ownBlock ≠ some k) w (xvs i) e.x)
    (h1 : Only Nil w w1) (hb : base ≤ w.heap.size) (hov : TyS (New w.heap.size w1.heap.size) w1 ov e.t.of) (hxv : ExS (New w.heap.size w1.heap.size) w1 xv e.x) (hown : w2.ownsRow base 78 8 v' (n + 1) (xs ++ exCells e ov xv)) (hg : MovedTo w1 v v') (h2 : Only (Own v.ownBlock) w1 w2)
    (ht : e.t.name.size ≤ maxLen ∧ e.s.size ≤ maxLen ∧ (-2147483648 ≤ e.i ∧ e.i ≤ 2147483647)) : ExRow base w2 v' (L ++ [e]) := by
  subst hL
  have s1 := h1.size
  have s2 := h2.size
  have hxl := ownsRow_len hrow
  have vlt : ∀ q, v.ownBlock = some q → q < w.heap.size := fun q hq => (hrow.lt q hq).2
  obtain ⟨g, hg1, hg2⟩ := hg
  have hU : ∀ k, (base ≤ k ∧ k < w.heap.size ∧ v.ownBlock ≠ some k) → base ≤ k ∧ k < w2.heap.size ∧ v'.ownBlock ≠ some k := fun k hk => ⟨hk.1, by omega, by
    rw [hg1]
    intro e; injection e with e; subst e
    rcases hg2 with h | h
    · exact hk.2.2 h
    · omega⟩
  have hN : ∀ k, New w.heap.size w1.heap.size k → base ≤ k ∧ k < w2.heap.size ∧ v'.ownBlock ≠ some k := fun k hk => ⟨by have := hk.1; omega, by have := hk.2; omega, by
    rw [hg1]
    intro e; injection e with e; subst e
    rcases hg2 with h | h
    · have := vlt g h; have := hk.1; omega
    · have := hk.2; omega⟩
  refine ⟨_, fun i => if i < L.length then ovs i else ov, fun i => if i < L.length then xvs i else xv, by rw [List.length_append]; exact hown, fun t' h' => ?_, fun i t' hi => ?_⟩
  · rcases List.mem_append.1 h' with h | h
    · exact hnm t' h
    · simp only [List.mem_singleton] at h; rw [h]; exact ht
  · by_cases hik : i < L.length
    · rw [List.getElem?_append_left hik] at hi
      obtain ⟨q1, q2, q3⟩ := hm i t' hi
      simp only [if_pos hik]
      refine ⟨fun j u hu => ?_, ?_, ?_⟩
      · have hj := (List.getElem?_eq_some_iff.1 hu).1
        rw [exCells_len] at hj
        rw [List.getElem?_append_left (by omega)]
        exact q1 j u hu
      · exact ((q2.go h1).kept h2 (fun k hk h => hk.2.2 h.symm)).mono hU
      · exact ((q3.go h1).kept h2 (fun k hk h => hk.2.2 h.symm)).mono hU
    · have hil := (List.getElem?_eq_some_iff.1 hi).1
      rw [List.length_append, List.length_singleton] at hil
      have : i = L.length := by omega
      subst this
      simp only [if_neg hik]
      have : t' = e := by rw [List.getElem?_append_right (by omega)] at hi; simp at hi; exact hi.symm
      subst this
      refine ⟨fun j u hu => ?_, ?_, ?_⟩
      · rw [List.getElem?_append_right (by omega), show L.length * 8 + j - xs.length = j by omega]
        exact hu
      · exact (hov.kept h2 (fun k hk h => by have := vlt k h.symm; have := hk.1; omega)).mono hN
      · exact (hxv.kept h2 (fun k hk h => by have := vlt k h.symm; have := hk.1; omega)).mono hN
end Go.Proofs.YtcbeibhmjokecaaDoor
