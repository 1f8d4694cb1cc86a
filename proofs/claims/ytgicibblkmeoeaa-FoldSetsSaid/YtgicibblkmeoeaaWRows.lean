/- Two rows of elements beside each other, as FoldSets makes them. -/
import Derived.Test.YtgicibblkmeoeaaWKnown
set_option linter.unusedSimpArgs false
set_option linter.unusedVariables false
namespace Go.Proofs.Ytgicibblkmeoeaa
open Go.RowKit M

section
variable {P : Program} {w : World}
/-- 'append(s, x, ..)' of some structs, which the translation lays into a new block of its own first. -/
theorem wpList_append_many {ops : Array Oper} {rest : List Oper} {o : Oper} {a : Act} {Q : Exit → Act → World → Prop} (hgd : o.guard = none) (s x : Operand) (t : TypeId)
    (ho : o.op = .call { callee := .builtin .append, args := #[s, x], argTypes := #[t, t] })
    (base : Nat) (e : TypeId) (i : TypeInfo) (z : Value) (size bytes m : Nat) (ht : P.underlying t = some (.slice e)) (hi : P.info? e = some i) (hz : i.zero = some z)
    (hsize : i.size = size) (hby : i.bytes = bytes) (hzs : z.cells.size = size) (hsz : 0 < size) (hm : 0 < m)
    (v : Value) (n : Nat) (xs : List Value) (hs : a.eval s = v) (hown : w.ownsRow base e size v n xs) (cs : Array Value) (hl : cs.size = m * size) (h1 : ∀ u ∈ cs, u.oneCell' = true)
    (bk : Nat) (hbk : w.heap.size = bk) (hx : a.eval x = .slice (some ⟨bk, 0, none⟩) m m) (h63 : n + m ≤ maxLen) (hbytes : (n + m) * bytes ≤ 140737488355328) (hbase : base ≤ w.heap.size)
    (h : ∀ g cap w', w'.ownsRow base e size (.slice (some ⟨g, 0, none⟩) (n + m) cap) (n + m) (xs ++ cs.toList) → n + m ≤ cap → cap ≤ maxLen →
      (some g = v.ownBlock ∨ w.heap.size ≤ g) → Only (Own v.ownBlock) w w' → wpList P ops Q rest (a.put o.dst (.slice (some ⟨g, 0, none⟩) (n + m) cap)) w') :
    wpList P ops Q (o :: rest) a (w.alloc (.cells cs e)) := by
  subst hbk
  refine wpList_append_row hgd s x t ho base e i z size bytes ht hi hz hsize hby hzs hsz v n xs hs (hown.alloc _) ⟨w.heap.size, 0, none⟩ m m cs.toList hx (by simp [hl]) ?_ (fun u hu => h1 u (by simpa using hu)) hm h63 hbytes (by simp; omega) ?_
  · intro j u hj
    have := (Blk.new w cs e).cell j
    rw [Array.getElem?_toList] at hj
    have e0 : (Addr.add ⟨w.heap.size, 0, none⟩ j) = ⟨w.heap.size, j, none⟩ := by
      simp only [Addr.add, Nat.zero_add]
      split
      · rename_i h; subst h; rfl
      · rfl
    rw [e0, this]; exact hj
  · intro g cap w' h2 h3 h4 h5 h6
    refine h g cap w' h2 h3 h4 (h5.imp id fun h => by simp at h; omega) ?_
    exact ((Only.refl (Own v.ownBlock) w).alloc _).trans h6 (fun _ _ h => h)
end

theorem M.Blk.otherEight {w : World} {b a : Nat} {t : TypeId} {cs : Array Value} (h : Blk w b cs t) (hne : b ≠ a) (v0 v1 v2 v3 v4 v5 v6 v7 : Value) :
    Blk ((((((((w.setCell ⟨a, 0, none⟩ v0).setCell ⟨a, 1, none⟩ v1).setCell ⟨a, 2, none⟩ v2).setCell ⟨a, 3, none⟩ v3).setCell ⟨a, 4, none⟩ v4).setCell ⟨a, 5, none⟩ v5).setCell ⟨a, 6, none⟩ v6).setCell ⟨a, 7, none⟩ v7) b cs t := ((((((((h.setOther ⟨a, 0, none⟩ v0 hne).setOther ⟨a, 1, none⟩ v1 hne).setOther ⟨a, 2, none⟩ v2 hne).setOther ⟨a, 3, none⟩ v3 hne).setOther ⟨a, 4, none⟩ v4 hne).setOther ⟨a, 5, none⟩ v5 hne).setOther ⟨a, 6, none⟩ v6 hne).setOther ⟨a, 7, none⟩ v7 hne)
/-- An element: its kind, its constants. -/
def elemE (op : Int) (cs : List Ex) : Ex := .mk op (.mk 0 0 ⟨#[]⟩ []) 0 ⟨#[]⟩ cs
def flatP (L : List (Ex × Value)) : List Value := L.flatMap fun p => exCells p.1 (.slice none 0 0) p.2
theorem flatP_append (L M : List (Ex × Value)) : flatP (L ++ M) = flatP L ++ flatP M := by simp [flatP]
theorem flatP_get : ∀ (L : List (Ex × Value)) (i : Nat) (p : Ex × Value), L[i]? = some p → ∀ j u, (exCells p.1 (.slice none 0 0) p.2)[j]? = some u → (flatP L)[i * 8 + j]? = some u
  | [], i, p, h, _, _, _ => by simp at h
  | x :: L, 0, p, h, j, u, hu => by
    simp only [List.getElem?_cons_zero, Option.some.injEq] at h
    subst h
    have hj := (List.getElem?_eq_some_iff.1 hu).1
    unfold flatP
    rw [List.flatMap_cons, Nat.zero_mul, Nat.zero_add, List.getElem?_append_left hj]
    exact hu
  | x :: L, i + 1, p, h, j, u, hu => by
    simp only [List.getElem?_cons_succ] at h
    have h2 := flatP_get L i p h j u hu
    unfold flatP at h2 ⊢
    rw [List.flatMap_cons, List.getElem?_append_right (by rw [exCells_len]; omega), exCells_len, show (i + 1) * 8 + j - 8 = i * 8 + j by omega]
    exact h2
/-- What an element is without its list. -/
structure Flat (e : Ex) : Prop where
  of : e.t.of = []
  name : e.t.name.size ≤ maxLen
  s : e.s.size ≤ maxLen
  i : -2147483648 ≤ e.i ∧ e.i ≤ 2147483647
theorem Flat.elem (op : Int) (cs : List Ex) : Flat (elemE op cs) := ⟨rfl, Nat.zero_le _, Nat.zero_le _, by show (-2147483648 : Int) ≤ 0 ∧ (0 : Int) ≤ 2147483647; omega⟩
def Room (base hi : Nat) (v u : Value) : Nat → Prop := fun k => base ≤ k ∧ k < hi ∧ v.ownBlock ≠ some k ∧ u.ownBlock ≠ some k
/-- A row of elements, beside another slice u of the call's own. -/
structure PRow (base : Nat) (w : World) (v u : Value) (L : List (Ex × Value)) : Prop where
  own : w.ownsRow base 27 8 v L.length (flatP L)
  ne : ∀ k, v.ownBlock = some k → u.ownBlock ≠ some k
  el : ∀ p ∈ L, Flat p.1 ∧ ExS (Room base w.heap.size v u) w p.2 p.1.x
theorem PRow.nil (base : Nat) (w : World) (u : Value) : PRow base w (.slice none 0 0) u [] := ⟨World.ownsRow_nil _ _ _ _, fun _ h => (by cases h), fun _ h => (by simp at h)⟩
theorem Room.grow {base a b : Nat} {v u : Value} (h : a ≤ b) : ∀ k, Room base a v u k → Room base b v u k := fun k hk => ⟨hk.1, Nat.lt_of_lt_of_le hk.2.1 h, hk.2.2⟩
/-- What is changed lies below, or is new. -/
theorem PRow.low {C : Nat → Prop} {base : Nat} {w w' : World} {v u : Value} {L : List (Ex × Value)} (h : PRow base w v u L) (ho : Only C w w') (hC : ∀ k, C k → k < base) : PRow base w' v u L :=
  ⟨ownsRow_only h.own ho (fun k hk hc => by have := (h.own.lt k hk).1; have := hC k hc; omega), h.ne, fun p hp => ⟨(h.el p hp).1, ((h.el p hp).2.kept ho (fun k hk hc => by have := hk.1; have := hC k hc; omega)).mono (Room.grow ho.size)⟩⟩
theorem PRow.quiet {base : Nat} {w w' : World} {v u : Value} {L : List (Ex × Value)} (h : PRow base w v u L) (ho : Only Nil w w') : PRow base w' v u L := h.low ho (fun _ h => h.elim)
theorem PRow.push {base n m : Nat} {w w1 w2 : World} {v v' u : Value} {L M : List (Ex × Value)} (h : PRow base w v u L) (hn : L.length = n) (hm : M.length = m) (h1 : Only Nil w w1) (hb : base ≤ w.heap.size)
    (hM : ∀ p ∈ M, Flat p.1 ∧ ExS (New w.heap.size w1.heap.size) w1 p.2 p.1.x) (hown : w2.ownsRow base 27 8 v' (n + m) (flatP L ++ flatP M)) (hg : MovedTo w1 v v') (h2 : Only (Own v.ownBlock) w1 w2)
    (hu : ∀ q, u.ownBlock = some q → q < w.heap.size) : PRow base w2 v' u (L ++ M) := by
  subst hn
  subst hm
  have s1 := h1.size
  have s2 := h2.size
  have vlt : ∀ q, v.ownBlock = some q → q < w.heap.size := fun q hq => (h.own.lt q hq).2
  obtain ⟨g, hg1, hg2⟩ := hg
  have hR : ∀ k, Room base w.heap.size v u k → Room base w2.heap.size v' u k := fun k hk => ⟨hk.1, by have := hk.2.1; omega, by
    rw [hg1]
    intro e; injection e with e; subst e
    rcases hg2 with h | h
    · exact hk.2.2.1 h
    · have := hk.2.1; omega, hk.2.2.2⟩
  have hN : ∀ k, New w.heap.size w1.heap.size k → Room base w2.heap.size v' u k := fun k hk => ⟨by have := hk.1; omega, by have := hk.2; omega, by
    rw [hg1]
    intro e; injection e with e; subst e
    rcases hg2 with h | h
    · have := vlt g h; have := hk.1; omega
    · have := hk.2; omega, fun e => by have := hu k e; have := hk.1; omega⟩
  refine ⟨by rw [List.length_append, flatP_append]; exact hown, fun k hk => ?_, fun p hp => ?_⟩
  · rw [hg1] at hk
    injection hk with hk
    subst hk
    rcases hg2 with h' | h'
    · exact h.ne g h'
    · intro e; have := hu g e; omega
  · rcases List.mem_append.1 hp with h' | h'
    · exact ⟨(h.el p h').1, (((h.el p h').2.go h1).kept h2 (fun k hk hc => hk.2.2.1 hc.symm)).mono hR⟩
    · exact ⟨(hM p h').1, ((hM p h').2.kept h2 (fun k hk hc => by have := vlt k hc.symm; have := hk.1; omega)).mono hN⟩
theorem PRow.other {base : Nat} {w w1 w2 : World} {v v' u : Value} {L : List (Ex × Value)} (h : PRow base w u v L) (h1 : Only Nil w w1) (hg : MovedTo w1 v v') (h2 : Only (Own v.ownBlock) w1 w2) : PRow base w2 u v' L := by
  have s1 := h1.size
  have s2 := h2.size
  obtain ⟨g, hg1, hg2⟩ := hg
  refine ⟨ownsRow_only (ownsRow_only h.own h1 (fun _ _ h => h)) h2 (fun k hk hc => h.ne k hk hc.symm), fun k hk => ?_, fun p hp => ⟨(h.el p hp).1, (((h.el p hp).2.go h1).kept h2 (fun k hk hc => hk.2.2.2 hc.symm)).mono (fun k hk => ⟨hk.1, by have := hk.2.1; omega, hk.2.2.1, ?_⟩)⟩⟩
  · rw [hg1]
    intro e; injection e with e; subst e
    rcases hg2 with h' | h'
    · exact h.ne g hk h'
    · have := (h.own.lt g hk).2; omega
  · rw [hg1]
    intro e; injection e with e; subst e
    rcases hg2 with h' | h'
    · exact hk.2.2.2 h'
    · have := hk.2.1; omega
theorem PRow.exS {base : Nat} {w : World} {v u : Value} {L : List (Ex × Value)} (h : PRow base w v u L) (hL : L.length * 112 ≤ 140737488355328) : ExS Any w v (L.map (·.1)) := by
  have hl : (L.map (·.1)).length = L.length := by simp
  by_cases h0 : 0 < L.length
  · obtain ⟨g, cap, e, q1, q2, q3, q4⟩ := ownsRow_shape h.own h0
    rw [e]
    have hget : ∀ i x, (L.map (·.1))[i]? = some x → ∃ p : Ex × Value, L[i]? = some p ∧ x = p.1 := fun i x hi => by
      rw [List.getElem?_map] at hi
      obtain ⟨p, hp, rfl⟩ := Option.map_eq_some_iff.1 hi
      exact ⟨p, hp, rfl⟩
    have key := ExS.mk (U := Any) (w := w) (L.map (·.1)) (some ⟨g, 0, none⟩) cap 0 g (fun _ => .slice none 0 0) (fun i => (L.getD i (elemE 0 [], .slice none 0 0)).2) (fun _ => rfl) (fun h => by cases h) (fun _ => trivial) (by rw [hl]; exact hL)
      (fun x hx => by
        obtain ⟨p, hp, rfl⟩ := List.mem_map.1 hx
        exact ⟨(h.el p hp).1.name, (h.el p hp).1.s, (h.el p hp).1.i⟩)
      (fun i x hi => by
        obtain ⟨p, hp, rfl⟩ := hget i x hi
        have hil := (List.getElem?_eq_some_iff.1 hp).1
        have e2 : L.getD i (elemE 0 [], .slice none 0 0) = p := by rw [List.getD_eq_getElem?_getD, hp]; rfl
        simp only [e2]
        intro j u hu
        have hj := (List.getElem?_eq_some_iff.1 hu).1
        rw [exCells_len] at hj
        have hown := h.own
        rw [e] at hown
        rw [Nat.zero_add, World.ownsRow.cellAt hown (i * 8 + j) (by omega)]
        exact flatP_get L i p hp j u hu)
      (fun i x hi => by
        obtain ⟨p, hp, rfl⟩ := hget i x hi
        rw [(h.el p (List.mem_of_getElem? hp)).1.of]
        exact TyS.nil _ _)
      (fun i x hi => by
        obtain ⟨p, hp, rfl⟩ := hget i x hi
        have e2 : L.getD i (elemE 0 [], .slice none 0 0) = p := by rw [List.getD_eq_getElem?_getD, hp]; rfl
        simp only [e2]
        exact (h.el p (List.mem_of_getElem? hp)).2.any)
    rw [hl] at key
    exact key
  · have hl0 : L = [] := List.eq_nil_of_length_eq_zero (by omega)
    subst hl0
    rcases h.own.2 with ⟨rfl, _⟩ | ⟨g, cap, cur, rfl, hb, _⟩
    · exact ExS.nil _ _
    · exact ExS.mk [] (some ⟨g, 0, none⟩) cap 0 g (fun _ => .slice none 0 0) (fun _ => .slice none 0 0) (fun h => absurd h (by simp)) (fun h => by simp at h) (fun h => absurd h (by simp)) (by simp) (fun _ h => by simp at h) (fun _ _ h => by simp at h) (fun _ _ h => by simp at h) (fun _ _ h => by simp at h)
/-- A list of one or two constants, made a little while ago. -/
theorem ExS.newConsts {w0 w w' : World} {b cap : Nat} {t : TypeId} (L : List Ex) (hl : ∀ e ∈ L, Leaf e) (hn : L.length * 112 ≤ 140737488355328) (hB : Blk w b (L.flatMap leafC).toArray t) (hb : w0.heap.size ≤ b) (ho : Only Nil w w') : ExS (New w0.heap.size w'.heap.size) w' (.slice (some ⟨b, 0, none⟩) L.length cap) L := by
  have hlt := hB.lt
  have hs := ho.size
  refine (ExS.mk L _ cap 0 b (fun _ => .slice none 0 0) (fun _ => .slice none 0 0) (fun _ => rfl) (fun h => by cases h) (fun _ => ⟨hb, by omega⟩) hn (fun e he => ⟨(hl e he).name, (hl e he).s, (hl e he).i⟩) (fun i e hi j u hu => ?_)
    (fun i e hi => by rw [(hl e (List.mem_of_getElem? hi)).of]; exact TyS.nil _ _) (fun i e hi => by rw [(hl e (List.mem_of_getElem? hi)).x]; exact ExS.nil _ _))
  have hk := hB.kept ho (fun h => h)
  rw [Nat.zero_add, hk.cell, List.getElem?_toArray]
  exact flat8 leafC (fun _ => rfl) L i e hi j u hu
end Go.Proofs.Ytgicibblkmeoeaa
