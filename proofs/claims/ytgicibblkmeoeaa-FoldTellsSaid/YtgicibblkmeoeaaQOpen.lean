/- A type, an expression as an argument: what is read of it is a tree in memory. -/
import Derived.Test.YtgicibblkmeoeaaQClone
import Derived.Test.YtgicibblkmeoeaaGTabs
import Derived.SizedLaws
import Derived.ChangeArms
import Derived.DataReads
import Derived.WideShapes
set_option linter.unusedSimpArgs false
set_option linter.unusedVariables false
namespace Go.Proofs.Ytgicibblkmeoeaa
open Go.ChangeShapes Go.WideShapes Go.RowKit M

section
variable {H : Type} {enc : TypeId × Value → H} {w : World} {spare : Nat → Bool} {held : Bool}

theorem add_zero' (a : Addr) : a.add 0 = a := by unfold Addr.add; split <;> simp_all
theorem cells_at {a : Addr} {n : Nat} {cs : List Value} {b off k : Nat} (ha : a = ⟨b, off, none⟩) (h : w.cells? 0 (a.add k) n = some cs) : At w b (off + k) cs := by
  subst ha
  obtain ⟨_, hl, hc⟩ := World.cells?_some h
  intro j u hu
  have hj := (List.getElem?_eq_some_iff.1 hu).1
  have := hc j (by omega)
  rw [addr_add, addr_add] at this
  rw [this, hu]
theorem spot_of_cells {a : Addr} {n k : Nat} {cs : List Value} (hn : 0 < n) (hk : k = 0) (h : w.cells? 0 (a.add k) n = some cs) : a.spot = none := by
  subst hk
  obtain ⟨_, hl, hc⟩ := World.cells?_some h
  have := hc 0 hn
  rw [add_zero', add_zero', List.getElem?_eq_getElem (by omega)] at this
  exact spot_of_cell this
/-- All that is weighed is within the reach. -/
def InReach (t : TypeId) (d : DataW H) : Prop := ∀ n ∈ d.weights Try.prog t, n ≤ reachBytes
theorem weightsAll_mem {e : TypeId} : ∀ {ds : List (DataW H)} {i : Nat} {d : DataW H}, ds[i]? = some d → ∀ n ∈ d.weights Try.prog e, n ∈ DataW.weightsAll Try.prog e ds
  | [], _, _, h, _, _ => by simp at h
  | d0 :: ds, 0, d, h, n, hn => by
    simp only [List.getElem?_cons_zero, Option.some.injEq] at h
    subst h
    simp only [DataW.weightsAll, List.mem_append]
    exact Or.inl hn
  | d0 :: ds, i + 1, d, h, n, hn => by
    simp only [List.getElem?_cons_succ] at h
    simp only [DataW.weightsAll, List.mem_append]
    exact Or.inr (weightsAll_mem h n hn)

theorem cT : Try.prog.cellsOf 24 = 4 := by kernel_rfl
theorem cE : Try.prog.cellsOf 27 = 8 := by kernel_rfl
theorem cInt : Try.prog.cellsOf 3 = 1 := by kernel_rfl
theorem cI32 : Try.prog.cellsOf 21 = 1 := by kernel_rfl
theorem cStr : Try.prog.cellsOf 9 = 1 := by kernel_rfl
theorem cTs : Try.prog.cellsOf 22 = 1 := by kernel_rfl
theorem cEs : Try.prog.cellsOf 25 = 1 := by kernel_rfl
theorem bT : Try.prog.bytesOf 24 = 56 := by kernel_rfl
theorem bE : Try.prog.bytesOf 27 = 112 := by kernel_rfl

set_option maxRecDepth 100000 in
theorem ty_of {fuel : Nat} {cs : List Value} {x : DataW H × List MemPlace} (h : DataW.trod enc Try.prog w 0 spare held fuel 24 cs = some x) (hw : InReach 24 x.1)
    (hrec : ∀ n, n < fuel → ∀ (c : Value) (y : DataW H × List MemPlace), DataW.trod enc Try.prog w 0 spare held n 22 [c] = some y → InReach 22 y.1 → ∃ l, TyS Any w c l) :
    ∃ (t : Ty) (ov : Value), cs = tyCells t ov ∧ t.name.size ≤ maxLen ∧ TyS Any w ov t.of := by
  obtain ⟨xs, n, hfu, hx, hlc, hlx, hg⟩ := DataW.trod_struct Try.underlying24 h
  rw [cT] at hlc
  have hlx4 : xs.length = 4 := hlx
  match cs, hlc with
  | [c0, c1, c2, c3], _ =>
    match xs, hlx4 with
    | [y0, y1, y2, y3], _ =>
      have g0 : DataW.trod enc Try.prog w 0 spare held n 3 (List.take (Try.prog.cellsOf 3) [c0, c1, c2, c3]) = some y0 := hg 0 _ rfl
      have g1 : DataW.trod enc Try.prog w 0 spare held n 3 (List.take (Try.prog.cellsOf 3) [c1, c2, c3]) = some y1 := hg 1 _ rfl
      have g2 : DataW.trod enc Try.prog w 0 spare held n 9 (List.take (Try.prog.cellsOf 9) [c2, c3]) = some y2 := hg 2 _ rfl
      have g3 : DataW.trod enc Try.prog w 0 spare held n 22 (List.take (Try.prog.cellsOf 22) [c3]) = some y3 := hg 3 _ rfl
      simp only [cInt, cStr, cTs, List.take_succ_cons, List.take_zero] at g0 g1 g2 g3
      obtain ⟨f, e0, _, _⟩ := DataW.trod_int Try.underlying3 g0
      obtain ⟨m, e1, _, _⟩ := DataW.trod_int Try.underlying3 g1
      obtain ⟨s, e2, _, hs⟩ := DataW.trod_string Try.underlying9 g2
      have hb : InReach 22 y3.1 := fun q hq => hw q (by
        rw [hx]
        simp only [DataW.weights, Try.underlying24, List.map_cons, List.map_nil]
        exact DataW.weights_mem_each (j := 3) rfl rfl q hq)
      obtain ⟨l, hl⟩ := hrec n (by omega) c3 y3 g3 hb
      simp only [List.cons.injEq, and_true] at e0 e1 e2
      subst e0
      subst e1
      subst e2
      exact ⟨.mk f m s l, c3, rfl, hs, hl⟩
theorem tyS_of : ∀ (fuel : Nat) (c : Value) (y : DataW H × List MemPlace), DataW.trod enc Try.prog w 0 spare held fuel 22 [c] = some y → InReach 22 y.1 → ∃ l, TyS Any w c l := by
  intro fuel
  induction fuel using Nat.strongRecOn with
  | ind fuel ih =>
    intro c y h hw
    rcases DataW.trod_slice Try.underlying22 h with ⟨h0, _⟩ | ⟨a, len, cap, elems, rest, n, hfu, hc, hy, _, hl, hm, hlen, hel, _, _⟩
    · simp only [List.cons.injEq, and_true] at h0
      subst h0
      exact ⟨[], TyS.nil _ _⟩
    · simp only [List.cons.injEq, and_true] at hc
      subst hc
      rw [cT] at hel
      have hbd : (elems.length + rest.length) * 56 ≤ reachBytes := hw _ (by
        rw [hy]
        simp only [DataW.weights, Try.underlying22, List.length_map, bT]
        exact List.mem_cons_self)
      have hall : ∀ i, ∃ q : Ty × Value, i < len → (∃ cs, w.cells? 0 (a.add (i * 4)) 4 = some cs ∧ cs = tyCells q.1 q.2) ∧ q.1.name.size ≤ maxLen ∧ TyS Any w q.2 q.1.of := by
        intro i
        by_cases hi : i < len
        · have h1 := hel i hi
          rw [List.getElem?_eq_getElem (by omega)] at h1
          obtain ⟨cs, hcs, htr⟩ := Option.bind_eq_some_iff.1 h1
          have hb : InReach 24 (elems[i]'(by omega)).1 := fun q hq => hw q (by
            rw [hy]
            simp only [DataW.weights, Try.underlying22]
            refine List.mem_cons_of_mem _ (List.mem_append_left _ (weightsAll_mem (i := i) (d := (elems[i]'(by omega)).1) ?_ q hq))
            rw [List.getElem?_map, List.getElem?_eq_getElem (by omega)]
            rfl)
          obtain ⟨t, ov, e, hs, ht⟩ := ty_of htr hb (fun k hk c' y' h' => ih k (by omega) c' y' h')
          exact ⟨(t, ov), fun _ => ⟨⟨cs, hcs, e⟩, hs, ht⟩⟩
        · exact ⟨(.mk 0 0 ⟨#[]⟩ [], .slice none 0 0), fun h => absurd h hi⟩
      obtain ⟨F, hF⟩ := Classical.axiomOfChoice hall
      have hL : ((List.range len).map fun i => (F i).1).length = len := by simp
      have hg : ∀ i t, ((List.range len).map fun i => (F i).1)[i]? = some t → i < len ∧ t = (F i).1 := by
        intro i t hi
        have hil := (List.getElem?_eq_some_iff.1 hi).1
        rw [hL] at hil
        refine ⟨hil, ?_⟩
        rw [List.getElem?_map, List.getElem?_range hil] at hi
        simpa using hi.symm
      have ha : 0 < len → ∃ b off, a = ⟨b, off, none⟩ := fun h0 => by
        obtain ⟨⟨cs, hcs, _⟩, _⟩ := hF 0 h0
        have := spot_of_cells (k := 0 * 4) (by decide) (by omega) hcs
        obtain ⟨b, off, sp⟩ := a
        simp only at this
        subst this
        exact ⟨b, off, rfl⟩
      have hab : 0 < len → a = ⟨a.block, a.off, none⟩ := fun h0 => by
        obtain ⟨b, off, e⟩ := ha h0
        rw [e]
      unfold reachBytes at hbd
      have key := TyS.mk (U := Any) (w := w) ((List.range len).map fun i => (F i).1) (some a) cap a.off a.block (fun i => (F i).2) (fun h0 => by rw [hL] at h0; exact congrArg some (hab h0)) (fun h => by cases h) (fun _ => trivial) (by rw [hL]; omega)
        (fun t ht => by
          obtain ⟨i, hi, rfl⟩ := List.mem_map.1 ht
          exact (hF i (List.mem_range.1 hi)).2.1)
        (fun i t hi => by
          obtain ⟨hil, rfl⟩ := hg i t hi
          obtain ⟨⟨cs, hcs, e⟩, _⟩ := hF i hil
          rw [← e]
          exact cells_at (hab (by omega)) hcs)
        (fun i t hi => by
          obtain ⟨hil, rfl⟩ := hg i t hi
          exact (hF i hil).2.2)
      rw [hL] at key
      exact ⟨_, key⟩
set_option maxRecDepth 100000 in
theorem ex_of {fuel : Nat} {cs : List Value} {x : DataW H × List MemPlace} (h : DataW.trod enc Try.prog w 0 spare held fuel 27 cs = some x) (hw : InReach 27 x.1)
    (hrec : ∀ n, n < fuel → ∀ (c : Value) (y : DataW H × List MemPlace), DataW.trod enc Try.prog w 0 spare held n 25 [c] = some y → InReach 25 y.1 → ∃ l, ExS Any w c l) :
    ∃ (e : Ex) (ov xv : Value), cs = exCells e ov xv ∧ (e.t.name.size ≤ maxLen ∧ e.s.size ≤ maxLen ∧ (-2147483648 ≤ e.i ∧ e.i ≤ 2147483647)) ∧ TyS Any w ov e.t.of ∧ ExS Any w xv e.x := by
  obtain ⟨xs, n, hfu, hx, hlc, hlx, hg⟩ := DataW.trod_struct Try.underlying27 h
  rw [cE] at hlc
  have hlx4 : xs.length = 5 := hlx
  match cs, hlc with
  | [c0, c1, c2, c3, c4, c5, c6, c7], _ =>
    match xs, hlx4 with
    | [y0, y1, y2, y3, y4], _ =>
      have g0 : DataW.trod enc Try.prog w 0 spare held n 3 (List.take (Try.prog.cellsOf 3) [c0, c1, c2, c3, c4, c5, c6, c7]) = some y0 := hg 0 _ rfl
      have g1 : DataW.trod enc Try.prog w 0 spare held n 24 (List.take (Try.prog.cellsOf 24) [c1, c2, c3, c4, c5, c6, c7]) = some y1 := hg 1 _ rfl
      have g2 : DataW.trod enc Try.prog w 0 spare held n 21 (List.take (Try.prog.cellsOf 21) [c5, c6, c7]) = some y2 := hg 2 _ rfl
      have g3 : DataW.trod enc Try.prog w 0 spare held n 9 (List.take (Try.prog.cellsOf 9) [c6, c7]) = some y3 := hg 3 _ rfl
      have g4 : DataW.trod enc Try.prog w 0 spare held n 25 (List.take (Try.prog.cellsOf 25) [c7]) = some y4 := hg 4 _ rfl
      simp only [cInt, cI32, cT, cStr, cEs, List.take_succ_cons, List.take_zero] at g0 g1 g2 g3 g4
      obtain ⟨o, e0, _, _⟩ := DataW.trod_int Try.underlying3 g0
      obtain ⟨v, e2, _, hv⟩ := DataW.trod_int Try.underlying21 g2
      obtain ⟨s, e3, _, hs⟩ := DataW.trod_string Try.underlying9 g3
      have hb1 : InReach 24 y1.1 := fun q hq => hw q (by
        rw [hx]
        simp only [DataW.weights, Try.underlying27, List.map_cons, List.map_nil]
        exact DataW.weights_mem_each (j := 1) rfl rfl q hq)
      have hb4 : InReach 25 y4.1 := fun q hq => hw q (by
        rw [hx]
        simp only [DataW.weights, Try.underlying27, List.map_cons, List.map_nil]
        exact DataW.weights_mem_each (j := 4) rfl rfl q hq)
      obtain ⟨t, ov, e1, hn, ht⟩ := ty_of g1 hb1 (fun k _ c' y' h' => tyS_of k c' y' h')
      obtain ⟨l, hl⟩ := hrec n (by omega) c7 y4 g4 hb4
      have hv2 := bounds_i32 hv
      simp only [List.cons.injEq, and_true] at e0 e2 e3
      unfold tyCells at e1
      simp only [List.cons.injEq, and_true] at e1
      obtain ⟨q1, q2, q3, q4⟩ := e1
      subst e0 e2 e3 q1 q2 q3 q4
      exact ⟨.mk o t v s l, _, _, rfl, ⟨hn, hs, hv2⟩, ht, hl⟩
theorem exS_of : ∀ (fuel : Nat) (c : Value) (y : DataW H × List MemPlace), DataW.trod enc Try.prog w 0 spare held fuel 25 [c] = some y → InReach 25 y.1 → ∃ l, ExS Any w c l := by
  intro fuel
  induction fuel using Nat.strongRecOn with
  | ind fuel ih =>
    intro c y h hw
    rcases DataW.trod_slice Try.underlying25 h with ⟨h0, _⟩ | ⟨a, len, cap, elems, rest, n, hfu, hc, hy, _, hl, hm, hlen, hel, _, _⟩
    · simp only [List.cons.injEq, and_true] at h0
      subst h0
      exact ⟨[], ExS.nil _ _⟩
    · simp only [List.cons.injEq, and_true] at hc
      subst hc
      rw [cE] at hel
      have hbd : (elems.length + rest.length) * 112 ≤ reachBytes := hw _ (by
        rw [hy]
        simp only [DataW.weights, Try.underlying25, List.length_map, bE]
        exact List.mem_cons_self)
      have hall : ∀ i, ∃ q : Ex × Value × Value, i < len → (∃ cs, w.cells? 0 (a.add (i * 8)) 8 = some cs ∧ cs = exCells q.1 q.2.1 q.2.2) ∧ (q.1.t.name.size ≤ maxLen ∧ q.1.s.size ≤ maxLen ∧ (-2147483648 ≤ q.1.i ∧ q.1.i ≤ 2147483647)) ∧ TyS Any w q.2.1 q.1.t.of ∧ ExS Any w q.2.2 q.1.x := by
        intro i
        by_cases hi : i < len
        · have h1 := hel i hi
          rw [List.getElem?_eq_getElem (by omega)] at h1
          obtain ⟨cs, hcs, htr⟩ := Option.bind_eq_some_iff.1 h1
          have hb : InReach 27 (elems[i]'(by omega)).1 := fun q hq => hw q (by
            rw [hy]
            simp only [DataW.weights, Try.underlying25]
            refine List.mem_cons_of_mem _ (List.mem_append_left _ (weightsAll_mem (i := i) (d := (elems[i]'(by omega)).1) ?_ q hq))
            rw [List.getElem?_map, List.getElem?_eq_getElem (by omega)]
            rfl)
          obtain ⟨t, ov, xv, e, hs, ht, hx⟩ := ex_of htr hb (fun k hk c' y' h' => ih k (by omega) c' y' h')
          exact ⟨(t, ov, xv), fun _ => ⟨⟨cs, hcs, e⟩, hs, ht, hx⟩⟩
        · exact ⟨(.mk 0 (.mk 0 0 ⟨#[]⟩ []) 0 ⟨#[]⟩ [], .slice none 0 0, .slice none 0 0), fun h => absurd h hi⟩
      obtain ⟨F, hF⟩ := Classical.axiomOfChoice hall
      have hL : ((List.range len).map fun i => (F i).1).length = len := by simp
      have hg : ∀ i t, ((List.range len).map fun i => (F i).1)[i]? = some t → i < len ∧ t = (F i).1 := by
        intro i t hi
        have hil := (List.getElem?_eq_some_iff.1 hi).1
        rw [hL] at hil
        refine ⟨hil, ?_⟩
        rw [List.getElem?_map, List.getElem?_range hil] at hi
        simpa using hi.symm
      have hab : 0 < len → a = ⟨a.block, a.off, none⟩ := fun h0 => by
        obtain ⟨⟨cs, hcs, _⟩, _⟩ := hF 0 h0
        have := spot_of_cells (k := 0 * 8) (by decide) (by omega) hcs
        obtain ⟨b, off, sp⟩ := a
        simp only at this
        subst this
        rfl
      unfold reachBytes at hbd
      have key := ExS.mk (U := Any) (w := w) ((List.range len).map fun i => (F i).1) (some a) cap a.off a.block (fun i => (F i).2.1) (fun i => (F i).2.2) (fun h0 => by rw [hL] at h0; exact congrArg some (hab h0)) (fun h => by cases h) (fun _ => trivial) (by rw [hL]; omega)
        (fun t ht => by
          obtain ⟨i, hi, rfl⟩ := List.mem_map.1 ht
          exact (hF i (List.mem_range.1 hi)).2.1)
        (fun i t hi => by
          obtain ⟨hil, rfl⟩ := hg i t hi
          obtain ⟨⟨cs, hcs, e⟩, _⟩ := hF i hil
          rw [← e]
          exact cells_at (hab (by omega)) hcs)
        (fun i t hi => by
          obtain ⟨hil, rfl⟩ := hg i t hi
          exact (hF i hil).2.2.1)
        (fun i t hi => by
          obtain ⟨hil, rfl⟩ := hg i t hi
          exact (hF i hil).2.2.2)
      rw [hL] at key
      exact ⟨_, key⟩
set_option maxRecDepth 100000 in
/-- An argument that is an expression. -/
theorem open_expr {v : Value} {d : DataW H} {p : List MemPlace} {base : Nat} (hv : Value.okWide Try.prog w .any base 27 v) (h : DataW.Trod enc Try.prog w 0 spare held 27 v d p) (hw : InReach 27 d) :
    ∃ (e : Ex) (ov xv : Value), v = .agg #[.int .i64 e.op, .int .i64 e.t.form, .int .i64 e.t.n, .string e.t.name, ov, .int .i32 e.i, .string e.s, xv] ∧ TyS Any w ov e.t.of ∧ ExS Any w xv e.x := by
  obtain ⟨cs, rfl, hsz⟩ := okWide_struct Try.underlying27 hv
  obtain ⟨fuel, hf⟩ := h
  obtain ⟨e, ov, xv, hc, _, ht, hx⟩ := ex_of hf hw (fun k _ c' y' h' => exS_of k c' y' h')
  refine ⟨e, ov, xv, ?_, ht, hx⟩
  have hc2 : cs.toList = exCells e ov xv := by simpa [Value.cells] using hc
  rw [show cs = (exCells e ov xv).toArray by rw [← hc2]]
  rfl
end
end Go.Proofs.Ytgicibblkmeoeaa
