/- A type, an expression as an argument: what is read of it is a tree in memory. -/
import Derived.Test.YtcbeibhmjokecaaDoorQClone
import Derived.Test.YtcbeibhmjokecaaDoorGTabs
import Derived.SizedLaws
import Derived.ChangeArms
import Derived.DataReads
import Derived.WideShapes
set_option linter.unusedSimpArgs false
set_option linter.unusedVariables false
namespace Go.Proofs.YtcbeibhmjokecaaDoor
open Go.ChangeShapes Go.WideShapes Go.RowKit M

section
variable {H : Type} {enc : TypeId × Value → H} {w : World} {spare : Nat → Bool} {held : Bool}

theorem add_zero' (a : Addr) : a.add 0 = a := by unfold Addr.add; split <;> simp_all
theorem cells_at {a : Addr} {n : Nat} {cs : List Value} {b off k : Nat} (ha : a = ⟨b, off, none⟩) (h : w.cells? 0 (a.add k) n = some cs) : At w b (off + k) cs := by
  subst ha
  obtain ⟨_, hl, hc⟩ := World.cells?_some h
  intro j u hu
  have hj := (List.getElem?_eq_some_iff.1 hu).1
  have := hc j (by omega)
  rw [addr_add, addr_add] at this
  rw [this, hu]
theorem spot_of_cells {a : Addr} {n k : Nat} {cs : List Value} (hn : 0 < n) (hk : k = 0) (h : w.cells? 0 (a.add k) n = some cs) : a.spot = none := by
  subst hk
  obtain ⟨_, hl, hc⟩ := World.cells?_some h
  have := hc 0 hn
  rw [add_zero', add_zero', List.getElem?_eq_getElem (by omega)] at this
  exact spot_of_cell this
/-- All that is weighed is within the reach. -/
def InReach (t : TypeId) (d : DataW H) : Prop := ∀ n ∈ d.weights Tryd.prog t, n ≤ reachBytes
theorem weightsAll_mem {e : TypeId} : ∀ {ds : List (DataW H)} {i : Nat} {d : DataW H}, ds[i]? = some d → ∀ n ∈ d.weights Tryd.prog e, n ∈ DataW.weightsAll Tryd.prog e ds
  | [], _, _, h, _, _ => by simp at h
  | d0 :: ds, 0, d, h, n, hn => by
    simp only [List.getElem?_cons_zero, Option.some.injEq] at h
    subst h
    simp only [DataW.weightsAll, List.mem_append]
    exact Or.inl hn
  | d0 :: ds, i + 1, d, h, n, hn => by
    simp only [List.getElem?_cons_succ] at h
    simp only [DataW.weightsAll, List.mem_append]
    exact Or.inr (weightsAll_mem h n hn)

theorem cT : Tryd.prog.cellsOf 25 = 4 := by kernel_rfl
theorem cE : Tryd.prog.cellsOf 78 = 8 := by kernel_rfl
theorem cInt : Tryd.prog.cellsOf 3 = 1 := by kernel_rfl
theorem cI32 : Tryd.prog.cellsOf 21 = 1 := by kernel_rfl
theorem cStr : Tryd.prog.cellsOf 9 = 1 := by kernel_rfl
theorem cTs : Tryd.prog.cellsOf 23 = 1 := by kernel_rfl
theorem cEs : Tryd.prog.cellsOf 76 = 1 := by kernel_rfl
theorem bT : Tryd.prog.bytesOf 25 = 56 := by kernel_rfl
theorem bE : Tryd.prog.bytesOf 78 = 112 := by kernel_rfl

set_option maxRecDepth 100000 in
theorem ty_of {fuel : Nat} {cs : List Value} {x : DataW H × List MemPlace} (h : DataW.trod enc Tryd.prog w 0 spare held fuel 25 cs = some x) (hw : InReach 25 x.1)
    (hrec : ∀ n, n < fuel → ∀ (c : Value) (y : DataW H × List MemPlace), DataW.trod enc Tryd.prog w 0 spare held n 23 [c] = some y → InReach 23 y.1 → ∃ l, TyS Any w c l) :
    ∃ (t : Ty) (ov : Value), cs = tyCells t ov ∧ t.name.size ≤ maxLen ∧ TyS Any w ov t.of := by
  obtain ⟨xs, n, hfu, hx, hlc, hlx, hg⟩ := DataW.trod_struct Tryd.underlying25 h
  rw [cT] at hlc
  have hlx4 : xs.length = 4 := hlx
  match cs, hlc with
  | [c0, c1, c2, c3], _ =>
    match xs, hlx4 with
    | [y0, y1, y2, y3], _ =>
      have g0 : DataW.trod enc Tryd.prog w 0 spare held n 3 (List.take (Tryd.prog.cellsOf 3) [c0, c1, c2, c3]) = some y0 := hg 0 _ rfl
      have g1 : DataW.trod enc Tryd.prog w 0 spare held n 3 (List.take (Tryd.prog.cellsOf 3) [c1, c2, c3]) = some y1 := hg 1 _ rfl
      have g2 : DataW.trod enc Tryd.prog w 0 spare held n 9 (List.take (Tryd.prog.cellsOf 9) [c2, c3]) = some y2 := hg 2 _ rfl
      have g3 : DataW.trod enc Tryd.prog w 0 spare held n 23 (List.take (Tryd.prog.cellsOf 23) [c3]) = some y3 := hg 3 _ rfl
      simp only [cInt, cStr, cTs, List.take_succ_cons, List.take_zero] at g0 g1 g2 g3
      obtain ⟨f, e0, _, _⟩ := DataW.trod_int Tryd.underlying3 g0
      obtain ⟨m, e1, _, _⟩ := DataW.trod_int Tryd.underlying3 g1
      obtain ⟨s, e2, _, hs⟩ := DataW.trod_string Tryd.underlying9 g2
      have hb : InReach 23 y3.1 := fun q hq => hw q (by
        rw [hx]
        simp only [DataW.weights, Tryd.underlying25, List.map_cons, List.map_nil]
        exact DataW.weights_mem_each (j := 3) rfl rfl q hq)
      obtain ⟨l, hl⟩ := hrec n (by omega) c3 y3 g3 hb
      simp only [List.cons.injEq, and_true] at e0 e1 e2
      subst e0
      subst e1
      subst e2
      exact ⟨.mk f m s l, c3, rfl, hs, hl⟩
theorem tyS_of : ∀ (fuel : Nat) (c : Value) (y : DataW H × List MemPlace), DataW.trod enc Tryd.prog w 0 spare held fuel 23 [c] = some y → InReach 23 y.1 → ∃ l, TyS Any w c l := by
  intro fuel
  induction fuel using Nat.strongRecOn with
  | ind fuel ih =>
    intro c y h hw
    rcases DataW.trod_slice Tryd.underlying23 h with ⟨h0, _⟩ | ⟨a, len, cap, elems, rest, n, hfu, hc, hy, _, hl, hm, hlen, hel, _, _⟩
    · simp only [List.cons.injEq, and_true] at h0
      subst h0
      exact ⟨[], TyS.nil _ _⟩
    · simp only [List.cons.injEq, and_true] at hc
      subst hc
      rw [cT] at hel
      have hbd : (elems.length + rest.length) * 56 ≤ reachBytes := hw _ (by
        rw [hy]
        simp only [DataW.weights, Tryd.underlying23, List.length_map, bT]
        exact List.mem_cons_self)
      have hall : ∀ i, ∃ q : Ty × Value, i < len → (∃ cs, w.cells? 0 (a.add (i * 4)) 4 = some cs ∧ cs = tyCells q.1 q.2) ∧ q.1.name.size ≤ maxLen ∧ TyS Any w q.2 q.1.of := by
        intro i
        by_cases hi : i < len
        · have h1 := hel i hi
          rw [List.getElem?_eq_getElem (by omega)] at h1
          obtain ⟨cs, hcs, htr⟩ := Option.bind_eq_some_iff.1 h1
          have hb : InReach 25 (elems[i]'(by omega)).1 := fun q hq => hw q (by
            rw [hy]
            simp only [DataW.weights, Tryd.underlying23]
            refine List.mem_cons_of_mem _ (List.mem_append_left _ (weightsAll_mem (i := i) (d := (elems[i]'(by omega)).1) ?_ q hq))
            rw [List.getElem?_map, List.getElem?_eq_getElem (by omega)]
            rfl)
          obtain ⟨t, ov, e, hs, ht⟩ := ty_of htr hb (fun k hk c' y' h' => ih k (by omega) c' y' h')
          exact ⟨(t, ov), fun _ => ⟨⟨cs, hcs, e⟩, hs, ht⟩⟩
        · exact ⟨(.mk 0 0 ⟨#[]⟩ [], .slice none 0 0), fun h => absurd h hi⟩
      obtain ⟨F, hF⟩ := Classical.axiomOfChoice hall
      have hL : ((List.range len).map fun i => (F i).1).length = len := by simp
      have hg : ∀ i t, ((List.range len).map fun i => (F i).1)[i]? = some t → i < len ∧ t = (F i).1 := by
        intro i t hi
        have hil := (List.getElem?_eq_some_iff.1 hi).1
        rw [hL] at hil
        refine ⟨hil, ?_⟩
        rw [List.getElem?_map, List.getElem?_range hil] at hi
        simpa using hi.symm
      have ha : 0 < len → ∃ b off, a = ⟨b, off, none⟩ := fun h0 => by
        obtain ⟨⟨cs, hcs, _⟩, _⟩ := hF 0 h0
        have := spot_of_cells (k := 0 * 4) (by decide) (by omega) hcs
        obtain ⟨b, off, sp⟩ := a
        simp only at this
        subst this
        exact ⟨b, off, rfl⟩
      have hab : 0 < len → a = ⟨a.block, a.off, none⟩ := fun h0 => by
        obtain ⟨b, off, e⟩ := ha h0
        rw [e]
      unfold reachBytes at hbd
      have key := TyS.mk (U := Any) (w := w) ((List.range len).map fun i => (F i).1) (some a) cap a.off a.block (fun i => (F i).2) (fun h0 => by rw [hL] at h0; exact congrArg some (hab h0)) (fun h => by cases h) (fun _ => trivial) (by rw [hL]; omega)
        (fun t ht => by
          obtain ⟨i, hi, rfl⟩ := List.mem_map.1 ht
          exact (hF i (List.mem_range.1 hi)).2.1)
        (fun i t hi => by
          obtain ⟨hil, rfl⟩ := hg i t hi
          obtain ⟨⟨cs, hcs, e⟩, _⟩ := hF i hil
          rw [← e]
          exact cells_at (hab (by omega)) hcs)
        (fun i t hi => by
          obtain ⟨hil, rfl⟩ := hg i t hi
          exact (hF i hil).2.2)
      rw [hL] at key
      exact ⟨_, key⟩
set_option maxRecDepth 100000 in
theorem ex_of {fuel : Nat} {cs : List Value} {x : DataW H × List MemPlace} (h : DataW.trod enc Tryd.prog w 0 spare held fuel 78 cs = some x) (hw : InReach 78 x.1)
    (hrec : ∀ n, n < fuel → ∀ (c : Value) (y : DataW H × List MemPlace), DataW.trod enc Tryd.prog w 0 spare held n 76 [c] = some y → InReach 76 y.1 → ∃ l, ExS Any w c l) :
    ∃ (e : Ex) (ov xv : Value), cs = exCells e ov xv ∧ (e.t.name.size ≤ maxLen ∧ e.s.size ≤ maxLen ∧ (-2147483648 ≤ e.i ∧ e.i ≤ 2147483647)) ∧ TyS Any w ov e.t.of ∧ ExS Any w xv e.x := by
  obtain ⟨xs, n, hfu, hx, hlc, hlx, hg⟩ := DataW.trod_struct Tryd.underlying78 h
  rw [cE] at hlc
  have hlx4 : xs.length = 5 := hlx
  match cs, hlc with
  | [c0, c1, c2, c3, c4, c5, c6, c7], _ =>
    match xs, hlx4 with
    | [y0, y1, y2, y3, y4], _ =>
      have g0 : DataW.trod enc Tryd.prog w 0 spare held n 3 (List.take (Tryd.prog.cellsOf 3) [c0, c1, c2, c3, c4, c5, c6, c7]) = some y0 := hg 0 _ rfl
      have g1 : DataW.trod enc Tryd.prog w 0 spare held n 25 (List.take (Tryd.prog.cellsOf 25) [c1, c2, c3, c4, c5, c6, c7]) = some y1 := hg 1 _ rfl
      have g2 : DataW.trod enc Tryd.prog w 0 spare held n 21 (List.take (Tryd.prog.cellsOf 21) [c5, c6, c7]) = some y2 := hg 2 _ rfl
      have g3 : DataW.trod enc Tryd.prog w 0 spare held n 9 (List.take (Tryd.prog.cellsOf 9) [c6, c7]) = some y3 := hg 3 _ rfl
      have g4 : DataW.trod enc Tryd.prog w 0 spare held n 76 (List.take (Tryd.prog.cellsOf 76) [c7]) = some y4 := hg 4 _ rfl
      simp only [cInt, cI32, cT, cStr, cEs, List.take_succ_cons, List.take_zero] at g0 g1 g2 g3 g4
      obtain ⟨o, e0, _, _⟩ := DataW.trod_int Tryd.underlying3 g0
      obtain ⟨v, e2, _, hv⟩ := DataW.trod_int Tryd.underlying21 g2
      obtain ⟨s, e3, _, hs⟩ := DataW.trod_string Tryd.underlying9 g3
      have hb1 : InReach 25 y1.1 := fun q hq => hw q (by
        rw [hx]
        simp only [DataW.weights, Tryd.underlying78, List.map_cons, List.map_nil]
        exact DataW.weights_mem_each (j := 1) rfl rfl q hq)
      have hb4 : InReach 76 y4.1 := fun q hq => hw q (by
        rw [hx]
        simp only [DataW.weights, Tryd.underlying78, List.map_cons, List.map_nil]
        exact DataW.weights_mem_each (j := 4) rfl rfl q hq)
      obtain ⟨t, ov, e1, hn, ht⟩ := ty_of g1 hb1 (fun k _ c' y' h' => tyS_of k c' y' h')
      obtain ⟨l, hl⟩ := hrec n (by omega) c7 y4 g4 hb4
      have hv2 := bounds_i32 hv
      simp only [List.cons.injEq, and_true] at e0 e2 e3
      unfold tyCells at e1
      simp only [List.cons.injEq, and_true] at e1
      obtain ⟨q1, q2, q3, q4⟩ := e1
      subst e0 e2 e3 q1 q2 q3 q4
      exact ⟨.mk o t v s l, _, _, rfl, ⟨hn, hs, hv2⟩, ht, hl⟩
theorem exS_of : ∀ (fuel : Nat) (c : Value) (y : DataW H × List MemPlace), DataW.trod enc Tryd.prog w 0 spare held fuel 76 [c] = some y → InReach 76 y.1 → ∃ l, ExS Any w c l := by
  intro fuel
  induction fuel using Nat.strongRecOn with
  | ind fuel ih =>
    intro c y h hw
    rcases DataW.trod_slice Tryd.underlying76 h with ⟨h0, _⟩ | ⟨a, len, cap, elems, rest, n, hfu, hc, hy, _, hl, hm, hlen, hel, _, _⟩
    · simp only [List.cons.injEq, and_true] at h0
      subst h0
      exact ⟨[], ExS.nil _ _⟩
    · simp only [List.cons.injEq, and_true] at hc
      subst hc
      rw [cE] at hel
      have hbd : (elems.length + rest.length) * 112 ≤ reachBytes := hw _ (by
        rw [hy]
        simp only [DataW.weights, Tryd.underlying76, List.length_map, bE]
        exact List.mem_cons_self)
      have hall : ∀ i, ∃ q : Ex × Value × Value, i < len → (∃ cs, w.cells? 0 (a.add (i * 8)) 8 = some cs ∧ cs = exCells q.1 q.2.1 q.2.2) ∧ (q.1.t.name.size ≤ maxLen ∧ q.1.s.size ≤ maxLen ∧ (-2147483648 ≤ q.1.i ∧ q.1.i ≤ 2147483647)) ∧ TyS Any w q.2.1 q.1.t.of ∧ ExS Any w q.2.2 q.1.x := by
        intro i
        by_cases hi : i < len
        · have h1 := hel i hi
          rw [List.getElem?_eq_getElem (by omega)] at h1
          obtain ⟨cs, hcs, htr⟩ := Option.bind_eq_some_iff.1 h1
          have hb : InReach 78 (elems[i]'(by omega)).1 := fun q hq => hw q (by
            rw [hy]
            simp only [DataW.weights, Tryd.underlying76]
            refine List.mem_cons_of_mem _ (List.mem_append_left _ (weightsAll_mem (i := i) (d := (elems[i]'(by omega)).1) ?_ q hq))
            rw [List.getElem?_map, List.getElem?_eq_getElem (by omega)]
            rfl)
          obtain ⟨t, ov, xv, e, hs, ht, hx⟩ := ex_of htr hb (fun k hk c' y' h' => ih k (by omega) c' y' h')
          exact ⟨(t, ov, xv), fun _ => ⟨⟨cs, hcs, e⟩, hs, ht, hx⟩⟩
        · exact ⟨(.mk 0 (.mk 0 0 ⟨#[]⟩ []) 0 ⟨#[]⟩ [], .slice none 0 0, .slice none 0 0), fun h => absurd h hi⟩
      obtain ⟨F, hF⟩ := Classical.axiomOfChoice hall
      have hL : ((List.range len).map fun i => (F i).1).length = len := by simp
      have hg : ∀ i t, ((List.range len).map fun i => (F i).1)[i]? = some t → i < len ∧ t = (F i).1 := by
        intro i t hi
        have hil := (List.getElem?_eq_some_iff.1 hi).1
        rw [hL] at hil
        refine ⟨hil, ?_⟩
        rw [List.getElem?_map, List.getElem?_range hil] at hi
        simpa using hi.symm
      have hab : 0 < len → a = ⟨a.block, a.off, none⟩ := fun h0 => by
        obtain ⟨⟨cs, hcs, _⟩, _⟩ := hF 0 h0
        have := spot_of_cells (k := 0 * 8) (by decide) (by omega) hcs
        obtain ⟨b, off, sp⟩ := a
        simp only at this
        subst this
        rfl
      unfold reachBytes at hbd
      have key := ExS.mk (U := Any) (w := w) ((List.range len).map fun i => (F i).1) (some a) cap a.off a.block (fun i => (F i).2.1) (fun i => (F i).2.2) (fun h0 => by rw [hL] at h0; exact congrArg some (hab h0)) (fun h => by cases h) (fun _ => trivial) (by rw [hL]; omega)
        (fun t ht => by
          obtain ⟨i, hi, rfl⟩ := List.mem_map.1 ht
          exact (hF i (List.mem_range.1 hi)).2.1)
        (fun i t hi => by
          obtain ⟨hil, rfl⟩ := hg i t hi
          obtain ⟨⟨cs, hcs, e⟩, _⟩ := hF i hil
          rw [← e]
          exact cells_at (hab (by omega)) hcs)
        (fun i t hi => by
          obtain ⟨hil, rfl⟩ := hg i t hi
          exact (hF i hil).2.2.1)
        (fun i t hi => by
          obtain ⟨hil, rfl⟩ := hg i t hi
          exact (hF i hil).2.2.2)
      rw [hL] at key
      exact ⟨_, key⟩
set_option maxRecDepth 100000 in
/-- An argument that is an expression. -/
theorem open_expr {v : Value} {d : DataW H} {p : List MemPlace} {base : Nat} (hv : Value.okWide Tryd.prog w .any base 78 v) (h : DataW.Trod enc Tryd.prog w 0 spare held 78 v d p) (hw : InReach 78 d) :
    ∃ (e : Ex) (ov xv : Value), v = .agg #[.int .i64 e.op, .int .i64 e.t.form, .int .i64 e.t.n, .string e.t.name, ov, .int .i32 e.i, .string e.s, xv] ∧ TyS Any w ov e.t.of ∧ ExS Any w xv e.x := by
  obtain ⟨cs, rfl, hsz⟩ := okWide_struct Tryd.underlying78 hv
  obtain ⟨fuel, hf⟩ := h
  obtain ⟨e, ov, xv, hc, _, ht, hx⟩ := ex_of hf hw (fun k _ c' y' h' => exS_of k c' y' h')
  refine ⟨e, ov, xv, ?_, ht, hx⟩
  have hc2 : cs.toList = exCells e ov xv := by simpa [Value.cells] using hc
  rw [show cs = (exCells e ov xv).toArray by rw [← hc2]]
  rfl
end
end Go.Proofs.YtcbeibhmjokecaaDoor
