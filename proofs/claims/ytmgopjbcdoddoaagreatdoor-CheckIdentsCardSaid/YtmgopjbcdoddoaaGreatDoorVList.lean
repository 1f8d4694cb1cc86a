/- The evaluation is right: lists made, appended to. No Go program is imported. -/
import Derived.Test.YtmgopjbcdoddoaaGreatDoorVBuild
import Derived.Deep.AppendSrc
set_option linter.unusedSimpArgs false
set_option linter.unusedVariables false
set_option linter.unnecessarySimpa false
namespace Go.VE
open Go.RowKit

theorem rowsOf_length (s : Nat) : ∀ (n : Nat) (l : List AV), (rowsOf s n l).length = n
  | 0, _ => rfl
  | n + 1, l => by simp [rowsOf, rowsOf_length s n]
theorem rowsOf_get (s : Nat) : ∀ (n : Nat) (l : List AV) (i : Nat), i < n → (rowsOf s n l)[i]? = some ((l.drop (i * s)).take s)
  | 0, _, i, h => by omega
  | n + 1, l, 0, h => by simp [rowsOf]
  | n + 1, l, i + 1, h => by
    simp only [rowsOf, List.getElem?_cons_succ]
    rw [rowsOf_get s n (l.drop s) i (by omega), List.drop_drop, Nat.add_mul]
    congr 3
    omega

/-- Cells that nobody writes again, parted into rows. -/
theorem rows_rr {g : Gh} {s n b : Nat} {cs : List AV} {vs : List Value} (hr : Rl g cs vs) (hl : cs.length = n * s) (o : Nat) (hz : ∀ j u, vs[j]? = some u → g.fz b (o + j) = some u) : Rr g s b (rowsOf s n cs) o :=
  Rr.of fun i r h => by
    have hi : i < n := by
      rcases Nat.lt_or_ge i n with q | q
      · exact q
      · rw [List.getElem?_eq_none (by rw [rowsOf_length]; exact q)] at h; cases h
    rw [rowsOf_get s n cs i hi] at h
    cases h
    have hle : i * s + s ≤ n * s := by rw [← Nat.succ_mul]; exact Nat.mul_le_mul_right _ hi
    refine ⟨by simp; omega, Rc.of fun j a ha => ?_⟩
    rw [List.getElem?_take] at ha
    split at ha
    · rw [List.getElem?_drop] at ha
      obtain ⟨v, hv, rv⟩ := hr.get ha
      exact ⟨v, by rw [Nat.add_assoc]; exact hz _ _ hv, rv⟩
    · cases ha

/-- A new list, in a world that reads as w. -/
theorem newList {g : Gh} {base : Nat} {st st' st2 : St} {w w1 : World} (h : Rw g base st2 w) (he : w1.heap = w.heap) (hb : Below base w w1) {t : Nat} (ht : g.room t = none) (hle : st.le st') (hn1 : st.next ≤ t) (hn2 : t < st'.next)
    {s len cap : Nat} {own : Own} {cs : List AV} {vs0 : List Value} {ty : TypeId} {fr : Nat × Nat} (hfr : ∀ o, o < vs0.length → ¬(fr.1 ≤ o ∧ o < fr.2)) (hr : Rl g cs (vs0.take (len * s))) (h1 : ∀ v ∈ vs0.take (len * s), v.oneCell' = true) (hl : cs.length = len * s) (hc : vs0.length = cap * s) (hlc : len ≤ cap)
    (ho : own = .tok t ∨ own = .unk ∨ (own = .full ∧ cap = len)) :
    ∃ g', Rv g' (.lst s own (rowsOf s len cs)) (.slice (some ⟨w.heap.size, 0, none⟩) len cap) ∧ Rw g' base st2 (w1.alloc (.cells ⟨vs0⟩ ty fr)) ∧ Goes base g st st' w g' (w1.alloc (.cells ⟨vs0⟩ ty fr)) := by
  have h0 := h.same he
  have hs1 : w1.heap.size = w.heap.size := by rw [he]
  have hle2 : len * s ≤ cap * s := Nat.mul_le_mul_right _ hlc
  have hvl : (vs0.take (len * s)).length = len * s := by simp; omega
  obtain ⟨r1, r2⟩ := h0.freeze (t := t) (cs := ⟨vs0⟩) (ty := ty) (fr := fr) hfr (vs0.take (len * s)) (cap * s - len * s) h1 ht (by rw [hvl]) (by rw [hvl]; show len * s + (cap * s - len * s) ≤ vs0.length; omega)
  have hfz : ∀ (j : Nat) (u : Value), (vs0.take (len * s))[j]? = some u → (g.set w1.heap.size (vs0.take (len * s)) t (cap * s - len * s)).fz w.heap.size (0 + j) = some u := fun j u q => by
    show (if w.heap.size = w1.heap.size then (vs0.take (len * s))[0 + j]? else _) = _
    rw [if_pos hs1.symm, Nat.zero_add]; exact q
  refine ⟨_, ?_, r1, ⟨r2, hle, hb.trans ((Below.refl base w1).alloc (by rw [hs1]; exact h.base) _), fun l b q => .inl q, fun u x q => ?_, fun u q => .inl q, fun b o v q => ?_⟩⟩
  · simp only [Rv]
    refine ⟨w.heap.size, 0, cap, by rw [rowsOf_length], by rw [rowsOf_length]; exact hlc, ?_, rows_rr (hr.mono r2 _ _) hl 0 hfz⟩
    rw [rowsOf_length, Nat.zero_add]
    rcases ho with rfl | rfl | ⟨rfl, rfl⟩
    · simp only [OwnOk]
      refine ⟨cap * s - len * s, ?_, by omega⟩
      show (if t = t then some (w1.heap.size, (vs0.take (len * s)).length, cap * s - len * s) else _) = _
      rw [if_pos rfl, hvl, hs1]
    · trivial
    · simp only [OwnOk]
  · change (if u = t then some (w1.heap.size, (vs0.take (len * s)).length, cap * s - len * s) else g.room u) = some x at q
    split at q
    · rename_i e; subst e; exact .inr ⟨hn1, hn2⟩
    · exact .inl q
  · change (if b = w1.heap.size then (vs0.take (len * s))[o]? else g.fz b o) = some v at q
    split at q
    · rename_i e; rw [e, hs1]; exact .inr h.base
    · exact .inl q

theorem next_le {st : St} : st.le ⟨st.heap, st.next + 1, st.spent⟩ := ⟨Nat.le_succ _, fun _ h => h, fun l b h => ⟨b, h, Nat.le_refl _, fun _ => rfl⟩⟩
theorem next_wf {st : St} (wf : st.Wf) : St.Wf ⟨st.heap, st.next + 1, st.spent⟩ := ⟨fun l h => wf.heap l (by have h : st.next + 1 ≤ l := h; omega), fun l h => wf.spent l (by have h : st.next + 1 ≤ l := h; omega)⟩

/-- A new row of elements, whatever makes it. -/
theorem evRow_ok {R : Type} {E : Env} {s : Slots} {st : St} {o : Oper} {e : TypeId} {sz len cap : Nat} {cs : List AV} {k : AV → St → Option R} {r : R} (h : evRow E st e sz len cap cs k = some r) (wf : st.Wf) (hnl : isLoad o = false) (hneed : E.wr e = true → needOf E s st o = some st.next)
    (hlc : len ≤ cap) (hlen : cs.length = (if E.wr e then cap else len) * sz)
    (hrun : ∀ (g : Gh) (a : Act) (w : World) (base : Nat) (st2 : St), (∀ y ∈ o.op.operands, RelO E g s a y) → Rw g base st2 w → ∃ vs ty, Rl g cs (vs.take cs.length) ∧ vs.length = cap * sz ∧ (execOp a.eval o).run E.P w = .ok (.value (.slice (some ⟨w.heap.size, 0, none⟩) len cap)) (w.alloc (.cells ⟨vs⟩ ty))) :
    ∃ v st', NOk E s st o v st' ∧ k v st' = some r := by
  unfold evRow at h
  split at h
  · rename_i hw
    rw [if_pos hw] at hlen
    unfold evNew at h
    split at h
    · rename_i h1
      rw [lay_k, Tr.setK_k] at h
      refine ⟨_, _, ⟨new_le wf _, new_wf wf _, new_same wf _, fun g a w base st2 _ q1 q2 q3 q4 q5 q6 => ?_⟩, h⟩
      obtain ⟨vs, ty, r1, rl, r2⟩ := hrun g a w base st2 q1 q2
      rw [List.take_of_length_le (by omega)] at r1
      have hl : g.rho st.next = none := (q5 st.next (Nat.le_refl _) (Nat.lt_succ_self _)).1
      have hh : st2.heap.get st.next = some (.cells cs.length (layT .e 0 cs) 0) := (q4.other hnl _ (hneed hw)).trans (Tr.get_set_same _ _ _)
      have le := Gh.le_lay (b := w.heap.size) hl
      refine .inl ⟨_, _, r2, g.lay st.next w.heap.size, ?_, ?_, Goes.alloc _ q2.base hl (new_le wf _) rfl⟩
      · simp only [Rv]
        exact ⟨w.heap.size, by show (if st.next = st.next then some w.heap.size else _) = _; rw [if_pos rfl], rfl⟩
      · refine q2.alloc hl hh fun i hi => ?_
        have hc : cs[i]? = some cs[i] := List.getElem?_eq_getElem hi
        obtain ⟨u, hu, ru⟩ := r1.get hc
        refine ⟨cs[i], u, ?_, ?_, World.frozen?_alloc_new _ _ _ _, ru.mono le⟩
        · rw [layT_get, if_pos (by simp; omega)]; simpa using hc
        · rw [World.cell?_alloc_new]; simpa using hu
    · cases h
  · rename_i hw
    rw [if_neg hw] at hlen
    split at h
    · rename_i h1
      refine ⟨_, _, ⟨next_le, next_wf wf, fun _ _ h => h, fun g a w base st2 _ q1 q2 q3 q4 q5 q6 => ?_⟩, h⟩
      obtain ⟨vs, ty, r1, rl, r2⟩ := hrun g a w base st2 q1 q2
      rw [hlen] at r1
      obtain ⟨g', t1, t2, t3⟩ := newList (own := if Nat.beq len cap then .full else .tok st.next) (ty := ty) (fr := (0, 0)) q2 rfl (Below.refl base w) (q5 st.next (Nat.le_refl _) (Nat.lt_succ_self _)).2 (next_le (st := st)) (Nat.le_refl _) (Nat.lt_succ_self _) (by simp) r1 (all_cells h1 r1) hlen rl hlc (by
        split
        · rename_i hb; exact .inr (.inr ⟨rfl, (beq hb).symm⟩)
        · exact .inl rfl)
      exact .inl ⟨_, _, r2, g', t1, t2, t3⟩
    · cases h

theorem times_length {α : Type} (z : List α) : ∀ n, (times z n).length = n * z.length
  | 0 => by simp [times]
  | n + 1 => by simp [times, times_length z n, Nat.add_mul]; omega
theorem times_rl {g : Gh} {z : List AV} {vs : List Value} (h : Rl g z vs) : ∀ n, Rl g (times z n) (times vs n)
  | 0 => Rl.nil
  | n + 1 => h.append (times_rl h n)
theorem times_get (vs : List Value) : ∀ (n i : Nat), i < n * vs.length → (times vs n)[i]? = vs[i % vs.length]?
  | 0, i, h => by simp at h
  | n + 1, i, h => by
    simp only [times]
    by_cases hi : i < vs.length
    · rw [List.getElem?_append_left hi, Nat.mod_eq_of_lt hi]
    · have hm : i % vs.length = (i - vs.length) % vs.length := Nat.mod_eq_sub_mod (by omega)
      rw [List.getElem?_append_right (by omega), times_get vs n (i - vs.length) (by rw [Nat.add_mul, Nat.one_mul] at h; omega), hm]
theorem times_range (z : Array Value) (n : Nat) (hz : 0 < z.size) : (Array.range (n * z.size)).map (fun i => z[i % z.size]!) = ⟨times z.toList n⟩ := by
  apply Array.ext'
  apply List.ext_getElem?
  intro i
  simp only [Array.toList_map, Array.toList_range, List.getElem?_map]
  by_cases hi : i < n * z.size
  · rw [List.getElem?_range hi]
    have := times_get z.toList n i (by simpa using hi)
    rw [this]
    have hm : i % z.size < z.size := Nat.mod_lt _ hz
    simp [hm]
  · rw [List.getElem?_eq_none (by simpa using hi), List.getElem?_eq_none (by rw [times_length]; simpa using hi)]
    rfl

theorem fillA_length {place : Nat → Option (Nat × Nat)} : ∀ {parts : List (Nat × AV)} {cs rs : List AV}, fillA place cs parts = some rs → rs.length = cs.length
  | [], cs, rs, h => by simp only [fillA] at h; cases h; rfl
  | (i, a) :: r, cs, rs, h => by
    simp only [fillA] at h
    split at h
    · rename_i off size _
      split at h
      · rename_i hc
        simp only [Bool.and_eq_true] at hc
        have := ble hc.2
        rw [fillA_length h]
        simp
        omega
      · cases h
    · cases h

theorem evBuildSlice_ok {R : Type} {E : Env} {s : Slots} {st : St} {o : Oper} {t : TypeId} {len : Nat} {ps : Array (Nat × Operand)} (ho : o.op = .buildSlice t len ps) {parts : List (Nat × AV)} {k : AV → St → Option R} {r : R} (h : evBuildSlice E st t len parts k = some r) (wf : st.Wf)
    (hp : ∀ (g : Gh) (a : Act), (∀ y ∈ o.op.operands, RelO E g s a y) → Rp g parts (ps.map fun (i, x) => (i, a.eval x)).toList) :
    ∃ v st', NOk E s st o v st' ∧ k v st' = some r := by
  unfold evBuildSlice at h
  split at h
  · rename_i e hu
    split at h
    · rename_i n z hs hz
      split at h
      · rename_i hc
        simp only [Bool.and_eq_true] at hc
        have hzl := beq hc.1
        have hsm := ble hc.2
        cases hf : fillA (fun i => some (i * (n + 1), n + 1)) (times z len) parts with
        | none => rw [hf] at h; cases h
        | some cs =>
          rw [hf] at h
          have hcl : cs.length = len * (n + 1) := by rw [fillA_length hf, times_length, hzl]
          refine evRow_ok h wf (by unfold isLoad; rw [ho]) (fun hw => by unfold needOf; rw [ho]; simp only [needRow, hu, hw, if_true]) (Nat.le_refl _) (by rw [hcl]; split <;> rfl) fun g a w base st2 q1 q2 => ?_
          obtain ⟨zv, z1, _, z2⟩ := zero_run hz g
          have hzs : zv.cells.size = n + 1 := by have := z2.length; simp at this; omega
          obtain ⟨us, f1, f2⟩ := fill_run hf (hp g a q1) (times_rl z2 len)
          have hul := f2.length
          refine ⟨us, e, by rw [List.take_of_length_le (by omega)]; exact f2, by omega, ?_⟩
          have hrange : (Array.range (len * (n + 1))).map (fun i => zv.cells[i % zv.cells.size]!) = ⟨times zv.cells.toList len⟩ := by
            have := times_range zv.cells len (by omega)
            rwa [hzs] at this ⊢
          have hsm' : ¬ (len * (n + 1) > 2 ^ 24) := Nat.not_lt.2 hsm
          simp only [execOp, ho, Instr.buildSlice, Sem.run_bind, und_run hu, Result.andThen_ok, size_run hs, Sem.run_pure, Sem.run_ite, hsm', ↓reduceIte, if_false]
          by_cases hl0 : len * (n + 1) = 0
          · have hlen0 : len = 0 := by
              rcases Nat.mul_eq_zero.1 hl0 with q | q
              · exact q
              · omega
            subst hlen0
            rw [if_pos hl0]
            try simp only [Sem.run_pure, Result.andThen_ok]
            have e0 : (Array.range (0 * (n + 1))).map (fun i => (#[] : Array Value)[i % (#[] : Array Value).size]!) = ⟨times zv.cells.toList 0⟩ := by simp [times]
            rw [e0, f1]
            simp only [newRow, newObj, Sem.run_bind, Sem.run, Result.andThen_ok, Sem.run_pure]
            rfl
          · rw [if_neg hl0]
            simp only [Sem.run_bind, z1, Result.andThen_ok, Sem.run_pure]
            rw [hrange, f1]
            simp only [newRow, newObj, Sem.run_bind, Sem.run, Result.andThen_ok, Sem.run_pure]
            rfl
      · cases h
    · cases h
  · cases h
end Go.VE
