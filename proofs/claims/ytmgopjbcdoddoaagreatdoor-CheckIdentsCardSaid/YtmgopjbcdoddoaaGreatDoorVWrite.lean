/- The evaluation is right: stores, calls; any operation, one behind the other. No Go program is imported. -/
import Derived.Test.YtmgopjbcdoddoaaGreatDoorVMore
set_option linter.unusedSimpArgs false
set_option linter.unusedVariables false
namespace Go.VE
open Go.RowKit

/-- No name from the next one on stands for anything. -/
def FreshAll (g : Gh) (st : St) : Prop := ∀ l, st.next ≤ l → g.rho l = none ∧ g.room l = none
theorem none_of {α : Type} {x : Option α} (h : ∀ a, x ≠ some a) : x = none := by cases x with | none => rfl | some a => exact absurd rfl (h a)
theorem FreshAll.goes {base : Nat} {g g' : Gh} {st st' : St} {w w' : World} (h : FreshAll g st) (k : Goes base g st st' w g' w') : FreshAll g' st' := fun l hl => by
  have h0 := h l (Nat.le_trans k.mono.next hl)
  exact ⟨none_of fun b q => by
    rcases k.rho l b q with q | ⟨_, q⟩
    · rw [h0.1] at q; cases q
    · omega, none_of fun b q => by
    rcases k.room l b q with q | ⟨_, q⟩
    · rw [h0.2] at q; cases q
    · omega⟩

/-- What an evaluation that goes on comes to. -/
def Post {R : Type} (base : Nat) (g : Gh) (st : St) (w : World) (k : AV → St → Option R) (r : R) (v' : Value) (w' : World) : Prop :=
  ∃ v st' g', Rv g' v v' ∧ Rw g' base st' w' ∧ Goes base g st st' w g' w' ∧ st'.Wf ∧ k v st' = some r

/-- Calls are evaluated rightly. -/
def CallOk {R : Type} (E : Env) (call : CallK R) : Prop :=
  ∀ f args st k r, call f args st k = some r → st.Wf → ∀ g base w vs, GlobOk E g → Rl g args vs → Rw g base st w → FreshAll g st →
    (∀ w, (callFunc f ⟨vs⟩).run E.P w = .ok (.enter f ⟨vs⟩) w) ∧ Calls E.P f ⟨vs⟩ w fun e w' => ∃ v', e = .returned v' ∧ Post base g st w k r v' w'

/-- Calls that may give up are evaluated rightly. -/
def CallPOk {R : Type} (E : Env) (call : CallP R) : Prop :=
  ∀ f args st k kp r, call f args st k kp = some r → st.Wf → ∀ g base w vs, GlobOk E g → Rl g args vs → Rw g base st w → FreshAll g st →
    (∀ w, (callFunc f ⟨vs⟩).run E.P w = .ok (.enter f ⟨vs⟩) w) ∧ Calls E.P f ⟨vs⟩ w fun e w' =>
      (∃ v', e = .returned v' ∧ Post base g st w k r v' w') ∨ (∃ v', e = .panicked [{ v := v', recovered := false }] ∧ Post base g st w kp r v' w')

section
variable {R : Type} {E : Env} {call : CallK R} {s : Slots} {st : St} {o : Oper} {k : AV → St → Option R} {r : R}

theorem store_ok {t : TypeId} {p x : Operand} (ho : o.op = .store t p x) {a b : AV} {n : Nat} (ha : look E s p = some a) (hb : look E s x = some b) (hn : size E t = some n) (h : evStore st n a b (fun st => k (.tup []) st) = some r) (wf : st.Wf)
    {g : Gh} {base : Nat} {ac : Act} {w : World} (hop : ∀ y ∈ o.op.operands, RelO E g s ac y) (hw : Rw g base st w) : Gives E.P o ac w (Post base g st w k r) := by
  have r1 := hop p (by rw [ho]; simp [Op.operands]) a ha
  have r2 := hop x (by rw [ho]; simp [Op.operands]) b hb
  unfold evStore at h
  split at h
  · rename_i l off
    split at h
    · rename_i m t0 ve hl
      split at h
      · rename_i hc
        simp only [Bool.and_eq_true] at hc
        have c1 := beq hc.1
        have c2 := ble hc.2.1
        have c3 := hc.2.2
        rw [lay_k, Tr.setK_k] at h
        simp only [Rv] at r1
        obtain ⟨bl, hbl, e1⟩ := r1
        have rc := cells_rl r2
        have hlen := rc.length
        obtain ⟨k1, k2, ab, k3, k4⟩ := hw.lab l bl hbl
        rw [hl] at k3; cases k3
        have hrun := run_storeCells_cells (P := E.P) bl off (ac.eval x).cells.toList 0 w (fun j hj => by
          obtain ⟨_, y, _, hy, _⟩ := k4 (off + j) (by omega); simp only [Nat.add_zero]; rw [hy]; rfl) (fun j hj => by
          obtain ⟨_, _, _, _, hf, _⟩ := k4 (off + j) (by omega); simpa using hf) (all_cells c3 rc)
        rw [Nat.add_zero] at hrun
        have hsv : (storeVar t ⟨bl, off, none⟩ (ac.eval x)).run E.P w = .ok () (w.setCells bl off (ac.eval x).cells.toList) := by
          have hz : (ac.eval x).cells.size = n := by rw [← c1, hlen]; simp
          simp only [storeVar, Sem.run_bind, size_run hn, Result.andThen_ok, hz, ne_eq, not_true_eq_false, if_false, Sem.run_pure, hrun, ↓reduceIte]
        have hst : ∀ z, (⟨st.heap.set l (.cells m (layT t0 off b.cells) (ve + 1)), st.next, st.spent⟩ : St).heap.get z = if z = l then some (.cells m (layT t0 off b.cells) (ve + 1)) else st.heap.get z := fun z => Tr.get_set _ _ _ _
        have hrw := hw.store hbl hl off b.cells _ rc (by omega) (t' := layT t0 off b.cells) (st' := ⟨st.heap.set l (.cells m (layT t0 off b.cells) (ve + 1)), st.next, st.spent⟩) (vf := ve + 1) (fun i => by rw [layT_get]) hst (fun _ h => h)
        refine .inr (.inl ⟨_, by simp only [execOp, ho, Instr.storeAt, e1, Instr.sureAddr, Sem.run_bind, Sem.run_pure, Result.andThen_ok, hsv], _, _, g, ?_, hrw, ⟨.refl g, ⟨Nat.le_refl _, fun _ h => h, fun z ab hz => ?_⟩, setCells_below k1 _ _ _, fun _ _ q => .inl q, fun _ _ q => .inl q, fun _ q => .inl q, fun _ _ _ q => .inl q⟩, ⟨fun z hz => ?_, wf.spent⟩, h⟩)
        · simp only [Rv, undef]; exact ⟨[], rfl, Rl.nil⟩
        · rw [hst]
          by_cases e : z = l
          · subst e
            rw [hl] at hz; cases hz
            exact ⟨_, if_pos rfl, by simp [AB.ver], fun q => by simp [AB.ver] at q⟩
          · rw [if_neg e]; exact ⟨ab, hz, Nat.le_refl _, fun _ => rfl⟩
        · rw [hst, if_neg (fun e => by rw [e] at hz; have := wf.heap l hz; rw [hl] at this; cases this)]
          exact wf.heap z hz
      · cases h
    · cases h
  · cases h

theorem update_ok {t : TypeId} {m i x : Operand} (ho : o.op = .mapUpdate t m i x ∨ o.op = .insert t m i x) {a b c : AV} (ha : look E s m = some a) (hb : look E s i = some b) (hc : look E s x = some c) (h : evUpdate E st t a b c (fun st => k (.tup []) st) = some r) (wf : st.Wf)
    {g : Gh} {base : Nat} {ac : Act} {w : World} (hop : ∀ y ∈ o.op.operands, RelO E g s ac y) (hw : Rw g base st w) : Gives E.P o ac w (Post base g st w k r) := by
  have r1 := hop m (by rcases ho with ho | ho <;> rw [ho] <;> simp [Op.operands]) a ha
  have r2 := hop i (by rcases ho with ho | ho <;> rw [ho] <;> simp [Op.operands]) b hb
  have r3 := hop x (by rcases ho with ho | ho <;> rw [ho] <;> simp [Op.operands]) c hc
  have hex : ∀ w', (Instr.mapUpdate t (ac.eval m) (ac.eval i) (ac.eval x)).run E.P w = .ok () w' → (execOp ac.eval o).run E.P w = .ok .skip w' := fun w' q => by
    rcases ho with ho | ho <;> simp only [execOp, ho, Sem.run_bind, q, Result.andThen_ok, Sem.run_pure]
  unfold evUpdate at h
  split at h
  · rename_i l d hkd
    split at h
    · rename_i hk
      split at h
      · rename_i es ve hl
        split at h
        · rename_i es' hp
          rw [Tr.setK_k] at h
          obtain ⟨kt, e, hu, hd⟩ : ∃ kt e, E.P.underlying t = some (.map kt e) ∧ E.P.underlying kt = some d := by
            unfold keyDesc at hkd
            split at hkd
            · rename_i kt e hu; exact ⟨kt, e, hu, hkd⟩
            · cases hkd
          simp only [Rv] at r1
          obtain ⟨bl, hbl, e1⟩ := r1
          obtain ⟨k1, k2, ab, k3, k4⟩ := hw.lab l bl hbl
          rw [hl] at k3; cases k3
          obtain ⟨ents, clock, p1, p2⟩ := k4
          have hkey := key_of hk r2
          obtain ⟨ents', clock', hrun, hrm⟩ : ∃ ents' clock', (Instr.mapUpdate t (ac.eval m) (ac.eval i) (ac.eval x)).run E.P w = .ok () { w with heap := w.heap.setIfInBounds bl (.map ents' clock') } ∧ Rm g es' ents'.toList := by
            rw [e1]
            rcases put_run hk r2 r3 es ents.toList 0 es' p2 hp with ⟨h1, h2⟩ | ⟨j, e, h1, h2, h3, h4⟩
            · refine ⟨_, clock + 1, ?_, by rw [Array.toList_push]; exact h2 clock⟩
              simp [Instr.mapUpdate, und_run hu, MapKept.run_getObj_map p1, MapKept.run_checkKey hd hkey, MapKept.run_findKey hd h1, MapKept.run_setObj_map _ p1, Result.andThen]
            · have hj : ents[j]? = some e := by simpa using h2
              refine ⟨_, clock, ?_, by rw [Array.toList_modify]; exact h4⟩
              simp [Instr.mapUpdate, und_run hu, MapKept.run_getObj_map p1, MapKept.run_checkKey hd hkey, MapKept.run_findKey hd h1, hj, h3, MapKept.run_keyThatStays hkey, MapKept.run_setObj_map _ p1, Result.andThen]
          have hst : ∀ z, (⟨st.heap.set l (.map es' (ve + 1)), st.next, st.spent⟩ : St).heap.get z = if z = l then some (.map es' (ve + 1)) else st.heap.get z := fun z => Tr.get_set _ _ _ _
          have hrw := hw.mapset (hlive := fun v q => by rw [hl] at q; cases q) (st' := ⟨st.heap.set l (.map es' (ve + 1)), st.next, st.spent⟩) (clock := clock') (vf := ve + 1) hbl hrm ⟨_, _, p1⟩ hst (fun _ h => h)
          refine .inr (.inl ⟨_, hex _ hrun, _, _, g, ?_, hrw, ⟨.refl g, ⟨Nat.le_refl _, fun _ h => h, fun z ab hz => ?_⟩, ?_, fun _ _ q => .inl q, fun _ _ q => .inl q, fun _ q => .inl q, fun _ _ _ q => .inl q⟩, ⟨fun z hz => ?_, wf.spent⟩, h⟩)
          · simp only [Rv, undef]; exact ⟨[], rfl, Rl.nil⟩
          · rw [hst]
            by_cases e : z = l
            · subst e
              rw [hl] at hz; cases hz
              exact ⟨_, if_pos rfl, by simp [AB.ver], fun q => by simp [AB.ver] at q⟩
            · rw [if_neg e]; exact ⟨ab, hz, Nat.le_refl _, fun _ => rfl⟩
          · exact ⟨rfl, rfl, rfl, by simp, fun z hz => by
              show (w.heap.setIfInBounds bl _)[z]? = w.heap[z]?
              rw [Array.getElem?_setIfInBounds, if_neg (by omega)]⟩
          · rw [hst, if_neg (fun e => by rw [e] at hz; have := wf.heap l hz; rw [hl] at this; cases this)]
            exact wf.heap z hz
        · cases h
      · cases h
    · cases h
  · cases h

/-- Carried out at once. -/
theorem NOk.now {v : AV} {st' : St} (hN : NOk E s st o v st') (hk : k v st' = some r) {g : Gh} {base : Nat} {ac : Act} {w : World} (hE : g.val = E.val) (hop : ∀ y ∈ o.op.operands, RelO E g s ac y) (hw : Rw g base st w) (hf : FreshAll g st) : Gives E.P o ac w (Post base g st w k r) := by
  have hw' : Rw g base st' w := hw.st (fun l b q => by
    obtain ⟨_, _, ab, q1, _⟩ := hw.lab l b q
    rw [hN.same l ab q1, q1]) hN.le.spent
  refine (hN.late g ac w base st' hE hop hw' (.refl st') .refl (fun l h1 _ => hf l h1) (fun t h1 _ hd => by rw [hw.spent t hd] at h1; cases h1)).mono ?_
  rintro v' w' ⟨g', p1, p2, p3⟩
  exact ⟨v, st', g', p1, p2, p3, hN.wf, hk⟩

/-- An append. -/
theorem append_ok {c : Call} (ho : o.op = .call c) (hb : c.callee = .builtin .append) {args : List AV} (ha : mapO (look E s) c.args.toList = some args) (h : evBuiltin E st o.dst c .append args (fun _ => opOther E s st o k) k = some r) (wf : st.Wf)
    {g : Gh} {base : Nat} {ac : Act} {w : World} (hg : GlobOk E g) (hop : ∀ y ∈ o.op.operands, RelO E g s ac y) (hw : Rw g base st w) (hfr : FreshAll g st) : Gives E.P o ac w (Post base g st w k r) := by
  unfold evBuiltin at h
  split at h
  · rename_i x y
    split at h
    · rename_i t tx ht htx
      obtain ⟨l1, l2⟩ := mapO_get ha
      obtain ⟨ox, oy, e⟩ : ∃ ox oy, c.args.toList = [ox, oy] := by
        have hl : c.args.toList.length = 2 := l1
        match hh : c.args.toList, hl with
        | [p, q], _ => exact ⟨p, q, rfl⟩
      have e2 : c.args = #[ox, oy] := by rw [← Array.toArray_toList (xs := c.args), e]
      obtain ⟨b1, f1, g1⟩ := l2 0 ox (by rw [e]; rfl)
      obtain ⟨b2, f2, g2⟩ := l2 1 oy (by rw [e]; rfl)
      simp at g1 g2
      subst g1; subst g2
      have hmem : ox ∈ o.op.operands ∧ oy ∈ o.op.operands := by rw [ho]; simp [Op.operands, Call.operands, hb, e2]
      have app : Builtin.append_ c.argTypes o.type #[ac.eval ox, ac.eval oy] = Builtin.append_ #[t, tx] o.type #[ac.eval ox, ac.eval oy] := by
        simp only [Builtin.append_, ht, htx]
        rfl
      have em : (#[ox, oy] : Array Operand).map ac.eval = #[ac.eval ox, ac.eval oy] := by simp
      have fin : (∃ v v' st' g' w', (Builtin.append_ #[t, tx] o.type #[ac.eval ox, ac.eval oy]).run E.P w = .ok v' w' ∧ Rv g' v v' ∧ Rw g' base st' w' ∧ Goes base g st st' w g' w' ∧ st'.Wf ∧ k v st' = some r) → Gives E.P o ac w (Post base g st w k r) := by
        rintro ⟨v, v', st', g', w', q1, q2, q3, q4, q5, q6⟩
        refine .inl ⟨v', w', ?_, v, st', g', q2, q3, q4, q5, q6⟩
        simp only [execOp, ho, resolve, hb, e2, em, Sem.run_bind, Sem.run_pure, Result.andThen_ok, invoke, builtin, app, q1]
      split at h
      · exact fin (evMore_run h wf hw (hfr st.next (Nat.le_refl _)).1 (hop ox hmem.1 _ f1) (hop oy hmem.2 _ f2) o.type)
      · exact fin (evAppend_run h wf hw hfr (hop ox hmem.1 _ f1) (hop oy hmem.2 _ f2) o.type)
    · cases h
  · rename_i x hn; cases hn
  · rename_i x hn; cases hn
  · rename_i x hn; cases hn
  · unfold opOther at h
    split at h
    · rename_i v hv
      obtain ⟨v, st', hN, hk⟩ := pure_ok wf hv h
      exact hN.now hk hg.val hop hw hfr
    · cases h

/-- The elements of a slice are cleared. -/
theorem clear_ok {c : Call} (ho : o.op = .call c) (hb : c.callee = .builtin .clear) {x : AV} (ha : mapO (look E s) c.args.toList = some [x]) {t : TypeId} (ht : c.argTypes[0]? = some t) (h : evClear E st t x k = some r) (wf : st.Wf)
    {g : Gh} {base : Nat} {ac : Act} {w : World} (hop : ∀ y ∈ o.op.operands, RelO E g s ac y) (hw : Rw g base st w) : Gives E.P o ac w (Post base g st w k r) := by
  have hr := Rl_of (a := ac) ha fun y hy => hop y (by rw [ho]; simp [Op.operands, Call.operands, hb]; simpa using hy)
  simp only [Rl] at hr
  obtain ⟨v, rest, e, hv, e2⟩ := hr
  subst e2
  have e3 : c.args.map ac.eval = #[v] := by apply Array.ext'; rw [Array.toList_map, e]
  -- the slice
  have hsl : ∀ {l off n : Nat}, clearAt x = some (l, off, n) → ∃ b cap, g.rho l = some b ∧ v = .slice (some ⟨b, off, none⟩) n cap := fun {l off n} hc => by
    unfold clearAt at hc
    split at hc
    · cases hc; simp only [Rv] at hv; obtain ⟨b, q1, q2⟩ := hv; exact ⟨b, _, q1, q2⟩
    · cases hc; simp only [Rv] at hv; obtain ⟨b, cap, q1, q2, _⟩ := hv; exact ⟨b, cap, q1, q2⟩
    · cases hc; simp only [Rv] at hv; obtain ⟨b, cap, q1, q2, _⟩ := hv; exact ⟨b, cap, q1, q2⟩
    · cases hc
  have hex : ∀ w', (Builtin.clear_ c.argTypes o.type #[v]).run E.P w = .ok (.tuple #[]) w' → (execOp ac.eval o).run E.P w = .ok (.value (.tuple #[])) w' := fun w' q => by
    simp only [execOp, ho, resolve, hb, e3, Sem.run_bind, Sem.run_pure, Result.andThen_ok, invoke, builtin, q]
  have hrv : Rv g (.tup []) (.tuple #[]) := by simp only [Rv]; exact ⟨[], rfl, Rl.nil⟩
  unfold evClear at h
  split at h
  · rename_i el l off n hu hc
    obtain ⟨b, cap, hb', rfl⟩ := hsl hc
    split at h
    · rename_i sz z hs hz
      split at h
      · rename_i hzl
        have hzl := beq hzl
        simp only [evStore] at h
        have hget : True := trivial
        · split at h
          · rename_i m t0 ve hl
            split at h
            · rename_i hcond
              simp only [Bool.and_eq_true] at hcond
              have c2 := ble hcond.2.1
              have c3 : allOne (times z (n + 1)) = true := hcond.2.2
              rw [lay_k, Tr.setK_k] at h
              obtain ⟨zv, z1, z1', z2⟩ := zero_run hz g
              have hzs : zv.cells.size = sz + 1 := by have := z2.length; simp at this; omega
              have htl : (times z (n + 1)).length = (n + 1) * (sz + 1) := by rw [times_length, hzl]
              have hzc : Builtin.zeroCells zv.cells (n + 1) = ⟨times zv.cells.toList (n + 1)⟩ := times_range zv.cells (n + 1) (by omega)
              have hrl : Rl g (times z (n + 1)) (Builtin.zeroCells zv.cells (n + 1)).toList := by rw [hzc]; exact times_rl z2 (n + 1)
              obtain ⟨k1, k2, ab, k3, k4⟩ := hw.lab l b hb'
              rw [hl] at k3; cases k3
              have hlen := hrl.length
              have hst0 := run_storeCells_cells (P := E.P) b off (Builtin.zeroCells zv.cells (n + 1)).toList 0 w (fun j hj => by
                obtain ⟨_, y, _, hy, _⟩ := k4 (off + j) (by omega); simp only [Nat.add_zero]; rw [hy]; rfl) (fun j hj => by
                obtain ⟨_, _, _, _, hf, _⟩ := k4 (off + j) (by omega); simpa using hf) (all_cells c3 hrl)
              rw [Nat.add_zero] at hst0
              have hrun : (Builtin.clear_ c.argTypes o.type #[.slice (some ⟨b, off, none⟩) (n + 1) cap]).run E.P w = .ok (.tuple #[]) (w.setCells b off (Builtin.zeroCells zv.cells (n + 1)).toList) := by
                simp only [Builtin.clear_, ht, List.getElem?_toArray, List.getElem?_cons_zero, Sem.run_bind, und_run hu, Result.andThen_ok, z1, hst0, Sem.run_pure, Nat.add_zero]
              have hst : ∀ z', (⟨st.heap.set l (.cells m (layT t0 off (times z (n + 1))) (ve + 1)), st.next, st.spent⟩ : St).heap.get z' = if z' = l then some (.cells m (layT t0 off (times z (n + 1))) (ve + 1)) else st.heap.get z' := fun z' => Tr.get_set _ _ _ _
              have hrw := hw.store hb' hl off (times z (n + 1)) _ hrl (by omega) (t' := layT t0 off (times z (n + 1))) (st' := ⟨st.heap.set l (.cells m (layT t0 off (times z (n + 1))) (ve + 1)), st.next, st.spent⟩) (vf := ve + 1) (fun i => by rw [layT_get]) hst (fun _ h => h)
              refine .inl ⟨_, _, hex _ hrun, _, _, g, hrv, hrw, ⟨.refl g, ⟨Nat.le_refl _, fun _ h => h, fun z' ab hz' => ?_⟩, setCells_below k1 _ _ _, fun _ _ q => .inl q, fun _ _ q => .inl q, fun _ q => .inl q, fun _ _ _ q => .inl q⟩, ⟨fun z' hz' => ?_, wf.spent⟩, h⟩
              · rw [hst]
                by_cases e : z' = l
                · subst e
                  rw [hl] at hz'; cases hz'
                  exact ⟨_, if_pos rfl, by simp [AB.ver], fun q => by simp [AB.ver] at q⟩
                · rw [if_neg e]; exact ⟨ab, hz', Nat.le_refl _, fun _ => rfl⟩
              · rw [hst, if_neg (fun e => by rw [e] at hz'; have := wf.heap l hz'; rw [hl] at this; cases this)]
                exact wf.heap z' hz'
            · cases h
          · cases h
      · cases h
    · cases h
  · rename_i el l off hu hc
    obtain ⟨b, cap, hb', rfl⟩ := hsl hc
    refine .inl ⟨_, w, hex _ ?_, _, _, g, hrv, hw, Goes.refl base g st w, wf, h⟩
    simp only [Builtin.clear_, ht, List.getElem?_toArray, List.getElem?_cons_zero, Sem.run_bind, und_run hu, Result.andThen_ok, Sem.run_pure]
  · cases h

/-- Rows are copied. -/
theorem copy_ok {c : Call} (ho : o.op = .call c) (hb : c.callee = .builtin .copy) {x y : AV} (ha : mapO (look E s) c.args.toList = some [x, y]) {t tx : TypeId} (ht : c.argTypes[0]? = some t) (htx : c.argTypes[1]? = some tx) (h : evCopy E st t tx x y k = some r) (wf : st.Wf)
    {g : Gh} {base : Nat} {ac : Act} {w : World} (hop : ∀ y ∈ o.op.operands, RelO E g s ac y) (hw : Rw g base st w) : Gives E.P o ac w (Post base g st w k r) := by
  have hr := Rl_of (a := ac) ha fun y hy => hop y (by rw [ho]; simp [Op.operands, Call.operands, hb]; simpa using hy)
  simp only [Rl] at hr
  obtain ⟨v1, rest, e, hv1, v2, rest2, e2, hv2, e3⟩ := hr
  subst e3; subst e2
  have e4 : c.args.map ac.eval = #[v1, v2] := by apply Array.ext'; rw [Array.toList_map, e]
  unfold evCopy at h
  split at h
  · rename_i el el2 l off n hu hu2 hc
    obtain ⟨b, cap, hb', rfl⟩ : ∃ b cap, g.rho l = some b ∧ v1 = .slice (some ⟨b, off, none⟩) n cap := by
      unfold clearAt at hc
      split at hc
      · cases hc; simp only [Rv] at hv1; obtain ⟨b, q1, q2⟩ := hv1; exact ⟨b, _, q1, q2⟩
      · cases hc; simp only [Rv] at hv1; obtain ⟨b, cap, q1, q2, _⟩ := hv1; exact ⟨b, cap, q1, q2⟩
      · cases hc; simp only [Rv] at hv1; obtain ⟨b, cap, q1, q2, _⟩ := hv1; exact ⟨b, cap, q1, q2⟩
      · cases hc
    split at h
    · rename_i sz hs hsrc
      split at h
      · rename_i rs hrs
        obtain ⟨hlens, hcells⟩ := rowsM_cells hrs hsrc hw hv2
        have hflat := take_flatten rs n hlens
        simp only [evStore] at h
        split at h
        · rename_i m t0 ve hl
          split at h
          · rename_i hcond
            simp only [Bool.and_eq_true] at hcond
            have c1 : (rs.take n).flatten.length = (rs.take n).length * (sz + 1) := flat_length (fun r hr => hlens r (List.mem_of_mem_take hr))
            have c2 := ble hcond.2.1
            rw [lay_k, Tr.setK_k] at h
            obtain ⟨k1, k2, ab, k3, k4⟩ := hw.lab l b hb'
            rw [hl] at k3; cases k3
            -- what is stored
            obtain ⟨vs, hrl, hone, hlen, hfirst⟩ : ∃ vs, Rl g (rs.take n).flatten vs ∧ (∀ u ∈ vs, u.oneCell' = true) ∧ (Builtin.lenOf v2).run E.P w = .ok rs.length w ∧ (Builtin.firstCells (sz + 1) (Nat.min rs.length n) v2).run E.P w = .ok vs.toArray w := by
              rcases hcells with ⟨rfl, rfl⟩ | ⟨b2, o2, c3, vs, rfl, z1, z2, z3⟩
              · exact ⟨[], (by simpa using Rl.nil), (fun u hu => by cases hu), rfl, rfl⟩
              · refine ⟨vs.take ((rs.take n).length * (sz + 1)), by rw [hflat]; exact z1.take _, fun u hu => z3 u (List.mem_of_mem_take hu), rfl, ?_⟩
                have hvl : vs.length = rs.length * (sz + 1) := by rw [← z1.length, flat_length hlens]
                have hmin : (rs.take n).length = Nat.min rs.length n := by rw [List.length_take]; exact Nat.min_comm _ _
                rw [hmin]
                refine run_firstCells_some (P := E.P) w (sz + 1) (Nat.min rs.length n) ⟨b2, o2, none⟩ rs.length c3 _ ?_ fun j u hu => ?_
                · rw [List.length_take, hvl]
                  exact Nat.min_eq_left (Nat.mul_le_mul_right _ (Nat.min_le_left _ _))
                · rw [addr_add]
                  rw [List.getElem?_take] at hu
                  split at hu
                  · exact z2 j u hu
                  · cases hu
            have hvlen := hrl.length
            have hst0 := run_storeCells_cells (P := E.P) b off vs 0 w (fun j hj => by
              obtain ⟨_, y, _, hy, _⟩ := k4 (off + j) (by omega); simp only [Nat.add_zero]; rw [hy]; rfl) (fun j hj => by
              obtain ⟨_, _, _, _, hf, _⟩ := k4 (off + j) (by omega); simpa using hf) hone
            rw [Nat.add_zero] at hst0
            have hrun : (Builtin.copy_ c.argTypes o.type #[.slice (some ⟨b, off, none⟩) n cap, v2]).run E.P w = .ok (goInt (Nat.min rs.length n)) (w.setCells b off vs) := by
              simp only [Builtin.copy_, ht, List.getElem?_toArray, List.getElem?_cons_zero, List.getElem?_cons_succ, Sem.run_bind, und_run hu, Result.andThen_ok, hlen, size_run hs, hfirst, hst0, Sem.run_pure, Nat.add_zero]
            have hst : ∀ z', (⟨st.heap.set l (.cells m (layT t0 off (rs.take n).flatten) (ve + 1)), st.next, st.spent⟩ : St).heap.get z' = if z' = l then some (.cells m (layT t0 off (rs.take n).flatten) (ve + 1)) else st.heap.get z' := fun z' => Tr.get_set _ _ _ _
            have hrw := hw.store hb' hl off (rs.take n).flatten _ hrl (by omega) (t' := layT t0 off (rs.take n).flatten) (st' := ⟨st.heap.set l (.cells m (layT t0 off (rs.take n).flatten) (ve + 1)), st.next, st.spent⟩) (vf := ve + 1) (fun i => by rw [layT_get]) hst (fun _ h => h)
            have hmin : (rs.take n).length = Nat.min rs.length n := by rw [List.length_take]; exact Nat.min_comm _ _
            refine .inl ⟨goInt (Nat.min rs.length n), _, by simp only [execOp, ho, resolve, hb, e4, Sem.run_bind, Sem.run_pure, Result.andThen_ok, invoke, builtin, hrun], _, _, g, ?_, hrw, ⟨.refl g, ⟨Nat.le_refl _, fun _ h => h, fun z' ab hz' => ?_⟩, setCells_below k1 _ _ _, fun _ _ q => .inl q, fun _ _ q => .inl q, fun _ q => .inl q, fun _ _ _ q => .inl q⟩, ⟨fun z' hz' => ?_, wf.spent⟩, h⟩
            · simp only [Rv, goInt, hmin]
            · rw [hst]
              by_cases e : z' = l
              · subst e
                rw [hl] at hz'; cases hz'
                exact ⟨_, if_pos rfl, by simp [AB.ver], fun q => by simp [AB.ver] at q⟩
              · rw [if_neg e]; exact ⟨ab, hz', Nat.le_refl _, fun _ => rfl⟩
            · rw [hst, if_neg (fun e => by rw [e] at hz'; have := wf.heap l hz'; rw [hl] at this; cases this)]
              exact wf.heap z' hz'
          · cases h
        · cases h
      · cases h
    · cases h
  · cases h

theorem call_ok (hcall : CallOk E call) {c : Call} {fo : Operand} (ho : o.op = .call c) (hb : c.callee = .value fo) {args : List AV} (ha : mapO (look E s) c.args.toList = some args) {f : FuncId} {a b : List AV} (hf : look E s fo = some (.fn f a b)) (h : call f (a ++ args ++ b) st k = some r) (wf : st.Wf)
    {g : Gh} {base : Nat} {ac : Act} {w : World} (hg : GlobOk E g) (hop : ∀ y ∈ o.op.operands, RelO E g s ac y) (hw : Rw g base st w) (hfr : FreshAll g st) : Gives E.P o ac w (Post base g st w k r) := by
  have hmem : ∀ y, y = fo ∨ y ∈ c.args → y ∈ o.op.operands := fun y hy => by
    rw [ho]; simp only [Op.operands, Call.operands, hb, Array.mem_append]
    rcases hy with q | q
    · left; simp [q]
    · right; exact q
  have r1 := hop fo (hmem fo (.inl rfl)) _ hf
  simp only [Rv] at r1
  obtain ⟨va, vc, e, ra, rc⟩ := r1
  have r2 := Rl_of (a := ac) ha fun y hy => hop y (hmem y (.inr (Array.mem_toList_iff.1 hy)))
  have hr : Rl g (a ++ args ++ b) (va ++ c.args.toList.map ac.eval ++ vc) := (ra.append r2).append rc
  obtain ⟨p1, p2⟩ := hcall f _ st k r h wf g base w _ hg hr hw hfr
  refine .inr (.inr ⟨f, ⟨va ++ c.args.toList.map ac.eval ++ vc⟩, w, ?_, p2⟩)
  have earr : (⟨va⟩ : Array Value) ++ c.args.map ac.eval ++ (⟨vc⟩ : Array Value) = ⟨va ++ c.args.toList.map ac.eval ++ vc⟩ := by apply Array.ext'; simp
  simp only [execOp, ho, resolve, hb, e, Deferred.ofValue, Sem.run_bind, Sem.run_pure, Result.andThen_ok, invoke, earr, p1]

/-- Any operation, carried out at once. -/
theorem evOp_ok (hfacts : FactsOk E) (hcall : CallOk E call) (h : evOp E call s st o k = some r) (wf : st.Wf) {g : Gh} {base : Nat} {ac : Act} {w : World} (hg : GlobOk E g) (hop : ∀ y ∈ o.op.operands, RelO E g s ac y) (hw : Rw g base st w) (hfr : FreshAll g st) : Gives E.P o ac w (Post base g st w k r) := by
  cases hW : isW o with
  | false =>
    obtain ⟨v, st', hN, hk⟩ := evN_ok hfacts hW h wf
    exact hN.now hk hg.val hop hw hfr
  | true =>
    unfold isW at hW
    split at hW
    · rename_i t p x ho
      unfold evOp at h
      simp only [ho] at h
      unfold opStore at h
      split at h
      · rename_i a b n ha hb hn; exact store_ok ho ha hb hn h wf hop hw
      · cases h
    · rename_i t m i x ho
      unfold evOp at h
      simp only [ho] at h
      unfold opUpdate at h
      split at h
      · rename_i a b c ha hb hc; exact update_ok (.inl ho) ha hb hc h wf hop hw
      · cases h
    · rename_i t m i x ho
      unfold evOp at h
      simp only [ho] at h
      unfold opUpdate at h
      split at h
      · rename_i a b c ha hb hc; exact update_ok (.inr ho) ha hb hc h wf hop hw
      · cases h
    · rename_i c ho
      unfold evOp at h
      simp only [ho] at h
      unfold opCall at h
      split at hW
      · rename_i hb0
        split at h
        · rename_i args ha
          split at h
          · rename_i b hb
            rw [hb0] at hb; cases hb
            exact append_ok ho hb0 ha h wf hg hop hw hfr
          · rename_i hb; rw [hb0] at hb; cases hb
          · cases h
        · cases h
      · rename_i hb0
        split at h
        · rename_i args ha
          split at h
          · rename_i b hb
            rw [hb0] at hb; cases hb
            unfold evBuiltin at h
            split at h
            · rename_i q; cases q
            · rename_i q; cases q
            · split at h
              · rename_i t ht; exact clear_ok ho hb0 ha ht h wf hop hw
              · cases h
            · rename_i q; cases q
            · unfold opOther at h
              split at h
              · rename_i v hv
                obtain ⟨v, st', hN, hk⟩ := pure_ok wf hv h
                exact hN.now hk hg.val hop hw hfr
              · cases h
          · rename_i hb; rw [hb0] at hb; cases hb
          · cases h
        · cases h
      · rename_i hb0
        split at h
        · rename_i args ha
          split at h
          · rename_i b hb
            rw [hb0] at hb; cases hb
            unfold evBuiltin at h
            split at h
            · rename_i q; cases q
            · split at h
              · rename_i t tx ht htx; exact copy_ok ho hb0 ha ht htx h wf hop hw
              · cases h
            · rename_i q; cases q
            · rename_i q; cases q
            · unfold opOther at h
              split at h
              · rename_i v hv
                obtain ⟨v, st', hN, hk⟩ := pure_ok wf hv h
                exact hN.now hk hg.val hop hw hfr
              · cases h
          · rename_i hb; rw [hb0] at hb; cases hb
          · cases h
        · cases h
      · cases hW
      · rename_i hnb
        split at h
        · rename_i args ha
          split at h
          · rename_i b hb; exact absurd hb (hnb b)
          · rename_i fo hb
            split at h
            · rename_i f a b hf; exact call_ok hcall ho hb ha hf h wf hg hop hw hfr
            · cases h
          · cases h
        · cases h
    · cases hW
end
end Go.VE
