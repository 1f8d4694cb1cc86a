/- The evaluation is right: loads and new memory. No Go program is imported. -/
import Derived.Test.YtmgopjbcdoddoaaGreatDoorVPure
import Derived.Laws.Cells
import Derived.Laws.Entries
set_option linter.unusedSimpArgs false
set_option linter.unusedVariables false
set_option linter.unnecessarySimpa false
namespace Go.VE
open Go.RowKit

/-- What an operation has read is there still. -/
structure NeedSame (E : Env) (s : Slots) (st : St) (o : Oper) (st2 st' : St) : Prop where
  load : ∀ t p l off, o.op = .load t p → look E s p = some (.ptr l off) → evLoad E st2 t (.ptr l off) = evLoad E st' t (.ptr l off)
  other : isLoad o = false → ∀ l, needOf E s st o = some l → st2.heap.get l = st'.heap.get l
theorem NeedSame.refl {E : Env} {s : Slots} {st : St} {o : Oper} {st2 : St} : NeedSame E s st o st2 st2 := ⟨fun _ _ _ _ _ _ => rfl, fun _ _ _ => rfl⟩

/-- An operation that writes nothing: it may be carried out later too, as long as what it reads is as it was. -/
structure NOk (E : Env) (s : Slots) (st : St) (o : Oper) (v : AV) (st' : St) : Prop where
  le : st.le st'
  wf : st'.Wf
  same : ∀ l ab, st.heap.get l = some ab → st'.heap.get l = some ab
  late : ∀ (g : Gh) (a : Act) (w : World) (base : Nat) (st2 : St), g.val = E.val → (∀ y ∈ o.op.operands, RelO E g s a y) → Rw g base st2 w → st'.le st2 →
    NeedSame E s st o st2 st' → (∀ l, st.next ≤ l → l < st'.next → g.rho l = none ∧ g.room l = none) → (∀ t, st.spent.get t = none → st'.spent.get t = some () → ¬ g.dead t) →
    Gives E.P o a w fun v' w' => ∃ g', Rv g' v v' ∧ Rw g' base st2 w' ∧ Goes base g st st' w g' w'

theorem NOk.val {E : Env} {s : Slots} {st : St} {o : Oper} {v : AV} (wf : st.Wf)
    (h : ∀ (g : Gh) (a : Act) (w : World) (base : Nat) (st2 : St), (∀ y ∈ o.op.operands, RelO E g s a y) → Rw g base st2 w → st.le st2 → NeedSame E s st o st2 st →
      ∃ v', (execOp a.eval o).run E.P w = .ok (.value v') w ∧ Rv g v v') : NOk E s st o v st :=
  ⟨.refl st, wf, fun _ _ h => h, fun g a w base st2 _ h1 h2 h3 h4 _ _ => by
    obtain ⟨v', r1, r2⟩ := h g a w base st2 h1 h2 h3 h4
    exact .inl ⟨v', w, r1, g, r2, h2, Goes.refl base g st w⟩⟩

theorem addr_add (b o j : Nat) : (⟨b, o, none⟩ : Addr).add j = ⟨b, o + j, none⟩ := by
  unfold Addr.add; split
  · subst_vars; rfl
  · rfl

noncomputable def layT (t : Tr AV) (o : Nat) : List AV → Tr AV
  | [] => t
  | a :: r => layT (t.set o a) (o + 1) r
theorem lay_k {β : Type} : ∀ (l : List AV) (t : Tr AV) (o : Nat) (k : Tr AV → β), lay t o k l = k (layT t o l)
  | [], _, _, _ => rfl
  | a :: r, t, o, k => by
    simp only [lay, layT]
    rw [Tr.setK_k, lay_k r]
theorem layT_get : ∀ (l : List AV) (t : Tr AV) (o i : Nat), (layT t o l).get i = if o ≤ i ∧ i < o + l.length then l[i - o]? else t.get i
  | [], t, o, i => by rw [if_neg (by simp)]; rfl
  | a :: r, t, o, i => by
    simp only [layT]
    rw [layT_get r, Tr.get_set]
    by_cases h : o + 1 ≤ i ∧ i < o + 1 + r.length
    · rw [if_pos h, if_pos (by simp; omega), show i - o = (i - (o + 1)) + 1 by omega]; rfl
    · rw [if_neg h]
      by_cases h2 : i = o
      · subst h2; rw [if_pos rfl, if_pos (by simp)]; simp
      · rw [if_neg h2, if_neg (by simp; omega)]

theorem row_spec {t : Tr AV} : ∀ {n o : Nat} {cs : List AV}, row t n o = some cs → cs.length = n ∧ ∀ j, j < n → t.get (o + j) = cs[j]?
  | 0, o, cs, h => by simp only [row] at h; cases h; exact ⟨rfl, fun j hj => by omega⟩
  | n + 1, o, cs, h => by
    simp only [row] at h
    cases ht : t.get o with
    | none => rw [ht] at h; cases h
    | some a =>
      rw [ht] at h
      cases hr : row t n (o + 1) with
      | none => rw [hr] at h; cases h
      | some r =>
        rw [hr] at h; cases h
        obtain ⟨h1, h2⟩ := row_spec hr
        refine ⟨by simp [h1], fun j hj => ?_⟩
        cases j with
        | zero => simpa using ht
        | succ j =>
          have := h2 j (by omega)
          rw [show o + 1 + j = o + (j + 1) by omega] at this
          rw [this]; rfl

/-- Values for what is told of each. -/
theorem vals_of {g : Gh} (P : Nat → Value → Prop) : ∀ (cs : List AV) (o : Nat), (∀ j c, cs[j]? = some c → ∃ v, P (o + j) v ∧ Rv g c v) → ∃ vs, Rl g cs vs ∧ ∀ (j : Nat) (u : Value), vs[j]? = some u → P (o + j) u
  | [], o, _ => ⟨[], Rl.nil, fun j u h => by simp at h⟩
  | c :: cs, o, h => by
    obtain ⟨v, p, r⟩ := h 0 c rfl
    obtain ⟨vs, r2, p2⟩ := vals_of P cs (o + 1) (fun j c' hc => by
      obtain ⟨v, p, r⟩ := h (j + 1) c' (by simpa using hc)
      exact ⟨v, by rw [show o + 1 + j = o + (j + 1) by omega]; exact p, r⟩)
    refine ⟨v :: vs, Rl.cons r r2, fun j u hu => ?_⟩
    cases j with
    | zero => simp at hu; subst hu; exact p
    | succ j =>
      simp at hu
      have := p2 j u hu
      rw [show o + 1 + j = o + (j + 1) by omega] at this
      exact this

theorem ble {a b : Nat} (h : Nat.ble a b = true) : a ≤ b := Nat.le_of_ble_eq_true h
theorem blt {a b : Nat} (h : Nat.blt a b = true) : a < b := Nat.le_of_ble_eq_true h
theorem beq {a b : Nat} (h : Nat.beq a b = true) : a = b := Nat.eq_of_beq_eq_true h

/-- The cells that a load reads. -/
theorem cellsAt_spec {st st2 : St} {n : Nat} {p : AV} {cs : List AV} (h : cellsAt st n p = some cs) {g : Gh} {base : Nat} {w : World} (hw : Rw g base st2 w) (hn : ∀ l o, p = .ptr l o → st2.heap.get l = st.heap.get l) {v : Value} (hv : Rv g p v) :
    ∃ b o vs, v = .pointer (some ⟨b, o, none⟩) ∧ cs.length = n ∧ Rl g cs vs ∧ ∀ (j : Nat) (u : Value), vs[j]? = some u → w.cell? ⟨b, o + j, none⟩ = some u := by
  cases p with
  | ptr l o =>
    simp only [cellsAt] at h
    simp only [Rv] at hv
    obtain ⟨b, hb, rfl⟩ := hv
    obtain ⟨_, _, ab, hab, hr⟩ := hw.lab l b hb
    rw [hn l o rfl] at hab
    rw [hab] at h
    cases ab with
    | gone _ => simp at h
    | map es _ => simp at h
    | cells m t ve =>
      simp only [] at h
      split at h
      · rename_i hle
        obtain ⟨h1, h2⟩ := row_spec h
        obtain ⟨vs, r1, r2⟩ := vals_of (g := g) (fun i v => w.cell? ⟨b, i, none⟩ = some v) cs o (fun j c hc => by
          have hj : j < n := by
            rcases Nat.lt_or_ge j n with q | q
            · exact q
            · rw [List.getElem?_eq_none (by omega)] at hc; cases hc
          obtain ⟨x, y, q1, q2, q3, q4⟩ := hr (o + j) (by have := ble hle; omega)
          rw [h2 j hj, hc] at q1
          cases q1
          exact ⟨y, q2, q4⟩)
        exact ⟨b, o, vs, rfl, h1, r1, r2⟩
      · cases h
  | eptr as o =>
    simp only [cellsAt] at h
    simp only [Rv] at hv
    obtain ⟨b, p, rfl, hc⟩ := hv
    split at h
    · rename_i hle
      cases h
      have hle := ble hle
      obtain ⟨vs, r1, r2⟩ := vals_of (g := g) (fun i v => w.cell? ⟨b, i, none⟩ = some v) ((as.drop o).take n) (p + o) (fun j c hj => by
        rw [List.getElem?_take] at hj
        split at hj
        · rw [List.getElem?_drop] at hj
          obtain ⟨y, q1, q2⟩ := hc.get hj
          exact ⟨y, (hw.fz _ _ _ (by rw [show p + o + j = p + (o + j) by omega]; exact q1)).1, q2⟩
        · cases hj)
      exact ⟨b, p + o, vs, rfl, by simp; omega, r1, r2⟩
    · cases h
  | _ => simp [cellsAt] at h

theorem agg_run {E : Env} {t : TypeId} {x : Bool} (h : agg E t = some x) (w : World) : (isAgg t).run E.P w = .ok x w := by
  unfold agg at h
  cases hu : E.P.underlying t with
  | none => rw [hu] at h; cases h
  | some d =>
    rw [hu] at h
    simp only [isAgg, Sem.run_bind, run_underlying hu, Result.andThen_ok]
    cases d <;> simp at h <;> subst h <;> rfl
theorem size_run {E : Env} {t : TypeId} {n : Nat} (h : size E t = some n) (w : World) : (sizeOf t).run E.P w = .ok n w := by
  unfold size at h
  cases hu : E.P.info? t with
  | none => rw [hu] at h; cases h
  | some i =>
    rw [hu] at h; cases h
    simp [sizeOf, typeInfo, program, Sem.run, hu]

theorem load_run {E : Env} {st st2 : St} {t : TypeId} {p x : AV} (h : evLoad E st t p = some x) {g : Gh} {base : Nat} {w : World} (hw : Rw g base st2 w) (hn : ∀ l o, p = .ptr l o → st2.heap.get l = st.heap.get l) {v : Value} (hv : Rv g p v) :
    ∃ b o u, v = .pointer (some ⟨b, o, none⟩) ∧ (loadVar t ⟨b, o, none⟩).run E.P w = .ok u w ∧ Rv g x u := by
  unfold evLoad at h
  split at h
  · rename_i n ha hs
    cases hc : cellsAt st n p with
    | none => rw [hc] at h; cases h
    | some cs =>
      rw [hc] at h; cases h
      obtain ⟨b, o, vs, rfl, h1, h2, h3⟩ := cellsAt_spec hc hw hn hv
      refine ⟨b, o, .agg vs.toArray, rfl, ?_, by simp only [Rv]; exact ⟨vs, rfl, h2⟩⟩
      have hl := run_loadCells_list (P := E.P) w ⟨b, o, none⟩ vs (fun j u q => by rw [addr_add]; exact h3 j u q)
      rw [show vs.length = n from by rw [← h2.length]; exact h1] at hl
      simp only [loadVar, Sem.run_bind, agg_run ha, Result.andThen_ok, if_true, size_run hs, hl, Sem.run_pure, Sem.run_ite, ↓reduceIte]
  · rename_i ha
    split at h
    · rename_i a hc
      cases h
      obtain ⟨b, o, vs, rfl, h1, h2, h3⟩ := cellsAt_spec hc hw hn hv
      simp only [Rl] at h2
      obtain ⟨u, rest, rfl, r1, r2⟩ := h2
      have := h3 0 u rfl
      refine ⟨b, o, u, rfl, ?_, r1⟩
      simp only [Nat.add_zero] at this
      simp only [loadVar, Sem.run_bind, agg_run ha, Result.andThen_ok, Bool.false_eq_true, if_false, run_load, this, Sem.run_ite, ↓reduceIte]
    · cases h
  · cases h

theorem evLoad_ok {E : Env} {s : Slots} {st : St} {o : Oper} {t : TypeId} {p : Operand} (ho : o.op = .load t p) {q x : AV} (hl : look E s p = some q) (h : evLoad E st t q = some x) (wf : st.Wf) : NOk E s st o x st :=
  NOk.val wf fun g a w base st2 h1 h2 h3 h4 => by
    have hv := h1 p (by rw [ho]; simp [Op.operands]) q hl
    obtain ⟨b, o', u, e, r1, r2⟩ : ∃ b o u, a.eval p = .pointer (some ⟨b, o, none⟩) ∧ (loadVar t ⟨b, o, none⟩).run E.P w = .ok u w ∧ Rv g x u := by
      cases q with
      | ptr l off => exact load_run ((h4.load t p l off ho hl).trans h) h2 (fun _ _ _ => rfl) hv
      | _ => exact load_run h h2 (fun l o' hq => by cases hq) hv
    refine ⟨u, ?_, r2⟩
    simp only [execOp, ho, Instr.loadAt, Instr.sureAddr, e, Sem.run_bind, Sem.run_pure, Result.andThen_ok, r1]

theorem cells_rl {g : Gh} {a : AV} {v : Value} (h : Rv g a v) : Rl g a.cells v.cells.toList := by
  have h0 := h
  cases a <;> simp only [Rv] at h
  case agg cs => obtain ⟨vs, rfl, r⟩ := h; exact r
  all_goals first
    | (subst h; exact Rl.one h0)
    | (obtain ⟨_, _, rfl⟩ := h; exact Rl.one h0)
    | (obtain ⟨_, _, rfl, _⟩ := h; exact Rl.one h0)
    | (obtain ⟨_, _, _, rfl, _⟩ := h; exact Rl.one h0)
    | (obtain ⟨_, rfl, _⟩ := h; exact Rl.one h0)
theorem one_cell {g : Gh} {a : AV} {v : Value} (h1 : a.one = true) (h : Rv g a v) : v.oneCell' = true := by
  cases a <;> simp only [Rv] at h
  case agg cs => cases h1
  case tup cs => cases h1
  all_goals first
    | (subst h; rfl)
    | (obtain ⟨_, _, rfl⟩ := h; rfl)
    | (obtain ⟨_, _, rfl, _⟩ := h; rfl)
    | (obtain ⟨_, _, _, rfl, _⟩ := h; rfl)
    | (obtain ⟨_, rfl, _⟩ := h; rfl)
theorem allOne_mem : ∀ {cs : List AV}, allOne cs = true → ∀ c ∈ cs, c.one = true
  | [], _, c, h => by cases h
  | a :: r, h, c, hc => by
    simp only [allOne, Bool.and_eq_true] at h
    rcases List.mem_cons.1 hc with rfl | hc
    · exact h.1
    · exact allOne_mem h.2 c hc
theorem all_cells {g : Gh} {cs : List AV} {vs : List Value} (h1 : allOne cs = true) (h : Rl g cs vs) : ∀ v ∈ vs, v.oneCell' = true := by
  intro v hv
  obtain ⟨i, hi⟩ := List.mem_iff_getElem?.1 hv
  have hl := h.length
  have : i < vs.length := by
    rcases Nat.lt_or_ge i vs.length with q | q
    · exact q
    · rw [List.getElem?_eq_none (by omega)] at hi; cases hi
  have hc : cs[i]? = some cs[i] := List.getElem?_eq_getElem (by omega)
  obtain ⟨u, hu, r⟩ := h.get hc
  rw [hi] at hu; cases hu
  exact one_cell (allOne_mem h1 _ (List.getElem_mem _)) r

theorem new_le {st : St} (wf : st.Wf) (ab : AB) : st.le ⟨st.heap.set st.next ab, st.next + 1, st.spent⟩ :=
  ⟨Nat.le_succ _, fun _ h => h, fun l b h => by
    refine ⟨b, ?_, Nat.le_refl _, fun _ => rfl⟩
    show (st.heap.set st.next ab).get l = some b
    rw [Tr.get_set_ne _ _ (fun e => by rw [e, wf.heap _ (Nat.le_refl _)] at h; cases h)]; exact h⟩
theorem new_same {st : St} (wf : st.Wf) (ab : AB) : ∀ l b, st.heap.get l = some b → (⟨st.heap.set st.next ab, st.next + 1, st.spent⟩ : St).heap.get l = some b := fun l b h => by
  show (st.heap.set st.next ab).get l = some b
  rw [Tr.get_set_ne _ _ (fun e => by rw [e, wf.heap _ (Nat.le_refl _)] at h; cases h)]; exact h
theorem new_wf {st : St} (wf : st.Wf) (ab : AB) : St.Wf ⟨st.heap.set st.next ab, st.next + 1, st.spent⟩ :=
  ⟨fun l h => by
    show (st.heap.set st.next ab).get l = none
    have h : st.next + 1 ≤ l := h
    rw [Tr.get_set_ne _ _ (by omega)]; exact wf.heap l (by omega), fun l h => wf.spent l (by have h : st.next + 1 ≤ l := h; omega)⟩

/-- A block made, with a name. -/
theorem Goes.alloc {base : Nat} {g : Gh} {st : St} {w : World} {st' : St} (o : Obj) (hb : base ≤ w.heap.size) (hl : g.rho st.next = none) (hle : st.le st') (hn : st'.next = st.next + 1) : Goes base g st st' w (g.lay st.next w.heap.size) (w.alloc o) :=
  ⟨Gh.le_lay hl, hle, (Below.refl base w).alloc hb o, fun l b q => by
    change (if l = st.next then some w.heap.size else g.rho l) = some b at q
    split at q
    · exact .inr (by omega)
    · exact .inl q, fun t x q => .inl q, fun t q => .inl q, fun _ _ _ q => .inl q⟩

/-- New memory of cells: whatever operation makes it. -/
theorem evNew_ok {R : Type} {E : Env} {s : Slots} {st : St} {o : Oper} {cs : List AV} {k : AV → St → Option R} {r : R} (h : evNew st cs k = some r) (wf : st.Wf) (hnl : isLoad o = false) (hneed : needOf E s st o = some st.next)
    (hrun : ∀ (g : Gh) (a : Act) (w : World) (base : Nat) (st2 : St), (∀ y ∈ o.op.operands, RelO E g s a y) → Rw g base st2 w → ∃ vs ty, Rl g cs vs ∧ (execOp a.eval o).run E.P w = .ok (.value (.pointer (some ⟨w.heap.size, 0, none⟩))) (w.alloc (.cells ⟨vs⟩ ty))) :
    ∃ v st', NOk E s st o v st' ∧ k v st' = some r := by
  unfold evNew at h
  split at h
  · rename_i h1
    rw [lay_k, Tr.setK_k] at h
    refine ⟨_, _, ⟨new_le wf _, new_wf wf _, new_same wf _, fun g a w base st2 _ q1 q2 q3 q4 q5 q6 => ?_⟩, h⟩
    obtain ⟨vs, ty, r1, r2⟩ := hrun g a w base st2 q1 q2
    have hl : g.rho st.next = none := (q5 st.next (Nat.le_refl _) (Nat.lt_succ_self _)).1
    have hh : st2.heap.get st.next = some (.cells cs.length (layT .e 0 cs) 0) := (q4.other hnl _ hneed).trans (Tr.get_set_same _ _ _)
    have le := Gh.le_lay (b := w.heap.size) hl
    refine .inl ⟨_, _, r2, g.lay st.next w.heap.size, ?_, ?_, Goes.alloc _ q2.base hl (new_le wf _) rfl⟩
    · simp only [Rv]
      exact ⟨w.heap.size, by show (if st.next = st.next then some w.heap.size else _) = _; rw [if_pos rfl], rfl⟩
    · refine q2.alloc hl hh fun i hi => ?_
      have hc : cs[i]? = some cs[i] := List.getElem?_eq_getElem hi
      obtain ⟨u, hu, ru⟩ := r1.get hc
      refine ⟨cs[i], u, ?_, ?_, World.frozen?_alloc_new _ _ _ _, ru.mono le⟩
      · rw [layT_get, if_pos (by simp; omega)]; simpa using hc
      · rw [World.cell?_alloc_new]; simpa using hu
  · cases h

theorem zero_run {E : Env} {t : TypeId} {cs : List AV} (h : zero E t = some cs) (g : Gh) : ∃ z, (∀ w, (zeroValue t).run E.P w = .ok z w) ∧ (E.P.info? t).bind (·.zero) = some z ∧ Rl g cs z.cells.toList := by
  unfold zero at h
  cases hi : E.P.info? t with
  | none => rw [hi] at h; cases h
  | some i =>
    rw [hi] at h
    cases hz : i.zero with
    | none => simp [hz] at h
    | some z =>
      simp only [Option.bind_some, hz] at h
      cases ho : ofV z with
      | none => rw [ho] at h; cases h
      | some x =>
        rw [ho] at h; cases h
        exact ⟨z, fun w => by simp [zeroValue, typeInfo, program, Sem.run, hi, hz], by simp [hz], cells_rl (ofV_rv ho)⟩

theorem evAlloc_ok {R : Type} {E : Env} {s : Slots} {st : St} {o : Oper} {t : TypeId} (ho : o.op = .alloc t) {cs : List AV} (hz : zero E t = some cs) {k : AV → St → Option R} {r : R} (h : evNew st cs k = some r) (wf : st.Wf) : ∃ v st', NOk E s st o v st' ∧ k v st' = some r :=
  evNew_ok h wf (by unfold isLoad; rw [ho]) (by unfold needOf; rw [ho]) fun g a w base st2 q1 q2 => by
    obtain ⟨z, z1, _, z2⟩ := zero_run hz g
    refine ⟨z.cells.toList, t, z2, ?_⟩
    simp only [execOp, ho, Instr.alloc, newVar, newRow, newObj, Sem.run_bind, z1, Result.andThen_ok, Sem.run, Sem.run_pure]
    rfl
theorem evBox_ok {R : Type} {E : Env} {s : Slots} {st : St} {o : Oper} {t : TypeId} {x : Operand} (ho : o.op = .box t x) {b : AV} (hx : look E s x = some b) {k : AV → St → Option R} {r : R} (h : evNew st b.cells k = some r) (wf : st.Wf) : ∃ v st', NOk E s st o v st' ∧ k v st' = some r :=
  evNew_ok h wf (by unfold isLoad; rw [ho]) (by unfold needOf; rw [ho]) fun g a w base st2 q1 q2 => by
    have hv := q1 x (by rw [ho]; simp [Op.operands]) b hx
    refine ⟨(a.eval x).cells.toList, t, cells_rl hv, ?_⟩
    simp only [execOp, ho, Instr.box, newVar, newRow, newObj, Sem.run_bind, Result.andThen_ok, Sem.run, Sem.run_pure]
    rfl
end Go.VE
