/- Frames beside an evaluation: guards, temporaries. No Go program is imported. -/
import Derived.Test.YtmgopjbcdoddoaaGreatDoorVWrite
set_option linter.unusedSimpArgs false
set_option linter.unusedVariables false
namespace Go.VE
open Go.RowKit

/-- Deferred calls, as they are kept. -/
def Dl (g : Gh) : List AV → List Deferred → Prop
  | [], D => D = []
  | .fn f a c :: r, D => ∃ va vc rest, D = { target := .fn (.func f) ⟨vc⟩, args := ⟨va⟩ } :: rest ∧ Rl g a va ∧ Rl g c vc ∧ Dl g r rest
  | _ :: _, _ => False
theorem Dl.mono {g h : Gh} (le : g.le h) : ∀ (ds : List AV) (D : List Deferred), Dl g ds D → Dl h ds D
  | [], _, k => k
  | .fn f a c :: r, D, ⟨va, vc, rest, k1, k2, k3, k4⟩ => ⟨va, vc, rest, k1, k2.mono le _ _, k3.mono le _ _, Dl.mono le r rest k4⟩

/-- The world, the memory, the frame's size. -/
structure Fr (E : Env) (D : List Deferred) (base nt : Nat) (g : Gh) (st : St) (a : Act) (w : World) : Prop where
  size : a.tmps.size = nt
  defers : a.defers = D
  glob : GlobOk E g
  rw : Rw g base st w
  fresh : FreshAll g st
  wf : st.Wf

/-- A temporary holds what is told of it. -/
def Holds (g : Gh) (a : Act) (t : Tmp) (x : AV) : Prop := ∃ v, a.tmps[t]? = some v ∧ Rv g x v

theorem Holds.mono {g h : Gh} (le : g.le h) {a : Act} {t : Tmp} {x : AV} (k : Holds g a t x) : Holds h a t x := k.elim fun v ⟨p, q⟩ => ⟨v, p, q.mono le _ _⟩
theorem put_size {a : Act} {dst : Option Tmp} {v : Value} : (a.put dst v).tmps.size = a.tmps.size := by cases dst <;> simp [Act.put]
theorem put_defers {a : Act} {dst : Option Tmp} {v : Value} : (a.put dst v).defers = a.defers := by cases dst <;> rfl
theorem Holds.put_ne {g : Gh} {a : Act} {t : Tmp} {x : AV} {dst : Option Tmp} {v : Value} (k : Holds g a t x) (h : dst ≠ some t) : Holds g (a.put dst v) t x := by
  obtain ⟨u, p, q⟩ := k
  cases dst with
  | none => exact ⟨u, p, q⟩
  | some d =>
    refine ⟨u, ?_, q⟩
    show (a.tmps.setIfInBounds d v)[t]? = some u
    rw [Array.getElem?_setIfInBounds_ne (fun e => h (by rw [e]))]; exact p
theorem Holds.put_eq {g : Gh} {a : Act} {t : Tmp} {x : AV} {v : Value} (k : Rv g x v) (h : t < a.tmps.size) : Holds g (a.put (some t) v) t x :=
  ⟨v, by show (a.tmps.setIfInBounds t v)[t]? = some v; simp [h], k⟩

theorem putSlot_spec {β : Type} {nt : Nat} {s : Slots} {dst : Option Tmp} {v : AV} {k : Slots → Option β} {r : β} (h : putSlot nt s dst v k = some r) :
    ∃ s', k s' = some r ∧ (∀ d, dst = some d → d < nt ∧ s'.get d = some v) ∧ (∀ t, dst ≠ some t → s'.get t = s.get t) := by
  unfold putSlot at h
  cases dst with
  | none => exact ⟨s, h, fun d e => (by cases e), fun t _ => rfl⟩
  | some d =>
    simp only [] at h
    split at h
    · rename_i hlt
      rw [Tr.setK_k] at h
      exact ⟨_, h, fun d' e => by cases e; exact ⟨blt hlt, Tr.get_set_same _ _ _⟩, fun t ht => Tr.get_set_ne _ _ (fun e => ht (by rw [e]))⟩
    · cases h

theorem looks_mem {ops : Array Oper} {o : Oper} {t : Tmp} (h : Operand.tmp t ∈ o.op.operands) : t ∈ o.looksAt ops := by
  unfold Oper.looksAt
  refine List.mem_append.2 (.inl (List.mem_filterMap.2 ⟨.tmp t, Array.mem_toList_iff.2 h, rfl⟩))
theorem guard_mem {ops : Array Oper} {o : Oper} {j : Nat} {b : Bool} {d : Tmp} (h : o.guard = some (j, b)) (hd : (ops[j]?).bind (·.dst) = some d) : d ∈ o.looksAt ops := by
  unfold Oper.looksAt
  refine List.mem_append.2 (.inr ?_)
  rw [h]
  simp only [hd, Option.toList, List.mem_singleton]

/-- The operands of an operation, if what it looks at is held. -/
theorem rel_of {E : Env} {ops : Array Oper} {o : Oper} {g : Gh} {s : Slots} {a : Act} (hg : GlobOk E g) (h : ∀ t ∈ o.looksAt ops, ∀ x, s.get t = some x → Holds g a t x) : ∀ y ∈ o.op.operands, RelO E g s a y := by
  intro y hy x hx
  cases y with
  | tmp t =>
    obtain ⟨v, p, q⟩ := h t (looks_mem hy) x hx
    show Rv g x (a.tmps.getD t undef)
    rw [Array.getD_eq_getD_getElem?, p]; exact q
  | const v => exact ofV_rv hx
  | global i => exact hg.at_ i x hx
  | func f =>
    simp only [look] at hx; cases hx
    show Rv g (.fn f [] []) (.func (.func f) #[] #[])
    simp only [Rv]
    exact ⟨[], [], rfl, Rl.nil, Rl.nil⟩

theorem wanted_spec {ops : Array Oper} {s : Slots} {o : Oper} {b : Bool} (h : wanted ops s o = some b) {g : Gh} {a : Act} (hh : ∀ t ∈ o.looksAt ops, ∀ x, s.get t = some x → Holds g a t x) : Region.wanted o (yielded ops a.tmps) = b := by
  unfold wanted at h
  unfold Region.wanted
  cases hgd : o.guard with
  | none => rw [hgd] at h; cases h; rfl
  | some p =>
    obtain ⟨j, want⟩ := p
    rw [hgd] at h
    simp only [] at h ⊢
    cases hd : (ops[j]?).bind (·.dst) with
    | none => rw [hd] at h; cases h
    | some d =>
      rw [hd] at h
      simp only [] at h
      have hm := guard_mem hgd hd
      split at h
      · rename_i c hc
        cases h
        obtain ⟨v, p1, p2⟩ := hh d hm _ hc
        simp only [Rv] at p2; subst p2
        have : yielded ops a.tmps j = some c := by
          unfold yielded
          rw [hd]
          simp only [Option.bind_some, p1]
        rw [this]
        cases c <;> cases want <;> rfl
      · rename_i hc
        cases h
        obtain ⟨v, p1, p2⟩ := hh d hm _ hc
        simp only [Rv, Rl] at p2
        obtain ⟨vs, rfl, _⟩ := p2
        have : yielded ops a.tmps j = none := by
          unfold yielded
          rw [hd]
          simp only [Option.bind_some, p1]
        rw [this]
        cases want <;> rfl
      · cases h

theorem rv_undef {g : Gh} : Rv g (.tup []) undef := by simp only [Rv, undef]; exact ⟨[], rfl, Rl.nil⟩

theorem GlobOk.mono {E : Env} {g h : Gh} (le : g.le h) (k : GlobOk E g) : GlobOk E h := ⟨fun i x q => (k.at_ i x q).mono le _ _, le.val.trans k.val⟩
theorem Fr.goes {E : Env} {D : List Deferred} {base nt : Nat} {g g' : Gh} {st st' : St} {a : Act} {w w' : World} {dst : Option Tmp} {v : Value} (h : Fr E D base nt g st a w) (hr : Rw g' base st' w') (k : Goes base g st st' w g' w') (wf : st'.Wf) : Fr E D base nt g' st' (a.put dst v) w' :=
  ⟨by rw [put_size]; exact h.size, by rw [put_defers]; exact h.defers, h.glob.mono k.le, hr, h.fresh.goes k, wf⟩
theorem Fr.goesD {E : Env} {D D' : List Deferred} {base nt : Nat} {g g' : Gh} {st st' : St} {a : Act} {w w' : World} {dst : Option Tmp} {v : Value} (h : Fr E D base nt g st a w) (hr : Rw g' base st' w') (k : Goes base g st st' w g' w') (wf : st'.Wf) : Fr E D' base nt g' st' ({ a with defers := D' }.put dst v) w' :=
  ⟨by rw [put_size]; exact h.size, by rw [put_defers], h.glob.mono k.le, hr, h.fresh.goes k, wf⟩
theorem Fr.now {E : Env} {D : List Deferred} {base nt : Nat} {g g' : Gh} {st st' : St} {a : Act} {w w' : World} (h : Fr E D base nt g st a w) (hr : Rw g' base st' w') (k : Goes base g st st' w g' w') (wf : st'.Wf) : Fr E D base nt g' st' a w' :=
  ⟨h.size, h.defers, h.glob.mono k.le, hr, h.fresh.goes k, wf⟩
theorem act_defers {a : Act} {D : List Deferred} (h : a.defers = D) : ({ a with defers := D } : Act) = a := by subst h; rfl

section
variable {R : Type} {E : Env} {call : CallP R}

theorem noCall_ok {E : Env} {R : Type} : CallOk (R := R) E (fun _ _ _ _ => none) := fun f args st k r h => by cases h

/-- An operation in a region whose order is fixed. -/
theorem evStep_ok (hfacts : FactsOk E) (hcall : CallPOk E call) {ds : List AV} {s : Slots} {st : St} {o : Oper} {k : AV → List AV → St → Option R} {kp : AV → St → Option R} {r : R} (h : evStep E call ds s st o k kp = some r)
    {D : List Deferred} {nt base : Nat} {g : Gh} {a : Act} {w : World} (hf : Fr E D base nt g st a w) (hd : Dl g ds D) (hop : ∀ y ∈ o.op.operands, RelO E g s a y) {next : Act → World → Prop} {Q : Exit → Act → World → Prop}
    (hk : ∀ v v' ds' D' st' g' w', Rv g' v v' → Rw g' base st' w' → Goes base g st st' w g' w' → st'.Wf → Dl g' ds' D' → k v ds' st' = some r → next ({ a with defers := D' }.put o.dst v') w')
    (hp : ∀ v v' st' g' w', Rv g' v v' → Rw g' base st' w' → Goes base g st st' w g' w' → st'.Wf → kp v st' = some r → Q (.panic [{ v := v', recovered := false }]) a w') : o.wp E.P a w next Q := by
  have other : evOp E (fun _ _ _ _ => none) s st o (fun v st => k v ds st) = some r → o.wp E.P a w next Q := fun h => by
    refine (evOp_ok hfacts noCall_ok h hf.wf hf.glob hop hf.rw hf.fresh).wp ?_
    rintro v' w' ⟨v, st', g', q1, q2, q3, q4, q5⟩
    have := hk v v' ds D st' g' w' q1 q2 q3 q4 (hd.mono q3.le _ _) q5
    rwa [act_defers hf.defers] at this
  unfold evStep at h
  split at h
  · rename_i c ho
    split at h
    · rename_i f hb
      split at h
      · rename_i args f' fa fb ha hfn
        have hmem : ∀ y, y = f ∨ y ∈ c.args → y ∈ o.op.operands := fun y hy => by
          rw [ho]; simp only [Op.operands, Call.operands, hb, Array.mem_append]
          rcases hy with q | q
          · left; simp [q]
          · right; exact q
        have r1 := hop f (hmem f (.inl rfl)) _ hfn
        simp only [Rv] at r1
        obtain ⟨va, vc, e, ra, rc⟩ := r1
        have r2 := Rl_of (a := a) ha fun y hy => hop y (hmem y (.inr (Array.mem_toList_iff.1 hy)))
        have hr : Rl g (fa ++ args ++ fb) (va ++ c.args.toList.map a.eval ++ vc) := (ra.append r2).append rc
        obtain ⟨p1, p2⟩ := hcall f' _ st _ _ r h hf.wf g base w _ hf.glob hr hf.rw hf.fresh
        have earr : (⟨va⟩ : Array Value) ++ c.args.map a.eval ++ (⟨vc⟩ : Array Value) = ⟨va ++ c.args.toList.map a.eval ++ vc⟩ := by apply Array.ext'; simp
        have hrun : (execOp a.eval o).run E.P w = .ok (.enter f' ⟨va ++ c.args.toList.map a.eval ++ vc⟩) w := by
          simp only [execOp, ho, resolve, hb, e, Deferred.ofValue, Sem.run_bind, Sem.run_pure, Result.andThen_ok, invoke, earr, p1]
        unfold Oper.wp
        rw [hrun]
        refine p2.mono fun e w' hh => ?_
        rcases hh with ⟨v', rfl, v, st', g', q1, q2, q3, q4, q5⟩ | ⟨v', rfl, v, st', g', q1, q2, q3, q4, q5⟩
        · have := hk v v' ds D st' g' w' q1 q2 q3 q4 (hd.mono q3.le _ _) q5
          rwa [act_defers hf.defers] at this
        · exact hp v v' st' g' w' q1 q2 q3 q4 q5
      · cases h
    · exact other h
  · rename_i c ho
    split at h
    · rename_i f hb hargs
      split at h
      · rename_i f' fa fb hfn
        have r1 := hop f (by rw [ho]; simp [Op.operands, Call.operands, hb]) _ hfn
        simp only [Rv] at r1
        obtain ⟨va, vc, e, ra, rc⟩ := r1
        have eargs : c.args = #[] := by rw [← Array.toArray_toList (xs := c.args), hargs]
        have hrun : (execOp a.eval o).run E.P w = .ok (.defer { target := .fn (.func f') ⟨vc⟩, args := ⟨va⟩ }) w := by
          simp only [execOp, ho, resolve, hb, e, eargs, Deferred.ofValue, Sem.run_bind, Sem.run_pure, Result.andThen_ok, Array.map_empty, Array.append_empty]
        unfold Oper.wp
        rw [hrun]
        have := hk (.tup []) undef (.fn f' fa fb :: ds) ({ target := .fn (.func f') ⟨vc⟩, args := ⟨va⟩ } :: a.defers) st g w rv_undef hf.rw (Goes.refl base g st w) hf.wf ⟨va, vc, a.defers, rfl, ra, rc, by rw [hf.defers]; exact hd⟩ h
        exact this
      · cases h
    · cases h
  · rename_i x ho
    split at h
    · rename_i t v hx
      have r1 := hop x (by rw [ho]; simp [Op.operands]) _ hx
      have r2 := r1
      simp only [Rv] at r1
      obtain ⟨u, e, hu⟩ := r1
      have hrun : (execOp a.eval o).run E.P w = .halt (.panic (a.eval x)) w := by
        simp only [execOp, ho, e]
        rfl
      unfold Oper.wp
      rw [hrun]
      exact hp _ _ st g w r2 hf.rw (Goes.refl base g st w) hf.wf h
    · cases h
  · exact other h

/-- A region whose order is fixed. -/
theorem evOps_ok (hfacts : FactsOk E) (hcall : CallPOk E call) {nt : Nat} {ops : Array Oper} {base : Nat} {k : List AV → Slots → St → Option R} {kp : AV → List AV → Slots → St → Option R} {r : R} {Q : Exit → Act → World → Prop} {g0 : Gh} {st0 : St} {w0 : World}
    (hQ : ∀ ds D s st g a w, Fr E D base nt g st a w → Dl g ds D → RelS g s a → Goes base g0 st0 st w0 g w → k ds s st = some r → Q .normal a w)
    (hP : ∀ v v' ds D s st g a w, Fr E D base nt g st a w → Dl g ds D → RelS g s a → Rv g v v' → Goes base g0 st0 st w0 g w → kp v ds s st = some r → Q (.panic [{ v := v', recovered := false }]) a w) :
    ∀ (os : List Oper) (i : Nat), (∀ j o, os[j]? = some o → ops[i + j]? = some o) → i + os.length = ops.size → ∀ ds D s st g a w, evOps E call nt ops os ds s st k kp = some r → Fr E D base nt g st a w → Dl g ds D → RelS g s a → Goes base g0 st0 st w0 g w →
      wpOps E.P ops Q (List.range' i os.length) a w
  | [], i, _, _, ds, D, s, st, g, a, w, h, hf, hd, hs, hgo => by
    simp only [evOps] at h
    exact hQ ds D s st g a w hf hd hs hgo h
  | o :: os, i, hi, hn, ds, D, s, st, g, a, w, h, hf, hd, hs, hgo => by
    have ho : ops[i]? = some o := by simpa using hi 0 o rfl
    have hi' : ∀ j o', os[j]? = some o' → ops[i + 1 + j]? = some o' := fun j o' h' => by
      have := hi (j + 1) o' (by simpa using h')
      rwa [show i + (j + 1) = i + 1 + j by omega] at this
    have hlook : ∀ t ∈ o.looksAt ops, ∀ x, s.get t = some x → Holds g a t x := fun t _ x hx => hs t x hx
    simp only [List.length_cons, List.range'_succ]
    rw [wpOps_cons]
    unfold wpOp
    rw [ho]
    simp only []
    simp only [evOps] at h
    cases hw : wanted ops s o with
    | none => rw [hw] at h; cases h
    | some b =>
      rw [hw] at h
      have hwd := wanted_spec hw hlook
      rw [hwd]
      -- what comes behind
      have next : ∀ {v : AV} {v' : Value} {ds' : List AV} {D' : List Deferred} {st' : St} {g' : Gh} {w' : World}, putSlot nt s o.dst v (fun s => evOps E call nt ops os ds' s st' k kp) = some r → Rv g' v v' → Rw g' base st' w' → Goes base g st st' w g' w' → st'.Wf → Dl g' ds' D' → wpOps E.P ops Q (List.range' (i + 1) os.length) ({ a with defers := D' }.put o.dst v') w' := by
        intro v v' ds' D' st' g' w' hp hv hr hg' hwf hd'
        obtain ⟨s', p1, p2, p3⟩ := putSlot_spec hp
        refine evOps_ok hfacts hcall hQ hP os (i + 1) hi' (by simp at hn; omega) ds' D' s' st' g' _ w' p1 (hf.goesD hr hg' hwf) hd' (fun t x hx => ?_) (hgo.trans hg')
        by_cases hd : o.dst = some t
        · obtain ⟨q1, q2⟩ := p2 t hd
          rw [q2] at hx; cases hx
          rw [hd]
          exact Holds.put_eq hv (by show t < a.tmps.size; rw [hf.size]; exact q1)
        · rw [p3 t hd] at hx
          exact Holds.put_ne (a := { a with defers := D' }) (Holds.mono hg'.le (hs t x hx)) hd
      cases b with
      | true =>
        rw [if_pos rfl]
        refine .inl (evStep_ok hfacts hcall h hf hd (rel_of hf.glob hlook) (fun v v' ds' D' st' g' w' q1 q2 q3 q4 q5 q6 => next q6 q1 q2 q3 q4 q5) fun v v' st' g' w' q1 q2 q3 q4 q5 => ?_)
        exact hP v v' ds D s st' g' a w' (hf.now q2 q3 q4) (hd.mono q3.le _ _) (fun t x hx => Holds.mono q3.le (hs t x hx)) q1 (hgo.trans q3) q5
      | false =>
        rw [if_neg (by simp)]
        have := next (D' := D) h rv_undef hf.rw (Goes.refl base g st w) hf.wf hd
        rwa [act_defers hf.defers] at this
end
end Go.VE
