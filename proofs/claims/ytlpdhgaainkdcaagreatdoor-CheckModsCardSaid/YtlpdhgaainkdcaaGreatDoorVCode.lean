/- The evaluation is right: code, calls. No Go program is imported. -/
import Derived.Test.YtlpdhgaainkdcaaGreatDoorVAny
set_option linter.unusedSimpArgs false
set_option linter.unusedVariables false
namespace Go.VE
open Go.RowKit

theorem nextOf_mem {masks : List Nat} {done : Nat} {any : Bool} : ∀ {l : List (Nat × Oper)} {x : Nat × Oper} {r : List (Nat × Oper)}, nextOf masks done any l = some (x, r) → x ∈ l ∧ ∀ y ∈ r, y ∈ l
  | [], x, r, h => by simp [nextOf] at h
  | z :: l, x, r, h => by
    simp only [nextOf] at h
    split at h
    · cases h; exact ⟨List.mem_cons_self .., fun y hy => List.mem_cons_of_mem _ hy⟩
    · split at h
      · rename_i y r' hn
        cases h
        obtain ⟨q1, q2⟩ := nextOf_mem hn
        exact ⟨List.mem_cons_of_mem _ q1, fun u hu => by
          rcases List.mem_cons.1 hu with q | q
          · rw [q]; exact List.mem_cons_self ..
          · exact List.mem_cons_of_mem _ (q2 u q)⟩
      · cases h
theorem orderGo_mem {masks : List Nat} : ∀ {n done : Nat} {l : List (Nat × Oper)} {x : Nat × Oper}, x ∈ orderGo masks n done l → x ∈ l
  | 0, _, _, x, h => by simp [orderGo] at h
  | n + 1, done, l, x, h => by
    simp only [orderGo] at h
    split at h
    · rename_i y r hn
      obtain ⟨q1, q2⟩ := nextOf_mem hn
      rcases List.mem_cons.1 h with q | q
      · rw [q]; exact q1
      · exact q2 x (orderGo_mem q)
    · split at h
      · rename_i y r hn
        obtain ⟨q1, q2⟩ := nextOf_mem hn
        rcases List.mem_cons.1 h with q | q
        · rw [q]; exact q1
        · exact q2 x (orderGo_mem q)
      · cases h
theorem orderOf_mem {ops : Array Oper} {x : Nat × Oper} (h : x ∈ orderOf ops) : ops[x.1]? = some x.2 := by
  have := orderGo_mem h
  obtain ⟨p, hp, rfl⟩ := List.mem_map.1 this
  have := List.mem_zipIdx_iff_getElem?.1 hp
  simpa using this

theorem pairs_spec {ops : Array Oper} {masks : List Nat} : ∀ {l : List (Nat × Oper)}, pairsOk ops masks l = true → l.Pairwise (Pair ops masks) ∧ ∀ x ∈ l, One ops masks x
  | [], _ => ⟨List.Pairwise.nil, fun x h => by cases h⟩
  | x :: r, h => by
    simp only [pairsOk, Bool.and_eq_true, List.all_eq_true] at h
    obtain ⟨⟨h1, h2⟩, h3⟩ := h
    obtain ⟨q1, q2⟩ := pairs_spec h3
    exact ⟨List.pairwise_cons.2 ⟨fun y hy => pair_of (h2 y hy), q1⟩, fun y hy => by
      rcases List.mem_cons.1 hy with q | q
      · rw [q]; exact one_of h1
      · exact q2 y q⟩

section
variable {R : Type} {E : Env} {call : CallK R}

/-- A region that draws its order. -/
theorem evDraw_ok (hfacts : FactsOk E) (hcall : CallOk E call) {nt : Nat} {ops : Array Oper} {base : Nat} {k : Slots → St → Option R} {r : R} {Q : Exit → Act → World → Prop} {g : Gh} {st : St} {w : World} {a : Act} {s : Slots}
    (hd : drawOk ops (masksOf ops) (orderOf ops) = true) (h : evDraw E call nt ops (masksOf ops) (orderOf ops) [] s st k = some r) (hf : Fr E base nt g st a w) (hs : RelS g s a)
    (hQ : ∀ s st' g' a w', Fr E base nt g' st' a w' → RelS g' s a → Goes base g st st' w g' w' → k s st' = some r → Q .normal a w') :
    wpAny E.P .any ops Q ops.size (Array.replicate ops.size false) a { w with drawn := w.drawn + 1 } := by
  unfold drawOk at hd
  simp only [Bool.and_eq_true, List.all_eq_true, List.any_eq_true] at hd
  obtain ⟨hlen, hpairs, hcov⟩ := hd
  have hlen := beq hlen
  obtain ⟨hp, h1⟩ := pairs_spec hpairs
  have cov : ∀ i, i < ops.size → ∃ x ∈ orderOf ops, x.1 = i := fun i hi => by
    obtain ⟨x, q1, q2⟩ := hcov i (List.mem_range.2 hi)
    exact ⟨x, q1, beq q2⟩
  have hone : ∀ i o, ops[i]? = some o → One ops (masksOf ops) (i, o) := fun i o ho => by
    obtain ⟨x, q1, q2⟩ := cov i (Array.getElem?_eq_some_iff.1 ho).1
    have := orderOf_mem q1
    rw [q2, ho] at this
    have : x = (i, o) := by
      obtain ⟨x1, x2⟩ := x
      simp at q2 this
      rw [q2, this]
    rw [← this]; exact h1 x q1
  have hlist : ∀ i, (Array.replicate ops.size false).getD i false = false := fun i => by
    rw [Array.getD_eq_getD_getElem?, Array.getElem?_replicate]
    split <;> rfl
  refine draw_any (L := []) (rest := orderOf ops) (pend := []) (s := s) (st := st) (g := g) (g0 := g) (st0 := st) (w0 := w) (k := k) (r := r) (base := base) (nt := nt) (masks := masksOf ops) hfacts hcall hone hQ ops.size (by simp [hlen]) ?_
  refine ⟨⟨hf.size, hf.defers, hf.glob, hf.rw.same rfl, hf.fresh, hf.wf⟩, ⟨.refl g, .refl st, (Below.refl base w).drew, fun _ _ q => .inl q, fun _ _ q => .inl q, fun _ q => .inl q, fun _ _ _ q => .inl q⟩, fun t x hx => .inr (hs t x hx), fun d hd => (by cases hd), fun d hd => (by cases hd), fun d hd => (by cases hd), fun d hd => (by cases hd), fun d hd => (by cases hd), fun d hd => (by cases hd), fun d hd => (by cases hd), fun d hd => (by cases hd),
    List.Pairwise.nil, by simpa using hp, fun x hx => ?_, fun i hi _ => by simpa using cov i hi, by simp, fun i o _ hl => (by rw [hlist] at hl; cases hl), h⟩
  have hx' : x ∈ orderOf ops := by simpa using hx
  have ho := orderOf_mem hx'
  have := (Array.getElem?_eq_some_iff.1 ho).1
  exact ⟨by simp [this], ho⟩

def ExOk : Ex → Exit → Prop
  | .normal, e => e = .normal
  | .exit id, e => e = .exit id
  | .ret, e => e = .ret

/-- What code comes to. -/
def CPost {R : Type} (E : Env) (base nt : Nat) (g : Gh) (st : St) (w : World) (k : Ex → Slots → St → Option R) (r : R) (e : Exit) (a' : Act) (w' : World) : Prop :=
  ∃ ex s' st' g', ExOk ex e ∧ Fr E base nt g' st' a' w' ∧ RelS g' s' a' ∧ Goes base g st st' w g' w' ∧ k ex s' st' = some r

theorem CPost.trans {E : Env} {base nt : Nat} {g g1 : Gh} {st st1 : St} {w w1 : World} {k : Ex → Slots → St → Option R} {r : R} {e : Exit} {a' : Act} {w' : World} (h : Goes base g st st1 w g1 w1) (k' : CPost E base nt g1 st1 w1 k r e a' w') : CPost E base nt g st w k r e a' w' := by
  obtain ⟨ex, s', st', g', q1, q2, q3, q4, q5⟩ := k'
  exact ⟨ex, s', st', g', q1, q2, q3, h.trans q4, q5⟩

theorem least {p : Nat → Prop} : ∀ n, p n → ∃ m, p m ∧ ∀ i, i < m → ¬ p i := by
  intro n
  induction n using Nat.strongRecOn with
  | _ n ih =>
    intro hn
    by_cases h : ∃ i, i < n ∧ p i
    · obtain ⟨i, q1, q2⟩ := h; exact ih i q1 q2
    · exact ⟨n, hn, fun i hi hp => h ⟨i, hi, hp⟩⟩

theorem evCode_ok (hfacts : FactsOk E) (hcall : CallOk E call) (hm : E.P.follows .mixedOrders = true) {nt fuel base : Nat} : ∀ (c : Code) {s : Slots} {st : St} {k : Ex → Slots → St → Option R} {r : R}, evCode E call nt fuel c s st k = some r → ∀ {g : Gh} {a : Act} {w : World}, Fr E base nt g st a w → RelS g s a → c.wp E.P (CPost E base nt g st w k r) a w
  | .skip, s, st, k, r, h, g, a, w, hf, hs => wp_skip ⟨.normal, s, st, g, rfl, hf, hs, Goes.refl base g st w, h⟩
  | .label _, s, st, k, r, h, g, a, w, hf, hs => wp_label ⟨.normal, s, st, g, rfl, hf, hs, Goes.refl base g st w, h⟩
  | .exit id, s, st, k, r, h, g, a, w, hf, hs => wp_exit ⟨.exit id, s, st, g, rfl, hf, hs, Goes.refl base g st w, h⟩
  | .ret, s, st, k, r, h, g, a, w, hf, hs => wp_ret ⟨.ret, s, st, g, rfl, hf, hs, Goes.refl base g st w, h⟩
  | .region id ops draw, s, st, k, r, h, g, a, w, hf, hs => by
    simp only [evCode] at h
    cases draw with
    | true =>
      simp only [if_true] at h
      split at h
      · rename_i hd
        exact wp_region_any hm (evDraw_ok hfacts hcall hd h hf hs fun s' st' g' a' w' q1 q2 q3 q4 => ⟨.normal, s', st', g', rfl, q1, q2, q3, q4⟩)
      · cases h
    | false =>
      simp only [Bool.false_eq_true, if_false] at h
      have := evOps_ok (Q := CPost E base nt g st w k r) (g0 := g) (st0 := st) (w0 := w) hfacts hcall (fun s' st' g' a' w' q1 q2 q3 q4 => ⟨.normal, s', st', g', rfl, q1, q2, q3, q4⟩) ops.toList 0 (fun j o ho => by simpa using ho) (by simp) s st g a w h hf hs (Goes.refl base g st w)
      refine wp_region ?_
      rw [List.range_eq_range']
      simpa using this
  | .seq x y, s, st, k, r, h, g, a, w, hf, hs => by
    simp only [evCode] at h
    refine wp_seq (wp_mono (evCode_ok hfacts hcall hm x h hf hs) ?_)
    rintro e a' w' ⟨ex, s', st', g', q1, q2, q3, q4, q5⟩
    cases ex with
    | normal =>
      have q1 : e = .normal := q1
      subst q1
      exact wp_mono (evCode_ok hfacts hcall hm y q5 q2 q3) fun e a2 w2 q => q.trans q4
    | exit id =>
      have q1 : e = .exit id := q1
      subst q1
      exact ⟨.exit id, s', st', g', rfl, q2, q3, q4, q5⟩
    | ret =>
      have q1 : e = .ret := q1
      subst q1
      exact ⟨.ret, s', st', g', rfl, q2, q3, q4, q5⟩
  | .cond c x y, s, st, k, r, h, g, a, w, hf, hs => by
    simp only [evCode] at h
    split at h
    · rename_i hc
      have := look_rv hs hf.glob c _ hc
      simp only [Rv] at this
      exact wp_cond_true this (evCode_ok hfacts hcall hm x h hf hs)
    · rename_i hc
      have := look_rv hs hf.glob c _ hc
      simp only [Rv] at this
      exact wp_cond_false this (evCode_ok hfacts hcall hm y h hf hs)
    · cases h
  | .block id body, s, st, k, r, h, g, a, w, hf, hs => by
    simp only [evCode] at h
    refine wp_block (wp_mono (evCode_ok hfacts hcall hm body h hf hs) ?_)
    rintro e a' w' ⟨ex, s', st', g', q1, q2, q3, q4, q5⟩
    cases ex with
    | normal =>
      have q1 : e = .normal := q1
      subst q1
      exact ⟨.normal, s', st', g', rfl, q2, q3, q4, q5⟩
    | exit j =>
      have q1 : e = .exit j := q1
      subst q1
      simp only [] at q5
      show (if j = id then _ else _)
      split at q5
      · rename_i hb
        rw [if_pos (beq hb)]
        exact ⟨.normal, s', st', g', rfl, q2, q3, q4, q5⟩
      · rename_i hb
        rw [if_neg (fun e => hb (by rw [e]; simp))]
        exact ⟨.exit j, s', st', g', rfl, q2, q3, q4, q5⟩
    | ret =>
      have q1 : e = .ret := q1
      subst q1
      exact ⟨.ret, s', st', g', rfl, q2, q3, q4, q5⟩
  | .loop body, s, st, k, r, h, g, a, w, hf, hs => by
    simp only [evCode] at h
    have body_ok := fun {s : Slots} {st : St} {k : Ex → Slots → St → Option R} {r : R} (h : evCode E call nt fuel body s st k = some r) {g : Gh} {a : Act} {w : World} (hf : Fr E base nt g st a w) (hs : RelS g s a) => evCode_ok hfacts hcall hm (base := base) body h hf hs
    -- so many rounds are left
    let I : Nat → Act → World → Prop := fun n a' w' => ∃ s' st' g', Fr E base nt g' st' a' w' ∧ RelS g' s' a' ∧ Goes base g st st' w g' w' ∧ evLoop (fun s st k => evCode E call nt fuel body s st k) n s' st' k = some r
    have hI : I fuel a w := ⟨s, st, g, hf, hs, Goes.refl base g st w, h⟩
    let μ : Act → World → Nat := fun a w => open Classical in if h : ∃ n, I n a w then Classical.choose (least (p := fun n => I n a w) (Classical.choose h) (Classical.choose_spec h)) else 0
    have hμ : ∀ a w, (∃ n, I n a w) → I (μ a w) a w ∧ ∀ i, i < μ a w → ¬ I i a w := fun a w h => by
      have := Classical.choose_spec (least (p := fun n => I n a w) (Classical.choose h) (Classical.choose_spec h))
      have e : μ a w = Classical.choose (least (p := fun n => I n a w) (Classical.choose h) (Classical.choose_spec h)) := dif_pos h
      rw [e]
      exact this
    refine wp_loop (fun a w => ∃ n, I n a w) μ ⟨fuel, hI⟩ fun a w hex => ?_
    obtain ⟨⟨s', st', g', p1, p2, p3, p4⟩, hmin⟩ := hμ a w hex
    cases hn : μ a w with
    | zero => rw [hn] at p4; simp only [evLoop] at p4; cases p4
    | succ n =>
      rw [hn] at p4
      simp only [evLoop] at p4
      refine wp_mono (body_ok p4 p1 p2) ?_
      rintro e a' w' ⟨ex, s2, st2, g2, q1, q2, q3, q4, q5⟩
      cases ex with
      | normal =>
        have q1 : e = .normal := q1
        subst q1
        have hI' : I n a' w' := ⟨s2, st2, g2, q2, q3, p3.trans q4, q5⟩
        refine ⟨⟨n, hI'⟩, ?_⟩
        obtain ⟨_, m2⟩ := hμ a' w' ⟨n, hI'⟩
        rcases Nat.lt_or_ge n (μ a' w') with q | q
        · exact absurd hI' (m2 n q)
        · omega
      | exit id =>
        have q1 : e = .exit id := q1
        subst q1
        exact ⟨.exit id, s2, st2, g2, rfl, q2, q3, p3.trans q4, q5⟩
      | ret =>
        have q1 : e = .ret := q1
        subst q1
        exact ⟨.ret, s2, st2, g2, rfl, q2, q3, p3.trans q4, q5⟩
  | .scope _, s, st, k, r, h, g, a, w, hf, hs => by simp [evCode, lost] at h
  | .goto _, s, st, k, r, h, g, a, w, hf, hs => by simp [evCode, lost] at h
  | .rangeFunc .., s, st, k, r, h, g, a, w, hf, hs => by simp [evCode, lost] at h
  | .refuse _, s, st, k, r, h, g, a, w, hf, hs => by simp [evCode, lost] at h

/-- The table of functions is the program's. -/
def TabOk (E : Env) : Prop := ∀ f nt res c, E.tab f = some (nt, res, c) → ∃ fn, E.P.funcs[f]? = some fn ∧ fn.ntmps = nt ∧ fn.results.toList = res ∧ fn.body = some c ∧ ∀ args w, (callFunc f args).run E.P w = .ok (.enter f args) w

theorem resOf_run {g : Gh} {base : Nat} {st : St} {w : World} {s : Slots} {a : Act} (hw : Rw g base st w) (hs : RelS g s a) : ∀ {res : List ResultVar} {l : List AV}, resOf E s st res = some l →
    ∃ vs, (res.mapM fun | .tmp t => pure (a.tmps.getD t undef) | .cell b t => do loadVar t (← asAddr (a.tmps.getD b undef)) : Sem (List Value)).run E.P w = .ok vs w ∧ Rl g l vs
  | [], l, h => by simp only [resOf] at h; cases h; exact ⟨[], rfl, Rl.nil⟩
  | .tmp t :: res, l, h => by
    simp only [resOf] at h
    split at h
    · rename_i x m hx hm
      cases h
      obtain ⟨v, p1, p2⟩ := hs t x hx
      obtain ⟨vs, q1, q2⟩ := resOf_run hw hs hm
      refine ⟨v :: vs, ?_, Rl.cons p2 q2⟩
      have : a.tmps.getD t undef = v := by rw [Array.getD_eq_getD_getElem?, p1]; rfl
      simp only [List.mapM_cons, Sem.run_bind, Sem.run_pure, Result.andThen_ok, this, q1]
    · cases h
  | .cell b t :: res, l, h => by
    simp only [resOf] at h
    split at h
    · rename_i p hp
      split at h
      · rename_i x m hx hm
        cases h
        obtain ⟨v, p1, p2⟩ := hs b p hp
        obtain ⟨bl, off, u, e, r1, r2⟩ := load_run hx hw (fun _ _ _ => rfl) p2
        obtain ⟨vs, q1, q2⟩ := resOf_run hw hs hm
        refine ⟨u :: vs, ?_, Rl.cons r2 q2⟩
        have : a.tmps.getD b undef = v := by rw [Array.getD_eq_getD_getElem?, p1]; rfl
        have hb : (asAddr (a.tmps.getD b undef)).run E.P w = .ok ⟨bl, off, none⟩ w := by rw [this, e]; rfl
        simp only [List.mapM_cons, Sem.run_bind, Sem.run_pure, Result.andThen_ok, hb, r1, q1]
      · cases h
    · cases h

theorem oneOf_rv {g : Gh} {l : List AV} {vs : List Value} (h : Rl g l vs) : Rv g (oneOf l) (if h : vs.toArray.size = 1 then vs.toArray[0] else .tuple vs.toArray) := by
  have hl := h.length
  cases l with
  | nil =>
    simp only [Rl] at h; subst h
    simp only [oneOf]
    rw [dif_neg (by simp)]
    simp only [Rv]
    exact ⟨[], rfl, Rl.nil⟩
  | cons x l =>
    cases l with
    | nil =>
      simp only [Rl] at h
      obtain ⟨v, rest, rfl, hv, rfl⟩ := h
      simp only [oneOf]
      rw [dif_pos (by simp)]
      simpa using hv
    | cons y l =>
      simp only [oneOf]
      rw [dif_neg (by simp; simp at hl; omega)]
      simp only [Rv]
      exact ⟨vs, rfl, h⟩

theorem evBody_ok (hfacts : FactsOk E) (hcall : CallOk E call) (hm : E.P.follows .mixedOrders = true) {fuel : Nat} {f : FuncId} {fn : Func} {c : Code} (hf : E.P.funcs[f]? = some fn) (hb : fn.body = some c) {args : List AV} {st : St} {k : AV → St → Option R} {r : R} (h : evBody E call fuel fn.ntmps fn.results.toList c args st k = some r) (wf : st.Wf)
    {g : Gh} {base : Nat} {w : World} {vs : List Value} (hg : GlobOk E g) (ha : Rl g args vs) (hw : Rw g base st w) (hfr : FreshAll g st) : Calls E.P f ⟨vs⟩ w fun e w' => ∃ v', e = .returned v' ∧ Post base g st w k r v' w' := by
  unfold evBody at h
  split at h
  · rename_i hle
    have hle := ble hle
    have hlen := ha.length
    rw [lay_k] at h
    refine calls_of_wp hf hb (wp_mono (evCode_ok hfacts hcall hm (base := base) c h (g := g) (w := w) ⟨by simp; omega, rfl, hg, hw, hfr, wf⟩ ?_) ?_)
    · intro t x hx
      rw [layT_get] at hx
      split at hx
      · rename_i ht
        obtain ⟨v, p1, p2⟩ := ha.get hx
        refine ⟨v, ?_, p2⟩
        have hv : t < vs.length := by omega
        simp only [Nat.sub_zero] at p1
        rw [Array.getElem?_append_left (by simpa using hv)]
        simpa using p1
      · cases hx
    · rintro e a' w' ⟨ex, s', st', g', q1, q2, q3, q4, q5⟩
      have fin : (match resOf E s' st' fn.results.toList with
          | some l => k (oneOf l) st'
          | none => lost "results" "") = some r → a'.defers = [] ∧ ∃ v, (results fn a'.tmps).run E.P w' = .ok v w' ∧ (∃ v', Ending.returned v = .returned v' ∧ Post base g st w k r v' w') := fun h5 => by
        split at h5
        · rename_i l hl
          obtain ⟨us, p1, p2⟩ := resOf_run q2.rw q3 hl
          refine ⟨q2.defers, _, ?_, _, rfl, _, st', g', oneOf_rv p2, q2.rw, q4, q2.wf, h5⟩
          have hma : (fn.results.mapM fun | .tmp t => pure (a'.tmps.getD t undef) | .cell b t => do loadVar t (← asAddr (a'.tmps.getD b undef)) : Sem (Array Value)).run E.P w' = .ok us.toArray w' := by
            rw [← Array.toArray_toList (xs := fn.results), List.mapM_toArray, Sem.run_map, p1]
            rfl
          unfold results
          rw [Sem.run_bind]
          erw [hma]
          rfl
        · cases h5
      cases ex with
      | normal =>
        have q1 : e = .normal := q1
        subst q1
        exact fin q5
      | exit id => cases q5
      | ret =>
        have q1 : e = .ret := q1
        subst q1
        exact fin q5
  · cases h

/-- What is known of calls: they return this, whatever the world, and touch nothing; what they return may lie in new memory that nobody writes again. -/
def OrcOk (E : Env) : Prop := ∀ f args v, E.orc f args = some v → (∀ vs w, (callFunc f vs).run E.P w = .ok (.enter f vs) w) ∧ ∀ (g : Gh) (base : Nat) (st : St) (w : World) (vs : List Value), GlobOk E g → Rw g base st w → Rl g args vs →
  Calls E.P f ⟨vs⟩ w fun e w' => ∃ v' fz, e = .returned v' ∧ Rv { g with fz := fz } v v' ∧ Rw { g with fz := fz } base st w' ∧ (∀ b o v, g.fz b o = some v → fz b o = some v) ∧ (∀ b o v, fz b o = some v → g.fz b o = some v ∨ base ≤ b) ∧ Below base w w'

theorem Rw.below {g : Gh} {base : Nat} {st : St} {w w' : World} (h : Rw g base st w) (hb : Below w.heap.size w w') : Rw g base st w' := by
  have hc : ∀ b i, b < w.heap.size → w'.cell? ⟨b, i, none⟩ = w.cell? ⟨b, i, none⟩ := fun b i k => hb.cell (p := ⟨b, i, none⟩) k
  have hf : ∀ b i, b < w.heap.size → w'.frozen? ⟨b, i, none⟩ = w.frozen? ⟨b, i, none⟩ := fun b i k => hb.frozen (p := ⟨b, i, none⟩) k
  refine ⟨fun b o v q => ?_, fun l b q => ?_, h.inj, h.labfz, fun t b e r q d => ?_, h.disj, h.spent, h.dead, Nat.le_trans h.base hb.size⟩
  · obtain ⟨p1, p2⟩ := h.fz b o v q
    exact ⟨by rw [hc _ _ (cell_lt p1)]; exact p1, p2⟩
  · obtain ⟨k1, k2, ab, k3, k4⟩ := h.lab l b q
    refine ⟨k1, Nat.lt_of_lt_of_le k2 hb.size, ab, k3, ?_⟩
    cases ab with
    | cells n t _ => intro i hi; obtain ⟨a, v, q1, q2, q3, q4⟩ := k4 i hi; exact ⟨a, v, q1, by rw [hc _ _ k2]; exact q2, by rw [hf _ _ k2]; exact q3, q4⟩
    | map es _ => obtain ⟨x, y, q1, q2⟩ := k4; exact ⟨x, y, by rw [hb.block b k2]; exact q1, q2⟩
  · obtain ⟨k1, k2, k3, k4⟩ := h.room t b e r q d
    exact ⟨k1, Nat.lt_of_lt_of_le k2 hb.size, k3, fun o p q => by rw [hc _ _ k2, hf _ _ k2]; exact k4 o p q⟩

/-- Every call is evaluated rightly. -/
theorem evCall_ok (horc : OrcOk E) (hfacts : FactsOk E) (hm : E.P.follows .mixedOrders = true) (ht : TabOk E) (fuel : Nat) : ∀ n, CallOk (R := R) E (evCall E fuel n)
  | 0, f, args, st, k, r, h, wf, g, base, w, vs, hg, ha, hw, hfr => by simp [evCall, lost] at h
  | n + 1, f, args, st, k, r, h, wf, g, base, w, vs, hg, ha, hw, hfr => by
    simp only [evCall] at h
    split at h
    · rename_i v hv
      obtain ⟨p1, p2⟩ := horc f args v hv
      exact ⟨fun w => p1 _ w, (p2 g base st w vs hg hw ha).mono fun e w' ⟨v', fz, he, q1, q2, q3, q4, q5⟩ => ⟨v', he, v, st, { g with fz := fz }, q1, q2, ⟨⟨fun _ _ q => q, q3, fun _ _ q => q, rfl⟩, .refl st, q5, fun _ _ q => .inl q, fun _ _ q => .inl q, fun _ q => .inl q, q4⟩, wf, h⟩⟩
    split at h
    · rename_i nt res c htab
      obtain ⟨fn, p1, p2, p3, p4, p5⟩ := ht f nt res c htab
      refine ⟨fun w => p5 _ w, ?_⟩
      rw [← p2, ← p3] at h
      exact evBody_ok hfacts (evCall_ok horc hfacts hm ht fuel n) hm p1 p4 h wf hg ha hw hfr
    · cases h
end
end Go.VE
