/- The evaluation is right: code, calls. No Go program is imported. -/
import Derived.Test.YtmgopjbcdoddoaaGreatDoorVAny
import Derived.Recover
set_option linter.unusedSimpArgs false
set_option linter.unusedVariables false
namespace Go.VE
open Go.RowKit

theorem nextOf_mem {masks : List Nat} {done : Nat} {any : Bool} : ∀ {l : List (Nat × Oper)} {x : Nat × Oper} {r : List (Nat × Oper)}, nextOf masks done any l = some (x, r) → x ∈ l ∧ ∀ y ∈ r, y ∈ l
  | [], x, r, h => by simp [nextOf] at h
  | z :: l, x, r, h => by
    simp only [nextOf] at h
    split at h
    · cases h; exact ⟨List.mem_cons_self .., fun y hy => List.mem_cons_of_mem _ hy⟩
    · split at h
      · rename_i y r' hn
        cases h
        obtain ⟨q1, q2⟩ := nextOf_mem hn
        exact ⟨List.mem_cons_of_mem _ q1, fun u hu => by
          rcases List.mem_cons.1 hu with q | q
          · rw [q]; exact List.mem_cons_self ..
          · exact List.mem_cons_of_mem _ (q2 u q)⟩
      · cases h
theorem orderGo_mem {masks : List Nat} : ∀ {n done : Nat} {l : List (Nat × Oper)} {x : Nat × Oper}, x ∈ orderGo masks n done l → x ∈ l
  | 0, _, _, x, h => by simp [orderGo] at h
  | n + 1, done, l, x, h => by
    simp only [orderGo] at h
    split at h
    · rename_i y r hn
      obtain ⟨q1, q2⟩ := nextOf_mem hn
      rcases List.mem_cons.1 h with q | q
      · rw [q]; exact q1
      · exact q2 x (orderGo_mem q)
    · split at h
      · rename_i y r hn
        obtain ⟨q1, q2⟩ := nextOf_mem hn
        rcases List.mem_cons.1 h with q | q
        · rw [q]; exact q1
        · exact q2 x (orderGo_mem q)
      · cases h
theorem orderOf_mem {ops : Array Oper} {x : Nat × Oper} (h : x ∈ orderOf ops) : ops[x.1]? = some x.2 := by
  have := orderGo_mem h
  obtain ⟨p, hp, rfl⟩ := List.mem_map.1 this
  have := List.mem_zipIdx_iff_getElem?.1 hp
  simpa using this

theorem pairs_spec {ops : Array Oper} {masks : List Nat} : ∀ {l : List (Nat × Oper)}, pairsOk ops masks l = true → l.Pairwise (Pair ops masks) ∧ ∀ x ∈ l, One ops masks x
  | [], _ => ⟨List.Pairwise.nil, fun x h => by cases h⟩
  | x :: r, h => by
    simp only [pairsOk, Bool.and_eq_true, List.all_eq_true] at h
    obtain ⟨⟨h1, h2⟩, h3⟩ := h
    obtain ⟨q1, q2⟩ := pairs_spec h3
    exact ⟨List.pairwise_cons.2 ⟨fun y hy => pair_of (h2 y hy), q1⟩, fun y hy => by
      rcases List.mem_cons.1 hy with q | q
      · rw [q]; exact one_of h1
      · exact q2 y q⟩

section
variable {R : Type} {E : Env}

/-- A region that draws its order. -/
theorem evDraw_ok {call : CallK R} (hfacts : FactsOk E) (hcall : CallOk E call) {D : List Deferred} {nt : Nat} {ops : Array Oper} {base : Nat} {k : Slots → St → Option R} {r : R} {Q : Exit → Act → World → Prop} {g : Gh} {st : St} {w : World} {a : Act} {s : Slots}
    (hd : drawOk ops (masksOf ops) (orderOf ops) = true) (h : evDraw E call nt ops (masksOf ops) (orderOf ops) [] s st k = some r) (hf : Fr E D base nt g st a w) (hs : RelS g s a)
    (hQ : ∀ s st' g' a w', Fr E D base nt g' st' a w' → RelS g' s a → Goes base g st st' w g' w' → k s st' = some r → Q .normal a w') :
    wpAny E.P .any ops Q ops.size (Array.replicate ops.size false) a { w with drawn := w.drawn + 1 } := by
  unfold drawOk at hd
  simp only [Bool.and_eq_true, List.all_eq_true, List.any_eq_true] at hd
  obtain ⟨hlen, hpairs, hcov⟩ := hd
  have hlen := beq hlen
  obtain ⟨hp, h1⟩ := pairs_spec hpairs
  have cov : ∀ i, i < ops.size → ∃ x ∈ orderOf ops, x.1 = i := fun i hi => by
    obtain ⟨x, q1, q2⟩ := hcov i (List.mem_range.2 hi)
    exact ⟨x, q1, beq q2⟩
  have hone : ∀ i o, ops[i]? = some o → One ops (masksOf ops) (i, o) := fun i o ho => by
    obtain ⟨x, q1, q2⟩ := cov i (Array.getElem?_eq_some_iff.1 ho).1
    have := orderOf_mem q1
    rw [q2, ho] at this
    have : x = (i, o) := by
      obtain ⟨x1, x2⟩ := x
      simp at q2 this
      rw [q2, this]
    rw [← this]; exact h1 x q1
  have hlist : ∀ i, (Array.replicate ops.size false).getD i false = false := fun i => by
    rw [Array.getD_eq_getD_getElem?, Array.getElem?_replicate]
    split <;> rfl
  refine draw_any (L := []) (rest := orderOf ops) (pend := []) (s := s) (st := st) (g := g) (g0 := g) (st0 := st) (w0 := w) (k := k) (r := r) (base := base) (nt := nt) (masks := masksOf ops) hfacts hcall hone hQ ops.size (by simp [hlen]) ?_
  refine ⟨⟨hf.size, hf.defers, hf.glob, hf.rw.same rfl, hf.fresh, hf.wf⟩, ⟨.refl g, .refl st, (Below.refl base w).drew, fun _ _ q => .inl q, fun _ _ q => .inl q, fun _ q => .inl q, fun _ _ _ q => .inl q⟩, fun t x hx => .inr (hs t x hx), fun d hd => (by cases hd), fun d hd => (by cases hd), fun d hd => (by cases hd), fun d hd => (by cases hd), fun d hd => (by cases hd), fun d hd => (by cases hd), fun d hd => (by cases hd), fun d hd => (by cases hd),
    List.Pairwise.nil, by simpa using hp, fun x hx => ?_, fun i hi _ => by simpa using cov i hi, by simp, fun i o _ hl => (by rw [hlist] at hl; cases hl), h⟩
  have hx' : x ∈ orderOf ops := by simpa using hx
  have ho := orderOf_mem hx'
  have := (Array.getElem?_eq_some_iff.1 ho).1
  exact ⟨by simp [this], ho⟩

def ExOk (g : Gh) : Ex → Exit → Prop
  | .normal, e => e = .normal
  | .exit id, e => e = .exit id
  | .ret, e => e = .ret
  | .panic v, e => ∃ v', e = .panic [{ v := v', recovered := false }] ∧ Rv g v v'

/-- What code comes to. -/
def CPost {R : Type} (E : Env) (base nt : Nat) (g : Gh) (st : St) (w : World) (k : Ex → List AV → Slots → St → Option R) (r : R) (e : Exit) (a' : Act) (w' : World) : Prop :=
  ∃ ex ds' D' s' st' g', ExOk g' ex e ∧ Fr E D' base nt g' st' a' w' ∧ Dl g' ds' D' ∧ RelS g' s' a' ∧ Goes base g st st' w g' w' ∧ k ex ds' s' st' = some r

theorem CPost.trans {E : Env} {base nt : Nat} {g g1 : Gh} {st st1 : St} {w w1 : World} {k : Ex → List AV → Slots → St → Option R} {r : R} {e : Exit} {a' : Act} {w' : World} (h : Goes base g st st1 w g1 w1) (k' : CPost E base nt g1 st1 w1 k r e a' w') : CPost E base nt g st w k r e a' w' := by
  obtain ⟨ex, ds', D', s', st', g', q1, q2, qd, q3, q4, q5⟩ := k'
  exact ⟨ex, ds', D', s', st', g', q1, q2, qd, q3, h.trans q4, q5⟩
theorem CPost.out {E : Env} {base nt : Nat} {g : Gh} {st : St} {w : World} {k : Ex → List AV → Slots → St → Option R} {r : R} {a' : Act} {w' : World} : ¬ CPost E base nt g st w k r .outgrown a' w' := by
  rintro ⟨ex, ds', D', s', st', g', q1, _⟩
  cases ex with
  | panic v => obtain ⟨v', q, _⟩ := q1; cases q
  | _ => cases q1

theorem least {p : Nat → Prop} : ∀ n, p n → ∃ m, p m ∧ ∀ i, i < m → ¬ p i := by
  intro n
  induction n using Nat.strongRecOn with
  | _ n ih =>
    intro hn
    by_cases h : ∃ i, i < n ∧ p i
    · obtain ⟨i, q1, q2⟩ := h; exact ih i q1 q2
    · exact ⟨n, hn, fun i hi hp => h ⟨i, hi, hp⟩⟩

theorem draw_call {call : CallP R} (hcall : CallPOk E call) {why pos : String} : CallOk (R := R) E (fun f args st k => call f args st k fun _ _ => lost why pos) := fun f args st k r h wf g base w vs hg ha hw hfr => by
  obtain ⟨p1, p2⟩ := hcall f args st k _ r h wf g base w vs hg ha hw hfr
  refine ⟨p1, p2.mono fun e w' hh => ?_⟩
  rcases hh with hh | ⟨v', _, v, st', g', _, _, _, _, q⟩
  · exact hh
  · cases q

theorem evCode_ok {call : CallP R} (hfacts : FactsOk E) (hcall : CallPOk E call) (hm : E.P.follows .mixedOrders = true) {nt fuel base : Nat} : ∀ (c : Code) {ds : List AV} {s : Slots} {st : St} {k : Ex → List AV → Slots → St → Option R} {r : R}, evCode E call nt fuel c ds s st k = some r → ∀ {D : List Deferred} {g : Gh} {a : Act} {w : World}, Fr E D base nt g st a w → Dl g ds D → RelS g s a → c.wp E.P (CPost E base nt g st w k r) a w
  | .skip, ds, s, st, k, r, h, D, g, a, w, hf, hd, hs => wp_skip ⟨.normal, ds, D, s, st, g, rfl, hf, hd, hs, Goes.refl base g st w, h⟩
  | .label _, ds, s, st, k, r, h, D, g, a, w, hf, hd, hs => wp_label ⟨.normal, ds, D, s, st, g, rfl, hf, hd, hs, Goes.refl base g st w, h⟩
  | .exit id, ds, s, st, k, r, h, D, g, a, w, hf, hd, hs => wp_exit ⟨.exit id, ds, D, s, st, g, rfl, hf, hd, hs, Goes.refl base g st w, h⟩
  | .ret, ds, s, st, k, r, h, D, g, a, w, hf, hd, hs => wp_ret ⟨.ret, ds, D, s, st, g, rfl, hf, hd, hs, Goes.refl base g st w, h⟩
  | .region id ops draw, ds, s, st, k, r, h, D, g, a, w, hf, hd, hs => by
    simp only [evCode] at h
    cases draw with
    | true =>
      simp only [if_true] at h
      split at h
      · rename_i hdr
        exact wp_region_any hm (evDraw_ok hfacts (draw_call hcall) hdr h hf hs fun s' st' g' a' w' q1 q2 q3 q4 => ⟨.normal, ds, D, s', st', g', rfl, q1, hd.mono q3.le _ _, q2, q3, q4⟩)
      · cases h
    | false =>
      simp only [Bool.false_eq_true, if_false] at h
      have := evOps_ok (Q := CPost E base nt g st w k r) (g0 := g) (st0 := st) (w0 := w) hfacts hcall (fun ds' D' s' st' g' a' w' q1 qd q2 q3 q4 => ⟨.normal, ds', D', s', st', g', rfl, q1, qd, q2, q3, q4⟩)
        (fun v v' ds' D' s' st' g' a' w' q1 qd q2 q3 q4 q5 => ⟨.panic v, ds', D', s', st', g', ⟨v', rfl, q3⟩, q1, qd, q2, q4, q5⟩) ops.toList 0 (fun j o ho => by simpa using ho) (by simp) ds D s st g a w h hf hd hs (Goes.refl base g st w)
      refine wp_region ?_
      rw [List.range_eq_range']
      simpa using this
  | .seq x y, ds, s, st, k, r, h, D, g, a, w, hf, hd, hs => by
    simp only [evCode] at h
    refine wp_seq (wp_mono (evCode_ok hfacts hcall hm x h hf hd hs) ?_)
    rintro e a' w' ⟨ex, ds', D', s', st', g', q1, q2, qd, q3, q4, q5⟩
    cases ex with
    | normal =>
      have q1 : e = .normal := q1
      subst q1
      exact wp_mono (evCode_ok hfacts hcall hm y q5 q2 qd q3) fun e a2 w2 q => q.trans q4
    | exit id =>
      have q1 : e = .exit id := q1
      subst q1
      exact ⟨.exit id, ds', D', s', st', g', rfl, q2, qd, q3, q4, q5⟩
    | ret =>
      have q1 : e = .ret := q1
      subst q1
      exact ⟨.ret, ds', D', s', st', g', rfl, q2, qd, q3, q4, q5⟩
    | panic v =>
      obtain ⟨v', q1, qv⟩ := q1
      subst q1
      exact ⟨.panic v, ds', D', s', st', g', ⟨v', rfl, qv⟩, q2, qd, q3, q4, q5⟩
  | .cond c x y, ds, s, st, k, r, h, D, g, a, w, hf, hd, hs => by
    simp only [evCode] at h
    split at h
    · rename_i hc
      have := look_rv hs hf.glob c _ hc
      simp only [Rv] at this
      exact wp_cond_true this (evCode_ok hfacts hcall hm x h hf hd hs)
    · rename_i hc
      have := look_rv hs hf.glob c _ hc
      simp only [Rv] at this
      exact wp_cond_false this (evCode_ok hfacts hcall hm y h hf hd hs)
    · cases h
  | .block id body, ds, s, st, k, r, h, D, g, a, w, hf, hd, hs => by
    simp only [evCode] at h
    refine wp_block (wp_mono (evCode_ok hfacts hcall hm body h hf hd hs) ?_)
    rintro e a' w' ⟨ex, ds', D', s', st', g', q1, q2, qd, q3, q4, q5⟩
    cases ex with
    | normal =>
      have q1 : e = .normal := q1
      subst q1
      exact ⟨.normal, ds', D', s', st', g', rfl, q2, qd, q3, q4, q5⟩
    | exit j =>
      have q1 : e = .exit j := q1
      subst q1
      simp only [] at q5
      show (if j = id then _ else _)
      split at q5
      · rename_i hb
        rw [if_pos (beq hb)]
        exact ⟨.normal, ds', D', s', st', g', rfl, q2, qd, q3, q4, q5⟩
      · rename_i hb
        rw [if_neg (fun e => hb (by rw [e]; simp))]
        exact ⟨.exit j, ds', D', s', st', g', rfl, q2, qd, q3, q4, q5⟩
    | ret =>
      have q1 : e = .ret := q1
      subst q1
      exact ⟨.ret, ds', D', s', st', g', rfl, q2, qd, q3, q4, q5⟩
    | panic v =>
      obtain ⟨v', q1, qv⟩ := q1
      subst q1
      exact ⟨.panic v, ds', D', s', st', g', ⟨v', rfl, qv⟩, q2, qd, q3, q4, q5⟩
  | .loop body, ds, s, st, k, r, h, D, g, a, w, hf, hd, hs => by
    simp only [evCode] at h
    have body_ok := fun {ds : List AV} {s : Slots} {st : St} {k : Ex → List AV → Slots → St → Option R} {r : R} (h : evCode E call nt fuel body ds s st k = some r) {D : List Deferred} {g : Gh} {a : Act} {w : World} (hf : Fr E D base nt g st a w) (hd : Dl g ds D) (hs : RelS g s a) => evCode_ok hfacts hcall hm (base := base) body h hf hd hs
    -- so many rounds are left
    let I : Nat → Act → World → Prop := fun n a' w' => ∃ ds' D' s' st' g', Fr E D' base nt g' st' a' w' ∧ Dl g' ds' D' ∧ RelS g' s' a' ∧ Goes base g st st' w g' w' ∧ evLoop (fun ds s st k => evCode E call nt fuel body ds s st k) n ds' s' st' k = some r
    have hI : I fuel a w := ⟨ds, D, s, st, g, hf, hd, hs, Goes.refl base g st w, h⟩
    let μ : Act → World → Nat := fun a w => open Classical in if h : ∃ n, I n a w then Classical.choose (least (p := fun n => I n a w) (Classical.choose h) (Classical.choose_spec h)) else 0
    have hμ : ∀ a w, (∃ n, I n a w) → I (μ a w) a w ∧ ∀ i, i < μ a w → ¬ I i a w := fun a w h => by
      have := Classical.choose_spec (least (p := fun n => I n a w) (Classical.choose h) (Classical.choose_spec h))
      have e : μ a w = Classical.choose (least (p := fun n => I n a w) (Classical.choose h) (Classical.choose_spec h)) := dif_pos h
      rw [e]
      exact this
    refine wp_loop (fun a w => ∃ n, I n a w) μ ⟨fuel, hI⟩ fun a w hex => ?_
    obtain ⟨⟨ds', D', s', st', g', p1, pd, p2, p3, p4⟩, hmin⟩ := hμ a w hex
    cases hn : μ a w with
    | zero => rw [hn] at p4; simp only [evLoop] at p4; cases p4
    | succ n =>
      rw [hn] at p4
      simp only [evLoop] at p4
      refine wp_mono (body_ok p4 p1 pd p2) ?_
      rintro e a' w' ⟨ex, ds2, D2, s2, st2, g2, q1, q2, qd, q3, q4, q5⟩
      cases ex with
      | normal =>
        have q1 : e = .normal := q1
        subst q1
        have hI' : I n a' w' := ⟨ds2, D2, s2, st2, g2, q2, qd, q3, p3.trans q4, q5⟩
        refine ⟨⟨n, hI'⟩, ?_⟩
        obtain ⟨_, m2⟩ := hμ a' w' ⟨n, hI'⟩
        rcases Nat.lt_or_ge n (μ a' w') with q | q
        · exact absurd hI' (m2 n q)
        · omega
      | exit id =>
        have q1 : e = .exit id := q1
        subst q1
        exact ⟨.exit id, ds2, D2, s2, st2, g2, rfl, q2, qd, q3, p3.trans q4, q5⟩
      | ret =>
        have q1 : e = .ret := q1
        subst q1
        exact ⟨.ret, ds2, D2, s2, st2, g2, rfl, q2, qd, q3, p3.trans q4, q5⟩
      | panic v =>
        obtain ⟨v', q1, qv⟩ := q1
        subst q1
        exact ⟨.panic v, ds2, D2, s2, st2, g2, ⟨v', rfl, qv⟩, q2, qd, q3, p3.trans q4, q5⟩
  | .scope _, ds, s, st, k, r, h, D, g, a, w, hf, hd, hs => by simp [evCode, lost] at h
  | .goto _, ds, s, st, k, r, h, D, g, a, w, hf, hd, hs => by simp [evCode, lost] at h
  | .rangeFunc .., ds, s, st, k, r, h, D, g, a, w, hf, hd, hs => by simp [evCode, lost] at h
  | .refuse _, ds, s, st, k, r, h, D, g, a, w, hf, hd, hs => by simp [evCode, lost] at h

/-- The table of functions is the program's. -/
def TabOk (E : Env) : Prop := ∀ f nt res c, E.tab f = some (nt, res, c) → ∃ fn, E.P.funcs[f]? = some fn ∧ fn.ntmps = nt ∧ fn.results.toList = res ∧ fn.body = some c ∧ ∀ args w, (callFunc f args).run E.P w = .ok (.enter f args) w

theorem resOf_run {g : Gh} {base : Nat} {st : St} {w : World} {s : Slots} {a : Act} (hw : Rw g base st w) (hs : RelS g s a) : ∀ {res : List ResultVar} {l : List AV}, resOf E s st res = some l →
    ∃ vs, (res.mapM fun | .tmp t => pure (a.tmps.getD t undef) | .cell b t => do loadVar t (← asAddr (a.tmps.getD b undef)) : Sem (List Value)).run E.P w = .ok vs w ∧ Rl g l vs
  | [], l, h => by simp only [resOf] at h; cases h; exact ⟨[], rfl, Rl.nil⟩
  | .tmp t :: res, l, h => by
    simp only [resOf] at h
    split at h
    · rename_i x m hx hm
      cases h
      obtain ⟨v, p1, p2⟩ := hs t x hx
      obtain ⟨vs, q1, q2⟩ := resOf_run hw hs hm
      refine ⟨v :: vs, ?_, Rl.cons p2 q2⟩
      have : a.tmps.getD t undef = v := by rw [Array.getD_eq_getD_getElem?, p1]; rfl
      simp only [List.mapM_cons, Sem.run_bind, Sem.run_pure, Result.andThen_ok, this, q1]
    · cases h
  | .cell b t :: res, l, h => by
    simp only [resOf] at h
    split at h
    · rename_i p hp
      split at h
      · rename_i x m hx hm
        cases h
        obtain ⟨v, p1, p2⟩ := hs b p hp
        obtain ⟨bl, off, u, e, r1, r2⟩ := load_run hx hw (fun _ _ _ => rfl) p2
        obtain ⟨vs, q1, q2⟩ := resOf_run hw hs hm
        refine ⟨u :: vs, ?_, Rl.cons r2 q2⟩
        have : a.tmps.getD b undef = v := by rw [Array.getD_eq_getD_getElem?, p1]; rfl
        have hb : (asAddr (a.tmps.getD b undef)).run E.P w = .ok ⟨bl, off, none⟩ w := by rw [this, e]; rfl
        simp only [List.mapM_cons, Sem.run_bind, Sem.run_pure, Result.andThen_ok, hb, r1, q1]
      · cases h
    · cases h

theorem oneOf_rv {g : Gh} {l : List AV} {vs : List Value} (h : Rl g l vs) : Rv g (oneOf l) (if h : vs.toArray.size = 1 then vs.toArray[0] else .tuple vs.toArray) := by
  have hl := h.length
  cases l with
  | nil =>
    simp only [Rl] at h; subst h
    simp only [oneOf]
    rw [dif_neg (by simp)]
    simp only [Rv]
    exact ⟨[], rfl, Rl.nil⟩
  | cons x l =>
    cases l with
    | nil =>
      simp only [Rl] at h
      obtain ⟨v, rest, rfl, hv, rfl⟩ := h
      simp only [oneOf]
      rw [dif_pos (by simp)]
      simpa using hv
    | cons y l =>
      simp only [oneOf]
      rw [dif_neg (by simp; simp at hl; omega)]
      simp only [Rv]
      exact ⟨vs, rfl, h⟩

/-- Operations behind a recover, in a deferred call. -/
theorem wpOpsS_of {P : Program} {ops : Array Oper} {Q : Exit → Act → World → Prop} (hno : ∀ a w, ¬ Q .outgrown a w) {cs : List Frame} : ∀ (l : List Nat) (a : Act) (w : World), wpOps P ops Q l a w → wpOpsS P ops (fun e a' cs2 w' => cs2 = cs ∧ Q e a' w') l a cs w
  | [], a, w, h => ⟨rfl, h⟩
  | i :: l, a, w, h => by
    simp only [wpOps] at h
    simp only [wpOpsS]
    cases ho : ops[i]? with
    | none => rw [ho] at h; exact wpOpsS_of hno l a w h
    | some o =>
      rw [ho] at h
      simp only [] at h ⊢
      by_cases hw : Region.wanted o (yielded ops a.tmps) = true
      · rw [if_pos hw] at h ⊢
        rcases h with h | ⟨_, a0, w0, q⟩
        · have h2 := Oper.wp_mono (K' := fun a' w' => wpOpsS P ops (fun e a' cs2 w' => cs2 = cs ∧ Q e a' w') l a' cs w') (fun a w => wpOpsS_of hno l a w) h
          unfold Oper.wp at h2
          have hQ : (fun (e : Exit) (a' : Act) (w' : World) => True ∧ Q e a' w') = Q := by funext e a' w'; simp
          rw [hQ]
          split
          · rename_i hr; rw [hr] at h2; exact h2.elim
          · exact h2
        · exact absurd q (hno a0 w0)
      · rw [if_neg hw] at h ⊢
        exact wpOpsS_of hno l _ w h

theorem wpS_mono {P : Program} {c : Code} {Q Q' : Exit → Act → List Frame → World → Prop} {a : Act} {cs : List Frame} {w : World} (h : c.wpS P Q a cs w) (k : ∀ e a' cs' w', Q e a' cs' w' → Q' e a' cs' w') : c.wpS P Q' a cs w :=
  fun b t hb hr => let ⟨e, a', cs', w', q, r⟩ := h b t hb hr; ⟨e, a', cs', w', k _ _ _ _ q, r⟩

/-- Code whose first operation is to recover. -/
theorem evRec_ok {call : CallP R} (hfacts : FactsOk E) (hcall : CallPOk E call) (hm : E.P.follows .mixedOrders = true) {nt fuel base : Nat} {v : AV} : ∀ (c : Code) {s : Slots} {st : St} {k : Ex → List AV → Slots → St → Option R} {r : R}, evRec E call nt fuel v c s st k = some r →
    ∀ {g : Gh} {a : Act} {w : World} {v' : Value} {cs cs' : List Frame}, Fr E [] base nt g st a w → RelS g s a → Rv g v v' → (recoverD cs = some (v', cs') ∨ (recoverD cs = none ∧ v' = .nilIface ∧ cs' = cs)) → c.wpS E.P (fun e a' cs2 w' => cs2 = cs' ∧ CPost E base nt g st w k r e a' w') a cs w
  | .seq x y, s, st, k, r, h, g, a, w, v', cs, cs', hf, hs, hv, hrec => by
    simp only [evRec] at h
    refine wpS_seq (wpS_mono (evRec_ok hfacts hcall hm x h hf hs hv hrec) ?_)
    rintro e a' cs2 w' ⟨hcs, ex, ds', D', s', st', g', q1, q2, qd, q3, q4, q5⟩
    subst hcs
    cases ex with
    | normal =>
      have q1 : e = .normal := q1
      subst q1
      exact wpS_of_wp (wp_mono (evCode_ok hfacts hcall hm y q5 q2 qd q3) fun e a2 w2 q => ⟨rfl, q.trans q4⟩)
    | exit id =>
      have q1 : e = .exit id := q1
      subst q1
      exact ⟨rfl, .exit id, ds', D', s', st', g', rfl, q2, qd, q3, q4, q5⟩
    | ret =>
      have q1 : e = .ret := q1
      subst q1
      exact ⟨rfl, .ret, ds', D', s', st', g', rfl, q2, qd, q3, q4, q5⟩
    | panic v =>
      obtain ⟨v', q1, qv⟩ := q1
      subst q1
      exact ⟨rfl, .panic v, ds', D', s', st', g', ⟨v', rfl, qv⟩, q2, qd, q3, q4, q5⟩
  | .region id ops false, s, st, k, r, h, g, a, w, v', cs, cs', hf, hs, hv, hrec => by
    simp only [evRec] at h
    split at h
    · rename_i o os hops
      split at h
      · rename_i c ho hgd
        split at h
        · rename_i hb hargs
          refine wpS_region ?_
          have hsz : ops.size = os.length + 1 := by rw [← Array.length_toList, hops]; rfl
          have ho0 : ops[0]? = some o := by rw [← Array.getElem?_toList, hops]; rfl
          have hos : ∀ j o', os[j]? = some o' → ops[1 + j]? = some o' := fun j o' h' => by
            rw [← Array.getElem?_toList, hops, Nat.add_comm]; simpa using h'
          rw [hsz, List.range_eq_range', List.range'_succ]
          simp only [wpOpsS, ho0]
          have hwd : Region.wanted o (yielded ops a.tmps) = true := by unfold Region.wanted; rw [hgd]
          rw [if_pos hwd]
          have hrun : (execOp a.eval o).run E.P w = .ok .recover w := by
            simp only [execOp, ho, resolve, hb, Sem.run_bind, Sem.run_pure, Result.andThen_ok, invoke, builtin]
          rw [hrun]
          simp only []
          obtain ⟨s', p1, p2, p3⟩ := putSlot_spec h
          have hf' : Fr E [] base nt g st (a.put o.dst v') w := ⟨by rw [put_size]; exact hf.size, by rw [put_defers]; exact hf.defers, hf.glob, hf.rw, hf.fresh, hf.wf⟩
          have hs' : RelS g s' (a.put o.dst v') := fun t x hx => by
            by_cases hd : o.dst = some t
            · obtain ⟨q1, q2⟩ := p2 t hd
              rw [q2] at hx; cases hx
              rw [hd]
              exact Holds.put_eq hv (by rw [hf.size]; exact q1)
            · rw [p3 t hd] at hx
              exact Holds.put_ne (hs t x hx) hd
          have rest := evOps_ok (Q := CPost E base nt g st w k r) (g0 := g) (st0 := st) (w0 := w) hfacts hcall (fun ds' D' s' st' g' a' w' q1 qd q2 q3 q4 => ⟨.normal, ds', D', s', st', g', rfl, q1, qd, q2, q3, q4⟩)
            (fun v v' ds' D' s' st' g' a' w' q1 qd q2 q3 q4 q5 => ⟨.panic v, ds', D', s', st', g', ⟨v', rfl, q3⟩, q1, qd, q2, q4, q5⟩) os 1 hos (by rw [hsz]; omega) [] [] s' st g _ w p1 hf' rfl hs' (Goes.refl base g st w)
          have rest' := fun cs => wpOpsS_of (cs := cs) (fun a w => CPost.out) _ _ _ rest
          rcases hrec with hrec | ⟨hrec, hv0, hcs⟩
          · rw [hrec]
            exact rest' cs'
          · rw [hrec]
            subst hv0; subst hcs
            exact rest' cs'
        · cases h
      · cases h
    · cases h
  | .region id ops true, s, st, k, r, h, g, a, w, v', cs, cs', hf, hs, hv, hrec => by simp [evRec, lost] at h
  | .skip, s, st, k, r, h, g, a, w, v', cs, cs', hf, hs, hv, hrec => by simp [evRec, lost] at h
  | .label _, s, st, k, r, h, g, a, w, v', cs, cs', hf, hs, hv, hrec => by simp [evRec, lost] at h
  | .exit _, s, st, k, r, h, g, a, w, v', cs, cs', hf, hs, hv, hrec => by simp [evRec, lost] at h
  | .ret, s, st, k, r, h, g, a, w, v', cs, cs', hf, hs, hv, hrec => by simp [evRec, lost] at h
  | .cond .., s, st, k, r, h, g, a, w, v', cs, cs', hf, hs, hv, hrec => by simp [evRec, lost] at h
  | .block .., s, st, k, r, h, g, a, w, v', cs, cs', hf, hs, hv, hrec => by simp [evRec, lost] at h
  | .loop _, s, st, k, r, h, g, a, w, v', cs, cs', hf, hs, hv, hrec => by simp [evRec, lost] at h
  | .scope _, s, st, k, r, h, g, a, w, v', cs, cs', hf, hs, hv, hrec => by simp [evRec, lost] at h
  | .goto _, s, st, k, r, h, g, a, w, v', cs, cs', hf, hs, hv, hrec => by simp [evRec, lost] at h
  | .rangeFunc .., s, st, k, r, h, g, a, w, v', cs, cs', hf, hs, hv, hrec => by simp [evRec, lost] at h
  | .refuse _, s, st, k, r, h, g, a, w, v', cs, cs', hf, hs, hv, hrec => by simp [evRec, lost] at h

/-- What a frame that leaves is at: it returns, or it gives up with this. -/
def ModeOk (g : Gh) (v : AV) (u : FrameMode) : Prop :=
  (v = .nili ∧ u = .returning) ∨ ∃ t x v', v = .iface t x ∧ Rv g v v' ∧ u = .panicking [{ v := v', recovered := false }]

theorem start_rel {args : List AV} {vs : List Value} {g : Gh} (ha : Rl g args vs) (n : Nat) : RelS g (layT .e 0 args) { tmps := ⟨vs⟩ ++ Array.replicate n undef, defers := [] } := by
  have hlen := ha.length
  intro t x hx
  rw [layT_get] at hx
  split at hx
  · rename_i ht
    obtain ⟨v, p1, p2⟩ := ha.get hx
    refine ⟨v, ?_, p2⟩
    have hv : t < vs.length := by omega
    simp only [Nat.sub_zero] at p1
    rw [Array.getElem?_append_left (by simpa using hv)]
    simpa using p1
  · cases hx

theorem evDefers_ok {call : CallP R} (hfacts : FactsOk E) (hcall : CallPOk E call) (hm : E.P.follows .mixedOrders = true) (ht : TabOk E) {fuel base : Nat} {fn : Func} {tmps : Array Value} {K : Ending → World → Prop} : ∀ (ds : List AV) {v : AV} {st : St} {k : St → Option R} {r : R}, evDefers E call fuel v st k ds = some r →
    ∀ {D : List Deferred} {u : FrameMode} {g : Gh} {w : World}, Dl g ds D → Rw g base st w → FreshAll g st → GlobOk E g → st.Wf → ModeOk g v u →
    (∀ st' g' w', Rw g' base st' w' → Goes base g st st' w g' w' → st'.Wf → k st' = some r → ∃ z, (results fn tmps).run E.P w' = .ok z w' ∧ K (.returned z) w') → Leaves E.P fn tmps K D u w
  | [], v, st, k, r, h, D, u, g, w, hd, hw, hfr, hg, wf, hmode, fin => by
    have hd : D = [] := hd
    subst hd
    simp only [evDefers] at h
    rcases hmode with ⟨rfl, rfl⟩ | ⟨t, x, v', rfl, _, _⟩
    · exact fin st g w hw (Goes.refl base g st w) wf h
    · cases h
  | .fn f a b :: ds, v, st, k, r, h, D, u, g, w, hd, hw, hfr, hg, wf, hmode, fin => by
    obtain ⟨va, vc, rest, rfl, ra, rc, hd'⟩ := hd
    simp only [evDefers] at h
    split at h
    · rename_i nt c htab
      obtain ⟨fd, p1, p2, p3, p4, p5⟩ := ht f nt [] c htab
      split at h
      · rename_i hle
        have hle := ble hle
        rw [lay_k] at h
        have hr : Rl g (a ++ b) (va ++ vc) := ra.append rc
        have hlen := hr.length
        have earr : (⟨va⟩ : Array Value) ++ (⟨vc⟩ : Array Value) = ⟨va ++ vc⟩ := by apply Array.ext'; simp
        have hu : u ≠ .run := by rcases hmode with ⟨_, rfl⟩ | ⟨_, _, _, _, _, rfl⟩ <;> simp
        refine leaves_cons hu (f := f) (args := ⟨va ++ vc⟩) (by simp only [invoke, earr, p5]) ?_
        refine callsD_of_wpS p1 p4 fun c0 cs0 hc0 => ?_
        -- what it recovers, and how the frame below stands behind it
        obtain ⟨v', cs', u', hv', hrec, hcs', hset⟩ : ∃ v' cs' u', Rv g v v' ∧ (recoverD (c0 :: cs0) = some (v', cs') ∨ (recoverD (c0 :: cs0) = none ∧ v' = .nilIface ∧ cs' = c0 :: cs0)) ∧ cs' = { c0 with mode := u' } :: cs0 ∧ settle u' = .returning := by
          rcases hmode with ⟨rfl, rfl⟩ | ⟨t, x, v', rfl, hv', rfl⟩
          · refine ⟨.nilIface, c0 :: cs0, .returning, by simp only [Rv], .inr ⟨by simp only [recoverD, hc0], rfl, rfl⟩, by rw [← hc0], rfl⟩
          · exact ⟨v', _, .panicking [{ v := v', recovered := true }], hv', .inl (by simp only [recoverD, hc0]), rfl, rfl⟩
        refine wpS_mono (evRec_ok hfacts hcall hm (base := base) c h (cs := c0 :: cs0) (cs' := cs') (v' := v') ⟨by simp only [List.length_append] at hlen hle; simp; omega, rfl, hg, hw, hfr, wf⟩ (start_rel hr _) hv' hrec) ?_
        rintro e a' cs2 w' ⟨hcs2, ex, ds', D', s', st', g', q1, q2, qd, q3, q4, q5⟩
        subst hcs2
        have hres : ∀ tm w, (results fd tm).run E.P w = .ok (.tuple #[]) w := fun tm w => by
          have : fd.results = #[] := by rw [← Array.toArray_toList (xs := fd.results), p3]
          simp [results, this]
        have go : evDefers E call fuel .nili st' k ds = some r → Leaves E.P fn tmps K rest (settle u') w' := fun h => by
          rw [hset]
          refine evDefers_ok hfacts hcall hm ht ds h (hd'.mono q4.le _ _) q2.rw q2.fresh q2.glob q2.wf (.inl ⟨rfl, rfl⟩) fun st2 g2 w2 z1 z2 z3 z4 => fin st2 g2 w2 z1 (q4.trans z2) z3 z4
        cases ex with
        | normal =>
          have q1 : e = .normal := q1
          subst q1
          cases ds' with
          | nil =>
            have qd : D' = [] := qd
            subst qd
            exact ⟨q2.defers, u', hcs', _, hres _ _, go q5⟩
          | cons _ _ => cases q5
        | ret =>
          have q1 : e = .ret := q1
          subst q1
          cases ds' with
          | nil =>
            have qd : D' = [] := qd
            subst qd
            exact ⟨q2.defers, u', hcs', _, hres _ _, go q5⟩
          | cons _ _ => cases q5
        | exit id => cases q5
        | panic v => cases q5
      · cases h
    · cases h
  | .bool _ :: _, v, st, k, r, h, D, u, g, w, hd, hw, hfr, hg, wf, hmode, fin => by cases hd
  | .int _ _ :: _, v, st, k, r, h, D, u, g, w, hd, hw, hfr, hg, wf, hmode, fin => by cases hd
  | .sym _ _ :: _, v, st, k, r, h, D, u, g, w, hd, hw, hfr, hg, wf, hmode, fin => by cases hd
  | .str _ :: _, v, st, k, r, h, D, u, g, w, hd, hw, hfr, hg, wf, hmode, fin => by cases hd
  | .nilp :: _, v, st, k, r, h, D, u, g, w, hd, hw, hfr, hg, wf, hmode, fin => by cases hd
  | .ptr _ _ :: _, v, st, k, r, h, D, u, g, w, hd, hw, hfr, hg, wf, hmode, fin => by cases hd
  | .eptr _ _ :: _, v, st, k, r, h, D, u, g, w, hd, hw, hfr, hg, wf, hmode, fin => by cases hd
  | .nils :: _, v, st, k, r, h, D, u, g, w, hd, hw, hfr, hg, wf, hmode, fin => by cases hd
  | .lst _ _ _ :: _, v, st, k, r, h, D, u, g, w, hd, hw, hfr, hg, wf, hmode, fin => by cases hd
  | .view _ _ _ _ :: _, v, st, k, r, h, D, u, g, w, hd, hw, hfr, hg, wf, hmode, fin => by cases hd
  | .sub _ _ _ :: _, v, st, k, r, h, D, u, g, w, hd, hw, hfr, hg, wf, hmode, fin => by cases hd
  | .vec _ _ _ _ :: _, v, st, k, r, h, D, u, g, w, hd, hw, hfr, hg, wf, hmode, fin => by cases hd
  | .nilm :: _, v, st, k, r, h, D, u, g, w, hd, hw, hfr, hg, wf, hmode, fin => by cases hd
  | .map _ :: _, v, st, k, r, h, D, u, g, w, hd, hw, hfr, hg, wf, hmode, fin => by cases hd
  | .nilf :: _, v, st, k, r, h, D, u, g, w, hd, hw, hfr, hg, wf, hmode, fin => by cases hd
  | .agg _ :: _, v, st, k, r, h, D, u, g, w, hd, hw, hfr, hg, wf, hmode, fin => by cases hd
  | .tup _ :: _, v, st, k, r, h, D, u, g, w, hd, hw, hfr, hg, wf, hmode, fin => by cases hd
  | .iface _ _ :: _, v, st, k, r, h, D, u, g, w, hd, hw, hfr, hg, wf, hmode, fin => by cases hd
  | .nili :: _, v, st, k, r, h, D, u, g, w, hd, hw, hfr, hg, wf, hmode, fin => by cases hd

/-- What a call comes to. -/
def CallPost {R : Type} (base : Nat) (g : Gh) (st : St) (w : World) (k kp : AV → St → Option R) (r : R) (e : Ending) (w' : World) : Prop :=
  (∃ v', e = .returned v' ∧ Post base g st w k r v' w') ∨ (∃ v', e = .panicked [{ v := v', recovered := false }] ∧ Post base g st w kp r v' w')

theorem evBody_ok {call : CallP R} (hfacts : FactsOk E) (hcall : CallPOk E call) (hm : E.P.follows .mixedOrders = true) (ht : TabOk E) {fuel : Nat} {f : FuncId} {fn : Func} {c : Code} (hf : E.P.funcs[f]? = some fn) (hb : fn.body = some c) {args : List AV} {st : St} {k kp : AV → St → Option R} {r : R} (h : evBody E call fuel fn.ntmps fn.results.toList c args st k kp = some r) (wf : st.Wf)
    {g : Gh} {base : Nat} {w : World} {vs : List Value} (hg : GlobOk E g) (ha : Rl g args vs) (hw : Rw g base st w) (hfr : FreshAll g st) : Calls E.P f ⟨vs⟩ w (CallPost base g st w k kp r) := by
  unfold evBody at h
  split at h
  · rename_i hle
    have hle := ble hle
    have hlen := ha.length
    rw [lay_k] at h
    refine calls_of_wp_defers hf hb (wp_mono (evCode_ok hfacts hcall hm (base := base) c h (D := []) (g := g) (w := w) ⟨by simp; omega, rfl, hg, hw, hfr, wf⟩ rfl (start_rel ha _)) ?_)
    rintro e a' w' ⟨ex, ds', D', s', st', g', q1, q2, qd, q3, q4, q5⟩
    -- the results
    have fin : ∀ {st2 : St} {g2 : Gh} {w2 : World}, Rw g2 base st2 w2 → Goes base g' st' st2 w' g2 w2 → st2.Wf → evEnd E fn.results.toList s' st2 k = some r → ∃ z, (results fn a'.tmps).run E.P w2 = .ok z w2 ∧ CallPost base g st w k kp r (.returned z) w2 := fun {st2 g2 w2} z1 z2 z3 h5 => by
      unfold evEnd at h5
      split at h5
      · rename_i l hl
        obtain ⟨us, p1, p2⟩ := resOf_run z1 (fun t x hx => Holds.mono z2.le (q3 t x hx)) hl
        refine ⟨_, ?_, .inl ⟨_, rfl, _, st2, g2, oneOf_rv p2, z1, q4.trans z2, z3, h5⟩⟩
        have hma : (fn.results.mapM fun | .tmp t => pure (a'.tmps.getD t undef) | .cell b t => do loadVar t (← asAddr (a'.tmps.getD b undef)) : Sem (Array Value)).run E.P w2 = .ok us.toArray w2 := by
          rw [← Array.toArray_toList (xs := fn.results), List.mapM_toArray, Sem.run_map, p1]
          rfl
        unfold results
        rw [Sem.run_bind]
        erw [hma]
        rfl
      · cases h5
    have leave : ∀ {ds' : List AV}, Dl g' ds' D' → (match ds' with
        | [] => evEnd E fn.results.toList s' st' k
        | d :: r => evDefers E call fuel .nili st' (fun st => evEnd E fn.results.toList s' st k) (d :: r)) = some r → Leaves E.P fn a'.tmps (CallPost base g st w k kp r) a'.defers .returning w' := fun {ds'} qd h5 => by
      rw [q2.defers]
      cases ds' with
      | nil =>
        have qd : D' = [] := qd
        subst qd
        exact fin q2.rw (Goes.refl base g' st' w') q2.wf h5
      | cons d rest => exact evDefers_ok hfacts hcall hm ht (d :: rest) h5 qd q2.rw q2.fresh q2.glob q2.wf (.inl ⟨rfl, rfl⟩) fun st2 g2 w2 z1 z2 z3 z4 => fin z1 z2 z3 z4
    cases ex with
    | normal =>
      have q1 : e = .normal := q1
      subst q1
      exact leave qd q5
    | exit id => cases q5
    | ret =>
      have q1 : e = .ret := q1
      subst q1
      exact leave qd q5
    | panic v =>
      obtain ⟨v', q1, qv⟩ := q1
      subst q1
      show Leaves E.P fn a'.tmps _ a'.defers (.panicking [{ v := v', recovered := false }]) w'
      rw [q2.defers]
      cases ds' with
      | nil =>
        have qd : D' = [] := qd
        subst qd
        exact .inr ⟨v', rfl, v, st', g', qv, q2.rw, q4, q2.wf, q5⟩
      | cons d rest =>
        simp only [] at q5
        split at q5
        · exact evDefers_ok hfacts hcall hm ht (d :: rest) q5 qd q2.rw q2.fresh q2.glob q2.wf (.inr ⟨_, _, v', rfl, qv, rfl⟩) fun st2 g2 w2 z1 z2 z3 z4 => fin z1 z2 z3 z4
        · cases q5
  · cases h

/-- What is known of calls: they return this, whatever the world, and touch nothing; what they return may lie in new memory that nobody writes again. -/
def OrcOk (E : Env) : Prop := ∀ f args v, E.orc f args = some v → (∀ vs w, (callFunc f vs).run E.P w = .ok (.enter f vs) w) ∧ ∀ (g : Gh) (base : Nat) (st : St) (w : World) (vs : List Value), GlobOk E g → Rw g base st w → Rl g args vs →
  Calls E.P f ⟨vs⟩ w fun e w' => ∃ v' fz, e = .returned v' ∧ Rv { g with fz := fz } v v' ∧ Rw { g with fz := fz } base st w' ∧ (∀ b o v, g.fz b o = some v → fz b o = some v) ∧ (∀ b o v, fz b o = some v → g.fz b o = some v ∨ base ≤ b) ∧ Below base w w'

theorem Rw.below {g : Gh} {base : Nat} {st : St} {w w' : World} (h : Rw g base st w) (hb : Below w.heap.size w w') : Rw g base st w' := by
  have hc : ∀ b i, b < w.heap.size → w'.cell? ⟨b, i, none⟩ = w.cell? ⟨b, i, none⟩ := fun b i k => hb.cell (p := ⟨b, i, none⟩) k
  have hf : ∀ b i, b < w.heap.size → w'.frozen? ⟨b, i, none⟩ = w.frozen? ⟨b, i, none⟩ := fun b i k => hb.frozen (p := ⟨b, i, none⟩) k
  refine ⟨fun b o v q => ?_, fun l b q => ?_, h.inj, h.labfz, fun t b e r q d => ?_, h.disj, h.spent, h.dead, Nat.le_trans h.base hb.size, fun l b q i hi => ?_, fun b k => h.wide0 b (Nat.le_trans hb.size k)⟩
  · obtain ⟨p1, p2⟩ := h.fz b o v q
    exact ⟨by rw [hc _ _ (cell_lt p1)]; exact p1, p2⟩
  · obtain ⟨k1, k2, ab, k3, k4⟩ := h.lab l b q
    refine ⟨k1, Nat.lt_of_lt_of_le k2 hb.size, ab, k3, ?_⟩
    cases ab with
    | cells n t _ => intro i hi; obtain ⟨a, v, q1, q2, q3, q4⟩ := k4 i hi; exact ⟨a, v, q1, by rw [hc _ _ k2]; exact q2, by rw [hf _ _ k2]; exact q3, q4⟩
    | map es _ => obtain ⟨x, y, q1, q2⟩ := k4; exact ⟨x, y, by rw [hb.block b k2]; exact q1, q2⟩
    | gone _ => trivial
  · obtain ⟨k1, k2, k3, k4⟩ := h.room t b e r q d
    exact ⟨k1, Nat.lt_of_lt_of_le k2 hb.size, k3, fun o p q => by rw [hc _ _ k2, hf _ _ k2]; exact k4 o p q⟩
  · obtain ⟨_, k2, _⟩ := h.lab l b q
    rw [hc _ _ k2, hf _ _ k2]; exact h.wide l b q i hi

/-- What is known of calls that write: from this memory they come to that, with any continuation. -/
def EffOk (E : Env) : Prop := ∀ f args st v st', E.eff f args st = some (v, st') → ∀ (R : Type) (k kp : AV → St → Option R) (r : R), k v st' = some r → st.Wf → ∀ g base w vs, GlobOk E g → Rl g args vs → Rw g base st w → FreshAll g st →
  (∀ w, (callFunc f ⟨vs⟩).run E.P w = .ok (.enter f ⟨vs⟩) w) ∧ Calls E.P f ⟨vs⟩ w (CallPost base g st w k kp r)

/-- Every call is evaluated rightly. -/
theorem evCallP_ok (heff : EffOk E) (horc : OrcOk E) (hfacts : FactsOk E) (hm : E.P.follows .mixedOrders = true) (ht : TabOk E) (fuel : Nat) : ∀ n, CallPOk (R := R) E (evCallP E fuel n)
  | 0, f, args, st, k, kp, r, h, wf, g, base, w, vs, hg, ha, hw, hfr => by simp [evCallP, lost] at h
  | n + 1, f, args, st, k, kp, r, h, wf, g, base, w, vs, hg, ha, hw, hfr => by
    simp only [evCallP] at h
    split at h
    · rename_i v hv
      obtain ⟨p1, p2⟩ := horc f args v hv
      exact ⟨fun w => p1 _ w, (p2 g base st w vs hg hw ha).mono fun e w' ⟨v', fz, he, q1, q2, q3, q4, q5⟩ => .inl ⟨v', he, v, st, { g with fz := fz }, q1, q2, ⟨⟨fun _ _ q => q, q3, fun _ _ q => q, rfl, fun _ _ _ => rfl⟩, .refl st, q5, fun _ _ q => .inl q, fun _ _ q => .inl q, fun _ q => .inl q, q4⟩, wf, h⟩⟩
    split at h
    · rename_i v st' he
      exact heff f args st v st' he _ k kp r h wf g base w vs hg ha hw hfr
    split at h
    · rename_i nt res c htab
      obtain ⟨fn, p1, p2, p3, p4, p5⟩ := ht f nt res c htab
      refine ⟨fun w => p5 _ w, ?_⟩
      rw [← p2, ← p3] at h
      exact evBody_ok hfacts (evCallP_ok heff horc hfacts hm ht fuel n) hm ht p1 p4 h wf hg ha hw hfr
    · cases h
theorem evCall_ok (heff : EffOk E) (horc : OrcOk E) (hfacts : FactsOk E) (hm : E.P.follows .mixedOrders = true) (ht : TabOk E) (fuel n : Nat) : CallOk (R := R) E (evCall E fuel n) :=
  draw_call (evCallP_ok heff horc hfacts hm ht fuel n)
end
end Go.VE
