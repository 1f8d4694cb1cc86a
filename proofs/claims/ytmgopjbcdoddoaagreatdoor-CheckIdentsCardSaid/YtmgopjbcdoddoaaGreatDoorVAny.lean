/- Regions that draw their order: whichever comes up (the end). No Go program is imported. -/
import Derived.Test.YtmgopjbcdoddoaaGreatDoorVDraw
set_option linter.unusedSimpArgs false
set_option linter.unusedVariables false
namespace Go.VE
open Go.RowKit

/-- What has been seen is so still. -/
def Pend.kept (E : Env) (st : St) : Pend → Prop
  | .ver l v => sameVer (verOf st l) (some v) = true
  | .val t p v => evLoad E st t p = some v
theorem pend_spec {E : Env} {masks : List Nat} {i : Nat} {st : St} : ∀ {pend : List (Nat × Pend)}, pendOk E masks i st pend = true → ∀ j e, (j, e) ∈ pend → bit (masks.getD i 0) j = true ∨ e.kept E st
  | [], _, j, e, h => by cases h
  | (j0, .ver l0 v0) :: r, hp, j, e, h => by
    simp only [pendOk, Bool.and_eq_true, Bool.or_eq_true] at hp
    rcases List.mem_cons.1 h with q | q
    · cases q; exact hp.1
    · exact pend_spec hp.2 j e q
  | (j0, .val t0 p0 v0) :: r, hp, j, e, h => by
    simp only [pendOk, Bool.and_eq_true, Bool.or_eq_true] at hp
    rcases List.mem_cons.1 h with q | q
    · cases q
      refine hp.1.imp id fun q => ?_
      split at q
      · rename_i u hu
        show evLoad E st t0 p0 = some v0
        rw [hu, AV.eqb_eq _ _ q]
      · cases q
    · exact pend_spec hp.2 j e q

section
variable {R : Type} {E : Env} {call : CallK R} {D : List Deferred} {nt : Nat} {ops : Array Oper} {masks : List Nat} {base : Nat} {k : Slots → St → Option R} {r : R} {g0 : Gh} {st0 : St} {w0 : World}
variable {rest : List (Nat × Oper)} {L : List Debt} {pend : List (Nat × Pend)} {s : Slots} {st : St} {g : Gh} {a : Act} {w : World} {listed : Array Bool}

/-- The operation that writes, and stands first, is carried out. -/
theorem J.write (hfacts : FactsOk E) (hcall : CallOk E call) (hone : ∀ i o, ops[i]? = some o → One ops masks (i, o)) {i : Nat} {o : Oper} (h : J E call D nt ops masks base k r g0 st0 w0 ((i, o) :: rest) L pend s st g a w listed) (hW : isW o = true) (hr : i ∈ Region.ready .any ops listed) {K : Act → World → Prop} {Q : Exit → Act → World → Prop}
    (hK : ∀ pend' s' st' g' a' w', J E call D nt ops masks base k r g0 st0 w0 rest L pend' s' st' g' a' w' (listed.setIfInBounds i true) → K a' w') : wpOp E.P ops Q i K a w := by
  obtain ⟨hl0, o0, ho0, hall⟩ := mem_ready.1 hr
  have hself : (i, o) ∈ L.map Debt.it ++ (i, o) :: rest := List.mem_append.2 (.inr (List.mem_cons_self ..))
  have ho : ops[i]? = some o := (h.un _ hself).2
  have hbef := before_listed hone h.closed i o0 ho0 hall
  have hpp := List.pairwise_append.1 h.pairs
  have hdeb : ∀ d ∈ L, Pair ops masks d.it (i, o) := fun d hd => hpp.2.2 d.it (List.mem_map.2 ⟨d, hd, rfl⟩) (i, o) (List.mem_cons_self ..)
  have unl : ∀ x ∈ L, listed.getD x.j true = false ∧ x.j < ops.size := fun x hx => by
    obtain ⟨q1, q2⟩ := h.un x.it (List.mem_append.2 (.inl (List.mem_map.2 ⟨x, hx, rfl⟩)))
    exact ⟨q1, (Array.getElem?_eq_some_iff.1 q2).1⟩
  have nobit : ∀ d ∈ L, bit (masks.getD i 0) d.j = false := fun d hd => by
    cases hb : bit (masks.getD i 0) d.j with
    | false => rfl
    | true =>
      obtain ⟨q1, q2⟩ := unl d hd
      have := hbef d.j q2 hb
      rw [getD_tf q1] at this; cases this
  have hlook : ∀ t ∈ o.looksAt ops, ∀ x, s.get t = some x → Holds g a t x := fun t ht x hx => by
    rcases h.slots t x hx with ⟨d, q1, q2⟩ | q
    · have := (hdeb d q1).xy t q2 ht
      have hf := nobit d q1
      rw [show (masks.getD (i, o).1 0) = masks.getD i 0 from rfl] at this
      rw [show d.it.1 = d.j from rfl] at this
      rw [hf] at this; cases this
    · exact q
  have hlt : i < listed.size := by rw [h.lsize]; exact (Array.getElem?_eq_some_iff.1 ho).1
  have idx : ∀ x ∈ L.map Debt.it ++ rest, x.1 ≠ i := fun x hx => by
    rcases List.mem_append.1 hx with q | q
    · obtain ⟨y, hy, rfl⟩ := List.mem_map.1 q
      exact (hdeb y hy).ne
    · exact fun e => ((List.pairwise_cons.1 hpp.2.1).1 x q).ne e.symm
  have hsub : (L.map Debt.it ++ rest).Sublist (L.map Debt.it ++ (i, o) :: rest) := List.Sublist.append (List.Sublist.refl _) (List.sublist_cons_self ..)
  have run := h.run
  simp only [evDraw] at run
  -- what stands behind it
  have next : ∀ {v : AV} {v' : Value} {st' : St} {g' : Gh} {w' : World} {s' : Slots}, evDraw E call nt ops masks rest pend s' st' k = some r → (∀ d, o.dst = some d → d < nt ∧ s'.get d = some v) → (∀ t, o.dst ≠ some t → s'.get t = s.get t) → Rv g' v v' → Rw g' base st' w' → Goes base g st st' w g' w' → st'.Wf →
      (∀ d ∈ L, wanted ops d.s d.o = some true → NeedJ E d st' pend) → K (a.put o.dst v') w' := by
    intro v v' st' g' w' s' hrun hp1 hp2 hv hrw hgo hwf hneed
    refine hK pend s' st' g' _ w' ⟨h.fr.goes hrw hgo hwf, h.goes.trans hgo, fun t x hx => ?_, h.good, fun d hd t ht x hx => ?_, h.le0, fun d hd => (h.le d hd).trans hgo.mono, hneed, fun d hd l q1 q2 => ?_, fun d hd t q1 q2 hdead => ?_, fun d hd t ht => ?_, h.order, h.pairs.sublist hsub, fun x hx => ?_, fun j hj hlj => ?_, by simpa using h.lsize, fun j o' ho' hlj e he hb => ?_, hrun⟩
    · by_cases hd : o.dst = some t
      · obtain ⟨q1, q2⟩ := hp1 t hd
        rw [q2] at hx; cases hx
        rw [hd]
        exact .inr (Holds.put_eq hv (by rw [h.fr.size]; exact q1))
      · rw [hp2 t hd] at hx
        exact (h.slots t x hx).imp id fun q => (q.mono hgo.le).put_ne hd
    · have hne : o.dst ≠ some t := fun e => by
        have := (hdeb d hd).yx t e ht
        rw [show (masks.getD (i, o).1 0) = masks.getD i 0 from rfl, show d.it.1 = d.j from rfl, nobit d hd] at this; cases this
      exact (h.looks d hd t ht x hx).imp id fun q => (q.mono hgo.le).put_ne hne
    · have h0 := h.names d hd l q1 q2
      have hle := (h.le d hd).next
      exact ⟨none_of fun b q => by
        rcases hgo.rho l b q with q | ⟨q, _⟩
        · rw [h0.1] at q; cases q
        · omega, none_of fun b q => by
        rcases hgo.room l b q with q | ⟨q, _⟩
        · rw [h0.2] at q; cases q
        · omega⟩
    · rcases hgo.dead t hdead with q | ⟨q, _⟩
      · exact h.dead d hd t q1 q2 q
      · rw [(h.le d hd).spent t q2] at q; cases q
    · obtain ⟨q1, q2⟩ := h.value d hd t ht
      exact ⟨q1, by rw [hp2 t ((hdeb d hd).dst t ht)]; exact q2⟩
    · obtain ⟨q1, q2⟩ := h.un x (hsub.mem hx)
      exact ⟨by rw [getD_set_ne true (Ne.symm (idx x hx))]; exact q1, q2⟩
    · have hne : j ≠ i := fun e => by
        subst e
        simp [hlt] at hlj
      rw [getD_set_ne true (Ne.symm hne)] at hlj
      obtain ⟨x, q1, q2⟩ := h.cover j hj hlj
      refine ⟨x, ?_, q2⟩
      rcases List.mem_append.1 q1 with q | q
      · exact List.mem_append.2 (.inl q)
      · rcases List.mem_cons.1 q with q | q
        · subst q; exact absurd q2.symm hne
        · exact List.mem_append.2 (.inr q)
    · by_cases hij : i = j
      · subst hij
        rw [ho0] at ho'; cases ho'
        exact getD_set_true (hall e he hb)
      · rw [getD_set_ne false hij] at hlj
        exact getD_set_true (h.closed j o' ho' hlj e he hb)
  unfold wpOp
  rw [ho]
  simp only []
  cases hw : wanted ops s o with
  | none => rw [hw] at run; cases run
  | some b =>
    rw [hw] at run
    have hwd := wanted_spec hw hlook
    rw [hwd]
    cases b with
    | true =>
      simp only [hW, if_true] at run
      rw [if_pos rfl]
      refine .inl ((evOp_ok hfacts hcall run h.fr.wf h.fr.glob (rel_of h.fr.glob hlook) h.fr.rw h.fr.fresh).wp ?_)
      rintro v' w' ⟨v, st', g', q1, q2, q3, q4, q5⟩
      simp only [] at q5
      split at q5
      · rename_i hpok
        obtain ⟨s', p1, p2, p3⟩ := putSlot_spec q5
        refine next p1 p2 p3 q1 q2 q3 q4 fun d hd hwd => ?_
        have hn := h.need d hd hwd
        refine ⟨fun t p l off z1 z2 => ?_, fun z l hl => ?_⟩
        · obtain ⟨n1, n2, n3⟩ := hn.load t p l off z1 z2
          refine ⟨n1, ?_, n3⟩
          rcases pend_spec hpok _ _ n3 with q | q
          · rw [nobit d hd] at q; cases q
          · exact q
        · obtain ⟨n1, v0, n2, n3⟩ := hn.other z l hl
          refine ⟨?_, v0, n2, n3⟩
          rcases pend_spec hpok _ _ n3 with q | q
          · rw [nobit d hd] at q; cases q
          · have q : sameVer (verOf st' l) (some v0) = true := q
            unfold verOf at n2 q
            cases hab : d.st'.heap.get l with
            | none => rw [hab] at n2; cases n2
            | some ab =>
              rw [hab] at n2
              simp only [Option.map_some, Option.some.injEq] at n2
              obtain ⟨ab2, m1, _, m3⟩ := ((h.le d hd).trans q3.mono).heap l ab hab
              rw [m1] at q
              simp only [Option.map_some, sameVer] at q
              have := beq q
              rw [m1, m3 (by rw [this, n2])]
      · cases q5
    | false =>
      rw [if_neg (by simp)]
      obtain ⟨s', p1, p2, p3⟩ := putSlot_spec run
      exact next p1 p2 p3 rv_undef h.fr.rw (Goes.refl base g st w) h.fr.wf fun d hd hwd => h.need d hd hwd

/-- Whichever order comes up from here. -/
theorem draw_any (hfacts : FactsOk E) (hcall : CallOk E call) (hone : ∀ i o, ops[i]? = some o → One ops masks (i, o)) {Q : Exit → Act → World → Prop}
    (hQ : ∀ s st g a w, Fr E D base nt g st a w → RelS g s a → Goes base g0 st0 st w0 g w → k s st = some r → Q .normal a w) :
    ∀ (n : Nat) {rest : List (Nat × Oper)} {L : List Debt} {pend : List (Nat × Pend)} {s : Slots} {st : St} {g : Gh} {a : Act} {w : World} {listed : Array Bool}, L.length + rest.length = n → J E call D nt ops masks base k r g0 st0 w0 rest L pend s st g a w listed →
      wpAny E.P .any ops Q n listed a w
  | n, rest, L, pend, s, st, g, a, w, listed, hn, h => by
    obtain ⟨rest, L, pend, s, st, h, hhead, hlen⟩ := J.absorbAll hfacts _ h
    have hn : L.length + rest.length = n := by rw [hlen]; exact hn
    -- at the end
    have done : L = [] → rest = [] → Q .normal a w := fun e1 e2 => by
      subst e1; subst e2
      have run := h.run
      simp only [evDraw] at run
      exact hQ s st g a w h.fr (fun t x hx => (h.slots t x hx).elim (fun ⟨d, hd, _⟩ => by cases hd) id) h.goes run
    -- the first one waits for nobody
    have first : ∀ x, (L.map Debt.it ++ rest).head? = some x → x.1 ∈ Region.ready .any ops listed := fun x hx => by
      obtain ⟨tl, htl⟩ : ∃ tl, L.map Debt.it ++ rest = x :: tl := by
        cases hh : L.map Debt.it ++ rest with
        | nil => rw [hh] at hx; cases hx
        | cons y tl => rw [hh] at hx; simp at hx; exact ⟨tl, by rw [hx]⟩
      have hun := h.un x (by rw [htl]; exact List.mem_cons_self ..)
      refine mem_ready.2 ⟨hun.1, x.2, hun.2, fun e he hb => ?_⟩
      obtain ⟨q1, q2⟩ := (hone x.1 x.2 hun.2).edge e he hb
      have hsz : e.on < ops.size := by have := (Array.getElem?_eq_some_iff.1 hun.2).1; omega
      cases hle : listed.getD e.on false with
      | true => rfl
      | false =>
        have hlt : listed.getD e.on true = false := by
          have : e.on < listed.size := by rw [h.lsize]; exact hsz
          simp [this] at hle ⊢; exact hle
        obtain ⟨y, p1, p2⟩ := h.cover e.on hsz hlt
        rw [htl] at p1
        rcases List.mem_cons.1 p1 with q | q
        · subst q; exfalso; have q1 : e.on < y.1 := q1; omega
        · have hp := h.pairs
          rw [htl] at hp
          have := ((List.pairwise_cons.1 hp).1 y q).back
          rw [p2] at this
          rw [this] at q2; cases q2
    have stuck : Region.ready .any ops listed = [] → L = [] ∧ rest = [] := fun hr => by
      cases hh : L.map Debt.it ++ rest with
      | nil =>
        obtain ⟨q1, q2⟩ := List.append_eq_nil_iff.1 hh
        exact ⟨List.map_eq_nil_iff.1 q1, q2⟩
      | cons x tl =>
        have := first x (by rw [hh]; rfl)
        rw [hr] at this; cases this
    cases n with
    | zero =>
      have e1 : L = [] := List.eq_nil_of_length_eq_zero (by omega)
      have e2 : rest = [] := List.eq_nil_of_length_eq_zero (by omega)
      subst e1; subst e2
      refine ⟨?_, done rfl rfl⟩
      cases hr : Region.ready .any ops listed with
      | nil => rfl
      | cons i tl =>
        have hi : i ∈ Region.ready .any ops listed := by rw [hr]; exact List.mem_cons_self ..
        obtain ⟨q1, o, q2, _⟩ := mem_ready.1 hi
        obtain ⟨x, p1, _⟩ := h.cover i (Array.getElem?_eq_some_iff.1 q2).1 q1
        cases p1
    | succ n =>
      refine ⟨fun hr => done (stuck hr).1 (stuck hr).2, fun i hi => ?_⟩
      obtain ⟨q1, o', q2, hall⟩ := mem_ready.1 hi
      obtain ⟨x, p1, p2⟩ := h.cover i (Array.getElem?_eq_some_iff.1 q2).1 q1
      rcases List.mem_append.1 p1 with q | q
      · -- a debt
        obtain ⟨d, hd, rfl⟩ := List.mem_map.1 q
        have hdj : d.j = i := p2
        subst hdj
        obtain ⟨L1, L2, rfl⟩ := List.append_of_mem hd
        have hod : ops[d.j]? = some d.o := (h.un d.it p1).2
        have hbef := before_listed hone h.closed d.j o' q2 hall
        have hlook : ∀ t ∈ d.o.looksAt ops, ∀ x, d.s.get t = some x → Holds g a t x := fun t ht x hx => by
          rcases h.looks d hd t ht x hx with ⟨y, z1, _, z3⟩ | z
          · obtain ⟨u1, u2⟩ := h.un y.it (List.mem_append.2 (.inl (List.mem_map.2 ⟨y, z1, rfl⟩)))
            have := hbef y.j (Array.getElem?_eq_some_iff.1 u2).1 z3
            rw [show listed.getD y.j false = false from getD_tf u1] at this; cases this
          · exact z
        have go : ∀ {v' : Value} {g' : Gh} {w' : World}, Rv g' d.v v' → Rw g' base st w' → Goes base g d.st d.st' w g' w' → wpAny E.P .any ops Q n (listed.setIfInBounds d.j true) (a.put d.o.dst v') w' := fun z1 z2 z3 =>
          draw_any hfacts hcall hone hQ n (by simp at hn ⊢; omega) (h.pay hone hi z1 z2 z3)
        obtain ⟨_, hg⟩ := h.good d hd
        unfold wpOp
        rw [hod]
        simp only []
        rcases hg with ⟨hw, hN⟩ | ⟨hw, hv, hst⟩
        · rw [wanted_spec hw hlook, if_pos rfl]
          refine .inl ((hN.late g a w base st h.fr.glob.val (rel_of h.fr.glob hlook) h.fr.rw (h.le d hd) (h.need d hd hw).same (h.names d hd) (h.dead d hd)).wp ?_)
          rintro v' w' ⟨g', z1, z2, z3⟩
          exact go z1 z2 z3
        · rw [wanted_spec hw hlook, if_neg (by simp)]
          refine go (g' := g) (by rw [hv]; exact rv_undef) h.fr.rw ?_
          rw [hst]; exact Goes.refl base g d.st w
      · -- still to come: the first of it
        rcases hhead with e | ⟨y, r', e, hW⟩
        · subst e; cases q
        · subst e
          obtain ⟨iy, oy⟩ := y
          rcases List.mem_cons.1 q with q | q
          · subst q
            have hiy : iy = i := p2
            subst hiy
            exact h.write hfacts hcall hone hW hi fun pend' s' st' g' a' w' h' => draw_any hfacts hcall hone hQ n (by simp at hn; omega) h'
          · -- what stands behind one that writes waits for it
            exfalso
            have hpp := (List.pairwise_append.1 h.pairs).2.1
            have hb := ((List.pairwise_cons.1 hpp).1 x q).w hW
            rw [show (iy, oy).1 = iy from rfl, p2] at hb
            obtain ⟨u1, u2⟩ := h.un (iy, oy) (List.mem_append.2 (.inr (List.mem_cons_self ..)))
            have := before_listed hone h.closed i o' q2 hall iy (Array.getElem?_eq_some_iff.1 u2).1 hb
            rw [getD_tf u1] at this; cases this
end
end Go.VE
