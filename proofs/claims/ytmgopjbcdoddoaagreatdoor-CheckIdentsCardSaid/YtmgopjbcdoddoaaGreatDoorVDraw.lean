/- Regions that draw their order: whichever comes up, it comes to what the evaluation tells. No Go program is imported. -/
import Derived.Test.YtmgopjbcdoddoaaGreatDoorVFrame
import Derived.OrdersHeld
set_option linter.unusedSimpArgs false
set_option linter.unusedVariables false
namespace Go.VE
open Go.RowKit

/-- An operation that the evaluation has carried out, and a run not yet. -/
structure Debt where
  j : Nat
  o : Oper
  s : Slots
  st : St
  st' : St
  v : AV

def Debt.it (d : Debt) : Nat × Oper := (d.j, d.o)
def Debt.good (E : Env) (ops : Array Oper) (d : Debt) : Prop :=
  isW d.o = false ∧ ((wanted ops d.s d.o = some true ∧ NOk E d.s d.st d.o d.v d.st') ∨ (wanted ops d.s d.o = some false ∧ d.v = .tup [] ∧ d.st' = d.st))

/-- What a debt has read is there still. -/
structure NeedJ (E : Env) (d : Debt) (st : St) (pend : List (Nat × Pend)) : Prop where
  load : ∀ t p l off, d.o.op = .load t p → look E d.s p = some (.ptr l off) → evLoad E d.st' t (.ptr l off) = some d.v ∧ evLoad E st t (.ptr l off) = some d.v ∧ (d.j, .val t (.ptr l off) d.v) ∈ pend
  other : isLoad d.o = false → ∀ l, needOf E d.s d.st d.o = some l → st.heap.get l = d.st'.heap.get l ∧ ∃ v, verOf d.st' l = some v ∧ (d.j, .ver l v) ∈ pend
theorem NeedJ.same {E : Env} {d : Debt} {st : St} {pend : List (Nat × Pend)} (h : NeedJ E d st pend) : NeedSame E d.s d.st d.o st d.st' :=
  ⟨fun t p l off q1 q2 => (h.load t p l off q1 q2).2.1.trans (h.load t p l off q1 q2).1.symm, fun q l hl => (h.other q l hl).1⟩
theorem evLoad_keep {E : Env} {st st' : St} (hs : ∀ l ab, st.heap.get l = some ab → st'.heap.get l = some ab) {t : TypeId} {l off : Nat} {v : AV} (h : evLoad E st t (.ptr l off) = some v) : evLoad E st' t (.ptr l off) = some v := by
  have hc : ∀ {n cs}, cellsAt st n (.ptr l off) = some cs → cellsAt st' n (.ptr l off) = some cs := fun {n cs} q => by
    simp only [cellsAt] at q ⊢
    cases hl : st.heap.get l with
    | none => rw [hl] at q; cases q
    | some ab => rw [hl] at q; rw [hs l ab hl]; exact q
  unfold evLoad at h ⊢
  split at h
  · rename_i n ha hn
    cases hq : cellsAt st n (.ptr l off) with
    | none => rw [hq] at h; cases h
    | some cs => rw [hq] at h; simp only [ha, hn, hc hq]; exact h
  · rename_i ha
    split at h
    · rename_i a hq
      simp only [ha, hc hq]; exact h
    · cases h
  · cases h
theorem NeedJ.later {E : Env} {d : Debt} {st st' : St} {pend pend' : List (Nat × Pend)} (h : NeedJ E d st pend) (hs : ∀ l ab, st.heap.get l = some ab → st'.heap.get l = some ab) (hp : ∀ x ∈ pend, x ∈ pend') : NeedJ E d st' pend' :=
  ⟨fun t p l off q1 q2 => by
    obtain ⟨z1, z2, z3⟩ := h.load t p l off q1 q2
    exact ⟨z1, evLoad_keep hs z2, hp _ z3⟩, fun q l hl => by
    obtain ⟨q1, v0, q2, q3⟩ := h.other q l hl
    refine ⟨?_, v0, q2, hp _ q3⟩
    cases hab : d.st'.heap.get l with
    | none => unfold verOf at q2; rw [hab] at q2; cases q2
    | some ab => rw [hab] at q1; exact hs l ab q1⟩

theorem has_of {d : Option Tmp} {t : Tmp} {l : List Tmp} (h : d = some t) (m : t ∈ l) : has d l = true := by
  subst h
  unfold has
  simp only [List.any_eq_true]
  exact ⟨t, m, by simp⟩
theorem same_of {a b : Option Tmp} {t : Tmp} (h : a = some t) (k : b = some t) : sameDst a b = true := by
  subst h; subst k; unfold sameDst; simp

structure Pair (ops : Array Oper) (masks : List Nat) (x y : Nat × Oper) : Prop where
  ne : x.1 ≠ y.1
  back : bit (masks.getD x.1 0) y.1 = false
  dst : ∀ t, x.2.dst = some t → y.2.dst ≠ some t
  w : isW x.2 = true → bit (masks.getD y.1 0) x.1 = true
  xy : ∀ t, x.2.dst = some t → t ∈ y.2.looksAt ops → bit (masks.getD y.1 0) x.1 = true
  yx : ∀ t, y.2.dst = some t → t ∈ x.2.looksAt ops → bit (masks.getD y.1 0) x.1 = true
theorem pair_of {ops : Array Oper} {masks : List Nat} {x y : Nat × Oper} (h : pairOk ops masks x y = true) : Pair ops masks x y := by
  unfold pairOk at h
  simp only [Bool.and_eq_true, Bool.or_eq_true, Bool.not_eq_true'] at h
  obtain ⟨⟨⟨h1, h2⟩, h3⟩, h4⟩ := h
  refine ⟨fun e => ?_, h2, fun t a b => ?_, fun hw => ?_, fun t a b => ?_, fun t a b => ?_⟩
  · rw [e] at h1; simp at h1
  · rw [same_of a b] at h3; cases h3
  · rcases h4 with q | ⟨⟨q, _⟩, _⟩
    · exact q
    · rw [hw] at q; cases q
  · rcases h4 with q | ⟨⟨_, q⟩, _⟩
    · exact q
    · rw [has_of a b] at q; cases q
  · rcases h4 with q | ⟨⟨_, _⟩, q⟩
    · exact q
    · rw [has_of a b] at q; cases q

structure One (ops : Array Oper) (masks : List Nat) (x : Nat × Oper) : Prop where
  own : bit (masks.getD x.1 0) x.1 = false
  edge : ∀ e ∈ x.2.after, Region.binds .any e = true → e.on < x.1 ∧ bit (masks.getD x.1 0) e.on = true
  mask : ∀ b, b < ops.size → bit (masks.getD x.1 0) b = true → ∃ e ∈ x.2.after, Region.binds .any e = true ∧ (e.on = b ∨ bit (masks.getD e.on 0) b = true)
  self : ∀ t, x.2.dst = some t → t ∉ x.2.looksAt ops
theorem one_of {ops : Array Oper} {masks : List Nat} {x : Nat × Oper} (h : oneOk ops masks x = true) : One ops masks x := by
  unfold oneOk at h
  simp only [Bool.and_eq_true, Bool.not_eq_true', List.all_eq_true, Bool.or_eq_true] at h
  obtain ⟨⟨⟨⟨_, h2⟩, h3⟩, h4⟩, h5⟩ := h
  refine ⟨h2, fun e he hb => ?_, fun b hb hm => ?_, fun t a b => ?_⟩
  · rcases h3 e (Array.mem_toList_iff.2 he) with q | ⟨q1, q2⟩
    · rw [hb] at q; cases q
    · exact ⟨blt q1, q2⟩
  · rcases h4 b (List.mem_range.2 hb) with q | q
    · rw [hm] at q; cases q
    · simp only [List.any_eq_true, Bool.and_eq_true, Bool.or_eq_true] at q
      obtain ⟨e, he, hbd, q⟩ := q
      refine ⟨e, Array.mem_toList_iff.1 he, hbd, ?_⟩
      rcases q with q | q
      · exact .inl (beq q)
      · exact .inr q
  · rw [has_of a b] at h5; cases h5

section
variable {R : Type} {E : Env} {call : CallK R} {D : List Deferred} {nt : Nat} {ops : Array Oper} {masks : List Nat} {base : Nat} {k : Slots → St → Option R} {r : R} {g0 : Gh} {st0 : St} {w0 : World}

/-- All that comes ahead of an operation has come, if all that it waits for has. -/
theorem before_listed (hone : ∀ i o, ops[i]? = some o → One ops masks (i, o)) {listed : Array Bool} (hc : ∀ i o, ops[i]? = some o → listed.getD i false = true → ∀ e ∈ o.after, Region.binds .any e = true → listed.getD e.on false = true) :
    ∀ (i : Nat) (o : Oper), ops[i]? = some o → (∀ e ∈ o.after, Region.binds .any e = true → listed.getD e.on false = true) → ∀ b, b < ops.size → bit (masks.getD i 0) b = true → listed.getD b false = true := by
  intro i
  induction i using Nat.strongRecOn with
  | _ i ih =>
    intro o ho hall b hb hm
    obtain ⟨e, he, hbd, q⟩ := (hone i o ho).mask b hb hm
    have hl := hall e he hbd
    rcases q with q | q
    · rw [← q]; exact hl
    · have hlt := ((hone i o ho).edge e he hbd).1
      have hi : i < ops.size := (Array.getElem?_eq_some_iff.1 ho).1
      have hoe : ops[e.on]? = some ops[e.on] := Array.getElem?_eq_getElem (by omega)
      exact ih e.on hlt _ hoe (hc e.on _ hoe hl) b hb q

/-- How a run stands beside the evaluation: the debts, what is still to come. -/
structure J (E : Env) (call : CallK R) (D : List Deferred) (nt : Nat) (ops : Array Oper) (masks : List Nat) (base : Nat) (k : Slots → St → Option R) (r : R) (g0 : Gh) (st0 : St) (w0 : World)
    (rest : List (Nat × Oper)) (L : List Debt) (pend : List (Nat × Pend)) (s : Slots) (st : St) (g : Gh) (a : Act) (w : World) (listed : Array Bool) : Prop where
  fr : Fr E D base nt g st a w
  goes : Goes base g0 st0 st w0 g w
  slots : ∀ t x, s.get t = some x → (∃ d ∈ L, d.o.dst = some t) ∨ Holds g a t x
  good : ∀ d ∈ L, d.good E ops
  looks : ∀ d ∈ L, ∀ t ∈ d.o.looksAt ops, ∀ x, d.s.get t = some x → (∃ d' ∈ L, d'.o.dst = some t ∧ bit (masks.getD d.j 0) d'.j = true) ∨ Holds g a t x
  le0 : ∀ d ∈ L, st0.le d.st
  le : ∀ d ∈ L, d.st'.le st
  need : ∀ d ∈ L, wanted ops d.s d.o = some true → NeedJ E d st pend
  names : ∀ d ∈ L, ∀ l, d.st.next ≤ l → l < d.st'.next → g.rho l = none ∧ g.room l = none
  dead : ∀ d ∈ L, ∀ t, d.st.spent.get t = none → d.st'.spent.get t = some () → ¬ g.dead t
  value : ∀ d ∈ L, ∀ t, d.o.dst = some t → t < nt ∧ s.get t = some d.v
  order : L.Pairwise fun d d' => d.st'.le d'.st ∧ ∀ t, d.o.dst = some t → d'.s.get t = some d.v
  pairs : (L.map Debt.it ++ rest).Pairwise (Pair ops masks)
  un : ∀ x ∈ L.map Debt.it ++ rest, listed.getD x.1 true = false ∧ ops[x.1]? = some x.2
  cover : ∀ i, i < ops.size → listed.getD i true = false → ∃ x ∈ L.map Debt.it ++ rest, x.1 = i
  lsize : listed.size = ops.size
  closed : ∀ i o, ops[i]? = some o → listed.getD i false = true → ∀ e ∈ o.after, Region.binds .any e = true → listed.getD e.on false = true
  run : evDraw E call nt ops masks rest pend s st k = some r

theorem Goes.wider {base : Nat} {g g' : Gh} {st st' st2 : St} {w w' : World} (h : Goes base g st st' w g' w') (k : st'.le st2) : Goes base g st st2 w g' w' :=
  ⟨h.le, h.mono.trans k, h.below, fun l b q => (h.rho l b q).imp id fun ⟨p, q⟩ => ⟨p, Nat.lt_of_lt_of_le q k.next⟩, fun l b q => (h.room l b q).imp id fun ⟨p, q⟩ => ⟨p, Nat.lt_of_lt_of_le q k.next⟩, fun t q => (h.dead t q).imp id fun ⟨p, q⟩ => ⟨p, k.spent t q⟩, h.fzb⟩
/-- What was evaluated before is carried out now. -/
theorem Goes.later {base : Nat} {g g1 g2 : Gh} {st0 st d d' : St} {w w1 w2 : World} (h : Goes base g st0 st w g1 w1) (k : Goes base g1 d d' w1 g2 w2) (h0 : st0.le d) (h1 : d'.le st) : Goes base g st0 st w g2 w2 where
  le := h.le.trans k.le
  mono := h.mono
  below := h.below.trans k.below
  rho := fun l b q => by
    rcases k.rho l b q with q | ⟨q1, q2⟩
    · exact h.rho l b q
    · exact .inr ⟨Nat.le_trans h0.next q1, Nat.lt_of_lt_of_le q2 h1.next⟩
  room := fun l b q => by
    rcases k.room l b q with q | ⟨q1, q2⟩
    · exact h.room l b q
    · exact .inr ⟨Nat.le_trans h0.next q1, Nat.lt_of_lt_of_le q2 h1.next⟩
  dead := fun t q => by
    rcases k.dead t q with q | ⟨q1, q2⟩
    · exact h.dead t q
    · exact .inr ⟨unit_none (fun q => by rw [h0.spent t q] at q1; cases q1), h1.spent t q2⟩
  fzb := fun b o v q => (k.fzb b o v q).elim (fun q => h.fzb b o v q) .inr

theorem getD_tf {listed : Array Bool} {i : Nat} (h : listed.getD i true = false) : listed.getD i false = false := by
  rcases Nat.lt_or_ge i listed.size with h' | h'
  · simp [h'] at h ⊢; exact h
  · simp [Array.getElem?_eq_none h'] at h

variable {rest : List (Nat × Oper)} {L : List Debt} {pend : List (Nat × Pend)} {s : Slots} {st : St} {g : Gh} {a : Act} {w : World} {listed : Array Bool}

/-- An operation that writes nothing becomes a debt. -/
theorem J.absorb (hfacts : FactsOk E) {i : Nat} {o : Oper} (h : J E call D nt ops masks base k r g0 st0 w0 ((i, o) :: rest) L pend s st g a w listed) (hN : isW o = false) :
    ∃ d pend' s' st', J E call D nt ops masks base k r g0 st0 w0 rest (L ++ [d]) pend' s' st' g a w listed := by
  have hmap : ∀ d : Debt, d.it = (i, o) → (L ++ [d]).map Debt.it ++ rest = L.map Debt.it ++ ((i, o) :: rest) := fun d hd => by simp [hd]
  have hpw := List.pairwise_append.1 h.pairs
  have run := h.run
  simp only [evDraw] at run
  -- what any such debt keeps
  have key : ∀ {v : AV} {st' : St} {s' : Slots} {pend' : List (Nat × Pend)}, st.le st' → st'.Wf → (∀ l ab, st.heap.get l = some ab → st'.heap.get l = some ab) →
      Debt.good E ops ⟨i, o, s, st, st', v⟩ → (∀ d, o.dst = some d → d < nt ∧ s'.get d = some v) → (∀ t, o.dst ≠ some t → s'.get t = s.get t) →
      (∀ x ∈ pend, x ∈ pend') → (wanted ops s o = some true → NeedJ E ⟨i, o, s, st, st', v⟩ st' pend') → evDraw E call nt ops masks rest pend' s' st' k = some r →
      J E call D nt ops masks base k r g0 st0 w0 rest (L ++ [⟨i, o, s, st, st', v⟩]) pend' s' st' g a w listed := by
    intro v st' s' pend' hle hwf hsame hgood hp1 hp2 hpend hneed hrun
    have hx : ∀ d ∈ L, Pair ops masks d.it (i, o) := fun d hd => hpw.2.2 d.it (List.mem_map.2 ⟨d, hd, rfl⟩) (i, o) (List.mem_cons_self ..)
    have mem : ∀ {P : Debt → Prop}, (∀ d ∈ L, P d) → P ⟨i, o, s, st, st', v⟩ → ∀ d ∈ L ++ [⟨i, o, s, st, st', v⟩], P d := fun h1 h2 d hd => by
      rcases List.mem_append.1 hd with q | q
      · exact h1 d q
      · rw [List.mem_singleton.1 q]; exact h2
    refine ⟨⟨h.fr.size, h.fr.defers, h.fr.glob, h.fr.rw.st (fun l b q => ?_) hle.spent, fun l hl => h.fr.fresh l (Nat.le_trans hle.next hl), hwf⟩, h.goes.wider hle, fun t x hx' => ?_, mem h.good hgood, mem (fun d hd t ht x hx' => ?_) (fun t ht x hx' => ?_), mem h.le0 h.goes.mono,
      mem (fun d hd => (h.le d hd).trans hle) (.refl st'), mem (fun d hd hwd => (h.need d hd hwd).later hsame hpend) hneed, mem h.names (fun l h1 _ => h.fr.fresh l h1), mem h.dead (fun t h1 _ hd => by rw [h.fr.rw.spent t hd] at h1; cases h1),
      mem (fun d hd t ht => ?_) (fun t ht => hp1 t ht), ?_, by rw [hmap _ rfl]; exact h.pairs, by rw [hmap _ rfl]; exact h.un, by rw [hmap _ rfl]; exact h.cover, h.lsize, h.closed, hrun⟩
    · obtain ⟨_, _, ab, q1, _⟩ := h.fr.rw.lab l b q
      rw [hsame l ab q1, q1]
    · by_cases hd : o.dst = some t
      · exact .inl ⟨_, List.mem_append.2 (.inr (List.mem_singleton.2 rfl)), hd⟩
      · rw [hp2 t hd] at hx'
        exact (h.slots t x hx').imp (fun ⟨d, q1, q2⟩ => ⟨d, List.mem_append.2 (.inl q1), q2⟩) id
    · exact (h.looks d hd t ht x hx').imp (fun ⟨d', q1, q2⟩ => ⟨d', List.mem_append.2 (.inl q1), q2⟩) id
    · rcases h.slots t x hx' with ⟨d, q1, q2⟩ | q
      · exact .inl ⟨d, List.mem_append.2 (.inl q1), q2, (hx d q1).xy t q2 ht⟩
      · exact .inr q
    · obtain ⟨q1, q2⟩ := h.value d hd t ht
      exact ⟨q1, by rw [hp2 t (fun e => (hx d hd).dst t ht e)]; exact q2⟩
    · refine List.pairwise_append.2 ⟨h.order, List.pairwise_singleton _ _, fun d hd d' hd' => ?_⟩
      rw [List.mem_singleton.1 hd']
      exact ⟨h.le d hd, fun t ht => (h.value d hd t ht).2⟩
  cases hw : wanted ops s o with
  | none => rw [hw] at run; cases run
  | some b =>
    rw [hw] at run
    cases b with
    | true =>
      simp only [hN, Bool.false_eq_true, if_false] at run
      split at run
      · rename_i t p ho
        split at run
        · rename_i l off hl
          split at run
          · rename_i v he
            have hn := evLoad_ok ho hl he h.fr.wf
            obtain ⟨s', p1, p2, p3⟩ := putSlot_spec run
            refine ⟨_, _, s', st, key (.refl st) h.fr.wf (fun _ _ h => h) ⟨hN, .inl ⟨hw, hn⟩⟩ p2 p3 (fun _ h => List.mem_cons_of_mem _ h) (fun _ => ⟨fun t' p' l' off' q1 q2 => ?_, fun q => by unfold isLoad at q; rw [ho] at q; cases q⟩) p1⟩
            have q1 : o.op = .load t' p' := q1
            have q2 : look E s p' = some (.ptr l' off') := q2
            rw [ho] at q1
            cases q1
            rw [hl] at q2
            cases q2
            exact ⟨he, he, List.mem_cons_self ..⟩
          · cases run
        · rename_i a hne hl
          split at run
          · rename_i v he
            have hn := evLoad_ok ho hl he h.fr.wf
            obtain ⟨s', p1, p2, p3⟩ := putSlot_spec run
            refine ⟨_, pend, s', st, key (.refl st) h.fr.wf (fun _ _ h => h) ⟨hN, .inl ⟨hw, hn⟩⟩ p2 p3 (fun _ h => h) (fun _ => ⟨fun t' p' l' off' q1 q2 => ?_, fun q => by unfold isLoad at q; rw [ho] at q; cases q⟩) p1⟩
            have q1 : o.op = .load t' p' := q1
            have q2 : look E s p' = some (.ptr l' off') := q2
            rw [ho] at q1
            cases q1
            rw [hl] at q2
            cases q2
            exact absurd rfl (hne _ _)
          · cases run
        · cases run
      · rename_i hnl
        have hisl : isLoad o = false := by
          unfold isLoad
          split
          · rename_i t p ho; exact absurd ho (hnl t p)
          · rfl
        have noload : ∀ {d : Debt} {t : TypeId} {p : Operand}, d.o = o → d.o.op = .load t p → False := fun {d t p} e q => hnl t p (by rw [← e]; exact q)
        obtain ⟨v, st', hn, hk⟩ := evN_ok hfacts hN run h.fr.wf
        obtain ⟨s', p1, p2, p3⟩ := putSlot_spec hk
        cases hneed : needOf E s st o with
        | none =>
          rw [hneed] at p1
          exact ⟨_, pend, s', st', key hn.le hn.wf hn.same ⟨hN, .inl ⟨hw, hn⟩⟩ p2 p3 (fun _ h => h) (fun _ => ⟨fun t p l off q1 _ => (hnl t p q1).elim, fun _ l hl => by
            have hl : needOf E s st o = some l := hl
            rw [hneed] at hl; cases hl⟩) p1⟩
        | some l0 =>
          rw [hneed] at p1
          simp only [] at p1
          cases hv : verOf st' l0 with
          | none => rw [hv] at p1; cases p1
          | some ve =>
            rw [hv] at p1
            exact ⟨_, _, s', st', key hn.le hn.wf hn.same ⟨hN, .inl ⟨hw, hn⟩⟩ p2 p3 (fun _ h => List.mem_cons_of_mem _ h) (fun _ => ⟨fun t p l off q1 _ => (hnl t p q1).elim, fun _ l hl => by
              have hl : needOf E s st o = some l := hl
              rw [hneed] at hl; cases hl; exact ⟨rfl, ve, hv, List.mem_cons_self ..⟩⟩) p1⟩
    | false =>
      obtain ⟨s', p1, p2, p3⟩ := putSlot_spec run
      exact ⟨_, pend, s', st, key (.refl st) h.fr.wf (fun _ _ h => h) ⟨hN, .inr ⟨hw, rfl, rfl⟩⟩ p2 p3 (fun _ h => h) (fun hwt => by rw [hw] at hwt; cases hwt) p1⟩

/-- All operations that write nothing and stand first become debts. -/
theorem J.absorbAll (hfacts : FactsOk E) : ∀ (rest : List (Nat × Oper)) {L : List Debt} {pend : List (Nat × Pend)} {s : Slots} {st : St} {g : Gh} {a : Act} {w : World} {listed : Array Bool}, J E call D nt ops masks base k r g0 st0 w0 rest L pend s st g a w listed →
    ∃ rest' L' pend' s' st', J E call D nt ops masks base k r g0 st0 w0 rest' L' pend' s' st' g a w listed ∧ (rest' = [] ∨ ∃ x r', rest' = x :: r' ∧ isW x.2 = true) ∧ L'.length + rest'.length = L.length + rest.length
  | [], L, pend, s, st, g, a, w, listed, h => ⟨_, _, _, _, _, h, .inl rfl, rfl⟩
  | (i, o) :: rest, L, pend, s, st, g, a, w, listed, h => by
    cases hW : isW o with
    | true => exact ⟨_, _, _, _, _, h, .inr ⟨_, _, rfl, hW⟩, rfl⟩
    | false =>
      obtain ⟨d, pend', s', st', h'⟩ := h.absorb hfacts hW
      obtain ⟨rest2, L2, pend2, s2, st2, q1, q2, q3⟩ := J.absorbAll hfacts rest h'
      exact ⟨rest2, L2, pend2, s2, st2, q1, q2, by rw [q3]; simp; omega⟩

/-- A debt is paid. -/
theorem J.pay (hone : ∀ i o, ops[i]? = some o → One ops masks (i, o)) {L1 L2 : List Debt} {d : Debt} (h : J E call D nt ops masks base k r g0 st0 w0 rest (L1 ++ d :: L2) pend s st g a w listed) (hr : d.j ∈ Region.ready .any ops listed) :
    ∀ {v' : Value} {g' : Gh} {w' : World}, Rv g' d.v v' → Rw g' base st w' → Goes base g d.st d.st' w g' w' → J E call D nt ops masks base k r g0 st0 w0 rest (L1 ++ L2) pend s st g' (a.put d.o.dst v') w' (listed.setIfInBounds d.j true) := by
  intro v' g' w' hv hrw hgo
  obtain ⟨hl0, o0, ho0, hall⟩ := mem_ready.1 hr
  have hmem : ∀ {x}, x ∈ L1 ++ L2 → x ∈ L1 ++ d :: L2 := fun {x} hx => by
    rcases List.mem_append.1 hx with q | q
    · exact List.mem_append.2 (.inl q)
    · exact List.mem_append.2 (.inr (List.mem_cons_of_mem _ q))
  have hd : d ∈ L1 ++ d :: L2 := List.mem_append.2 (.inr (List.mem_cons_self ..))
  have hsub : (L1 ++ L2).map Debt.it ++ rest |>.Sublist ((L1 ++ d :: L2).map Debt.it ++ rest) := by
    refine List.Sublist.append ?_ (List.Sublist.refl _)
    exact (List.Sublist.append (List.Sublist.refl _) (List.sublist_cons_self ..)).map _
  have hod : ops[d.j]? = some d.o := (h.un d.it (List.mem_append.2 (.inl (List.mem_map.2 ⟨d, hd, rfl⟩)))).2
  have hbef := before_listed hone h.closed d.j o0 ho0 hall
  have unl : ∀ x ∈ L1 ++ d :: L2, listed.getD x.j true = false ∧ x.j < ops.size := fun x hx => by
    obtain ⟨q1, q2⟩ := h.un x.it (List.mem_append.2 (.inl (List.mem_map.2 ⟨x, hx, rfl⟩)))
    exact ⟨q1, (Array.getElem?_eq_some_iff.1 q2).1⟩
  have nobit : ∀ x ∈ L1 ++ d :: L2, bit (masks.getD d.j 0) x.j = true → False := fun x hx hb => by
    obtain ⟨q1, q2⟩ := unl x hx
    have := hbef x.j q2 hb
    rw [getD_tf q1] at this; cases this
  -- the pairs with the debt that is paid
  have hpp := List.pairwise_append.1 h.pairs
  have hpl : (L1 ++ d :: L2).Pairwise fun x y => Pair ops masks x.it y.it := by
    have := hpp.1
    rw [List.pairwise_map] at this; exact this
  have hpl2 := List.pairwise_append.1 hpl
  have before : ∀ x ∈ L1, Pair ops masks x.it d.it := fun x hx => hpl2.2.2 x hx d (List.mem_cons_self ..)
  have behind : ∀ x ∈ L2, Pair ops masks d.it x.it := fun x hx => (List.pairwise_cons.1 hpl2.2.1).1 x hx
  have ord2 := List.pairwise_append.1 h.order
  have obefore : ∀ x ∈ L1, x.st'.le d.st := fun x hx => (ord2.2.2 x hx d (List.mem_cons_self ..)).1
  have obehind : ∀ x ∈ L2, d.st'.le x.st ∧ ∀ t, d.o.dst = some t → x.s.get t = some d.v := fun x hx => (List.pairwise_cons.1 ord2.2.1).1 x hx
  have hval := h.value d hd
  have hput : ∀ t, d.o.dst = some t → Holds g' (a.put d.o.dst v') t d.v := fun t ht => by
    rw [ht]; exact Holds.put_eq hv (by rw [h.fr.size]; exact (hval t ht).1)
  have part : ∀ {x}, x ∈ L1 ++ d :: L2 → x = d ∨ x ∈ L1 ++ L2 := fun {x} hx => by
    rcases List.mem_append.1 hx with q | q
    · exact .inr (List.mem_append.2 (.inl q))
    · rcases List.mem_cons.1 q with q | q
      · exact .inl q
      · exact .inr (List.mem_append.2 (.inr q))
  have idx : ∀ x ∈ (L1 ++ L2).map Debt.it ++ rest, x.1 ≠ d.j := fun x hx => by
    rcases List.mem_append.1 hx with q | q
    · obtain ⟨y, hy, rfl⟩ := List.mem_map.1 q
      rcases List.mem_append.1 hy with q | q
      · exact (before y q).ne
      · exact fun e => (behind y q).ne e.symm
    · exact fun e => (hpp.2.2 d.it (List.mem_map.2 ⟨d, hd, rfl⟩) x q).ne e.symm
  have hlt : d.j < listed.size := by rw [h.lsize]; exact (unl d hd).2
  refine ⟨⟨by rw [put_size]; exact h.fr.size, by rw [put_defers]; exact h.fr.defers, h.fr.glob.mono hgo.le, hrw, fun l hl => ?_, h.fr.wf⟩, h.goes.later hgo (h.le0 d hd) (h.le d hd), fun t x hx => ?_, fun x hx => h.good x (hmem hx), fun x hx t ht y hy => ?_, fun x hx => h.le0 x (hmem hx), fun x hx => h.le x (hmem hx), fun x hx => h.need x (hmem hx),
    fun x hx l q1 q2 => ?_, fun x hx t q1 q2 => ?_, fun x hx => h.value x (hmem hx), ?_, h.pairs.sublist hsub, fun x hx => ?_, fun i hi hli => ?_, by simpa using h.lsize, fun i o ho hli e he hb => ?_, h.run⟩
  · have h0 := h.fr.fresh l hl
    have hle := h.le d hd
    exact ⟨none_of fun b q => by
      rcases hgo.rho l b q with q | ⟨_, q⟩
      · rw [h0.1] at q; cases q
      · have := hle.next; omega, none_of fun b q => by
      rcases hgo.room l b q with q | ⟨_, q⟩
      · rw [h0.2] at q; cases q
      · have := hle.next; omega⟩
  · by_cases ht : d.o.dst = some t
    · rw [(hval t ht).2] at hx; cases hx
      exact .inr (hput t ht)
    · rcases h.slots t x hx with ⟨y, q1, q2⟩ | q
      · rcases part q1 with e | q1
        · subst e; exact absurd q2 ht
        · exact .inl ⟨y, q1, q2⟩
      · exact .inr ((q.mono hgo.le).put_ne ht)
  · by_cases hdt : d.o.dst = some t
    · -- it looks at what the debt writes
      rcases List.mem_append.1 hx with q | q
      · exact (nobit x (hmem hx) ((before x q).yx t hdt ht)).elim
      · rw [(obehind x q).2 t hdt] at hy; cases hy
        exact .inr (hput t hdt)
    · rcases h.looks x (hmem hx) t ht y hy with ⟨z, q1, q2, q3⟩ | q
      · rcases part q1 with e | q1
        · subst e; exact absurd q2 hdt
        · exact .inl ⟨z, q1, q2, q3⟩
      · exact .inr ((q.mono hgo.le).put_ne hdt)
  · have h0 := h.names x (hmem hx) l q1 q2
    have out : l < d.st.next ∨ d.st'.next ≤ l := by
      rcases List.mem_append.1 hx with q | q
      · have := (obefore x q).next; omega
      · have := (obehind x q).1.next; omega
    exact ⟨none_of fun b q => by
      rcases hgo.rho l b q with q | ⟨q, q'⟩
      · rw [h0.1] at q; cases q
      · omega, none_of fun b q => by
      rcases hgo.room l b q with q | ⟨q, q'⟩
      · rw [h0.2] at q; cases q
      · omega⟩
  · intro hdead
    rcases hgo.dead t hdead with q | ⟨q3, q4⟩
    · exact h.dead x (hmem hx) t q1 q2 q
    · rcases List.mem_append.1 hx with q | q
      · rw [(obefore x q).spent t q2] at q3; cases q3
      · rw [(obehind x q).1.spent t q4] at q1; cases q1
  · exact List.pairwise_append.2 ⟨ord2.1, (List.pairwise_cons.1 ord2.2.1).2, fun x hx y hy => ord2.2.2 x hx y (List.mem_cons_of_mem _ hy)⟩
  · obtain ⟨q1, q2⟩ := h.un x (hsub.mem hx)
    exact ⟨by rw [getD_set_ne true (Ne.symm (idx x hx))]; exact q1, q2⟩
  · have hne : i ≠ d.j := fun e => by
      subst e
      simp [hlt] at hli
    rw [getD_set_ne true (Ne.symm hne)] at hli
    obtain ⟨x, q1, q2⟩ := h.cover i hi hli
    refine ⟨x, ?_, q2⟩
    rcases List.mem_append.1 q1 with q | q
    · obtain ⟨y, hy, rfl⟩ := List.mem_map.1 q
      rcases part hy with e | hy
      · subst e; exact absurd q2.symm hne
      · exact List.mem_append.2 (.inl (List.mem_map.2 ⟨y, hy, rfl⟩))
    · exact List.mem_append.2 (.inr q)
  · by_cases hij : d.j = i
    · subst hij
      rw [ho0] at ho; cases ho
      exact getD_set_true (hall e he hb)
    · rw [getD_set_ne false hij] at hli
      exact getD_set_true (h.closed i o ho hli e he hb)
end
end Go.VE
