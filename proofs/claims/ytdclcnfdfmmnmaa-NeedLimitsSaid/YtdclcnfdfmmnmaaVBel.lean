/- Of which names a value speaks; names made by a call that nobody needs behind it are forgotten. No Go program is imported. -/
import Derived.Test.YtdclcnfdfmmnmaaVCfg
set_option linter.unusedSimpArgs false
set_option linter.unusedVariables false
namespace Go.VE
open Go.RowKit

/-- Two that tell the same of names below n. -/
structure Alike (n : Nat) (g h : Gh) : Prop where
  rho : ∀ l, l < n → h.rho l = g.rho l
  room : ∀ t, t < n → h.room t = g.room t
  fz : h.fz = g.fz
  val : h.val = g.val
  wide : h.wide = g.wide

mutual
theorem bel_rv {n : Nat} {g h : Gh} (al : Alike n g h) : ∀ (a : AV) (v : Value), bel n a = true → Rv g a v → Rv h a v
  | .ptr l o, v, p, k => by
    simp only [Rv] at k ⊢
    obtain ⟨b, k1, k2⟩ := k
    exact ⟨b, (al.rho l (blt p)).trans k1, k2⟩
  | .view l o m c, v, p, k => by
    simp only [Rv] at k ⊢
    obtain ⟨b, k1, k2⟩ := k
    exact ⟨b, (al.rho l (blt p)).trans k1, k2⟩
  | .map l, v, p, k => by
    simp only [Rv] at k ⊢
    obtain ⟨b, k1, k2⟩ := k
    exact ⟨b, (al.rho l (blt p)).trans k1, k2⟩
  | .vec l s m t, v, p, k => by
    simp only [Rv] at k ⊢
    obtain ⟨b, c, k1, k2, k3, k4, k5⟩ := k
    exact ⟨b, c, (al.rho l (blt p)).trans k1, k2, k3, k4, by rw [al.wide]; exact k5⟩
  | .sub l o m, v, p, k => by
    simp only [Rv] at k ⊢
    obtain ⟨b, c, k1, k2, k3⟩ := k
    exact ⟨b, c, (al.rho l (blt p)).trans k1, k2, k3⟩
  | .eptr cs o, v, p, k => by
    simp only [Rv] at k ⊢
    obtain ⟨b, q, e, r⟩ := k
    exact ⟨b, q, e, bel_rc al b cs q (by simpa only [bel] using p) r⟩
  | .lst s own rows, v, p, k => by
    simp only [bel, Bool.and_eq_true] at p
    simp only [Rv] at k ⊢
    obtain ⟨b, o, cap, e, h1, h2, h3⟩ := k
    refine ⟨b, o, cap, e, h1, ?_, bel_rr al s b rows o p.2 h3⟩
    cases own with
    | full => exact h2
    | unk => trivial
    | tok t =>
      obtain ⟨r, q1, q2⟩ := h2
      exact ⟨r, (al.room t (blt p.1)).trans q1, q2⟩
  | .fn f a c, v, p, k => by
    simp only [bel, Bool.and_eq_true] at p
    simp only [Rv] at k ⊢
    obtain ⟨va, vc, e, r1, r2⟩ := k
    exact ⟨va, vc, e, bel_rl al a va p.1 r1, bel_rl al c vc p.2 r2⟩
  | .agg cs, v, p, k => by
    simp only [Rv] at k ⊢
    obtain ⟨vs, e, r⟩ := k
    exact ⟨vs, e, bel_rl al cs vs (by simpa only [bel] using p) r⟩
  | .tup cs, v, p, k => by
    simp only [Rv] at k ⊢
    obtain ⟨vs, e, r⟩ := k
    exact ⟨vs, e, bel_rl al cs vs (by simpa only [bel] using p) r⟩
  | .iface t a, v, p, k => by
    simp only [Rv] at k ⊢
    obtain ⟨u, e, r⟩ := k
    exact ⟨u, e, bel_rv al a u (by simpa only [bel] using p) r⟩
  | .bool _, _, _, k => by simpa only [Rv] using k
  | .int _ _, _, _, k => by simpa only [Rv] using k
  | .sym _ _, _, _, k => by simp only [Rv] at k ⊢; rw [al.val]; exact k
  | .str _, _, _, k => by simpa only [Rv] using k
  | .nilp, _, _, k => by simpa only [Rv] using k
  | .nils, _, _, k => by simpa only [Rv] using k
  | .nilm, _, _, k => by simpa only [Rv] using k
  | .nilf, _, _, k => by simpa only [Rv] using k
  | .nili, _, _, k => by simpa only [Rv] using k
theorem bel_rl {n : Nat} {g h : Gh} (al : Alike n g h) : ∀ (as : List AV) (vs : List Value), belL n as = true → Rl g as vs → Rl h as vs
  | [], vs, _, k => by simpa only [Rl] using k
  | a :: as, vs, p, k => by
    simp only [belL, Bool.and_eq_true] at p
    simp only [Rl] at k ⊢
    obtain ⟨v, rest, e, r1, r2⟩ := k
    exact ⟨v, rest, e, bel_rv al a v p.1 r1, bel_rl al as rest p.2 r2⟩
theorem bel_rc {n : Nat} {g h : Gh} (al : Alike n g h) (b : Nat) : ∀ (as : List AV) (p : Nat), belL n as = true → Rc g b as p → Rc h b as p
  | [], p, _, _ => by simp only [Rc]
  | a :: as, q, p, k => by
    simp only [belL, Bool.and_eq_true] at p
    simp only [Rc] at k ⊢
    obtain ⟨⟨v, e, r⟩, h2⟩ := k
    exact ⟨⟨v, by rw [al.fz]; exact e, bel_rv al a v p.1 r⟩, bel_rc al b as (q + 1) p.2 h2⟩
theorem bel_rr {n : Nat} {g h : Gh} (al : Alike n g h) (s b : Nat) : ∀ (rs : List (List AV)) (o : Nat), belR n rs = true → Rr g s b rs o → Rr h s b rs o
  | [], o, _, _ => by simp only [Rr]
  | r :: rs, o, p, k => by
    simp only [belR, Bool.and_eq_true] at p
    simp only [Rr] at k ⊢
    exact ⟨k.1, bel_rc al b r o p.1 k.2.1, bel_rr al s b rs (o + s) p.2 k.2.2⟩
end

theorem blt_of {a b : Nat} (h : a < b) : Nat.blt a b = true := by simpa [Nat.blt_eq] using h
mutual
/-- What is told in a world has only names that stand for something. -/
theorem rv_bel {n : Nat} {g : Gh} (fr : ∀ l, n ≤ l → g.rho l = none ∧ g.room l = none) : ∀ (a : AV) (v : Value), Rv g a v → bel n a = true
  | .ptr l o, v, k => by
    simp only [Rv] at k
    obtain ⟨b, k1, _⟩ := k
    exact blt_of (Nat.lt_of_not_le fun q => by rw [(fr l q).1] at k1; cases k1)
  | .view l o m c, v, k => by
    simp only [Rv] at k
    obtain ⟨b, k1, _⟩ := k
    exact blt_of (Nat.lt_of_not_le fun q => by rw [(fr l q).1] at k1; cases k1)
  | .map l, v, k => by
    simp only [Rv] at k
    obtain ⟨b, k1, _⟩ := k
    exact blt_of (Nat.lt_of_not_le fun q => by rw [(fr l q).1] at k1; cases k1)
  | .vec l s m t, v, k => by
    simp only [Rv] at k
    obtain ⟨b, c, k1, _⟩ := k
    exact blt_of (Nat.lt_of_not_le fun q => by rw [(fr l q).1] at k1; cases k1)
  | .sub l o m, v, k => by
    simp only [Rv] at k
    obtain ⟨b, c, k1, _⟩ := k
    exact blt_of (Nat.lt_of_not_le fun q => by rw [(fr l q).1] at k1; cases k1)
  | .eptr cs o, v, k => by
    simp only [Rv] at k
    obtain ⟨b, q, e, r⟩ := k
    simp only [bel]
    exact rc_bel fr b cs q r
  | .lst s own rows, v, k => by
    simp only [Rv] at k
    obtain ⟨b, o, cap, e, h1, h2, h3⟩ := k
    simp only [bel, Bool.and_eq_true]
    refine ⟨?_, rr_bel fr s b rows o h3⟩
    cases own with
    | full => rfl
    | unk => rfl
    | tok t =>
      obtain ⟨r, q1, _⟩ := h2
      exact blt_of (Nat.lt_of_not_le fun q => by rw [(fr t q).2] at q1; cases q1)
  | .fn f a c, v, k => by
    simp only [Rv] at k
    obtain ⟨va, vc, e, r1, r2⟩ := k
    simp only [bel, Bool.and_eq_true]
    exact ⟨rl_bel fr a va r1, rl_bel fr c vc r2⟩
  | .agg cs, v, k => by
    simp only [Rv] at k
    obtain ⟨vs, e, r⟩ := k
    simp only [bel]
    exact rl_bel fr cs vs r
  | .tup cs, v, k => by
    simp only [Rv] at k
    obtain ⟨vs, e, r⟩ := k
    simp only [bel]
    exact rl_bel fr cs vs r
  | .iface t a, v, k => by
    simp only [Rv] at k
    obtain ⟨u, e, r⟩ := k
    simp only [bel]
    exact rv_bel fr a u r
  | .bool _, _, _ => rfl
  | .int _ _, _, _ => rfl
  | .sym _ _, _, _ => rfl
  | .str _, _, _ => rfl
  | .nilp, _, _ => rfl
  | .nils, _, _ => rfl
  | .nilm, _, _ => rfl
  | .nilf, _, _ => rfl
  | .nili, _, _ => rfl
theorem rl_bel {n : Nat} {g : Gh} (fr : ∀ l, n ≤ l → g.rho l = none ∧ g.room l = none) : ∀ (as : List AV) (vs : List Value), Rl g as vs → belL n as = true
  | [], vs, _ => rfl
  | a :: as, vs, k => by
    simp only [Rl] at k
    obtain ⟨v, rest, e, r1, r2⟩ := k
    simp only [belL, Bool.and_eq_true]
    exact ⟨rv_bel fr a v r1, rl_bel fr as rest r2⟩
theorem rc_bel {n : Nat} {g : Gh} (fr : ∀ l, n ≤ l → g.rho l = none ∧ g.room l = none) (b : Nat) : ∀ (as : List AV) (p : Nat), Rc g b as p → belL n as = true
  | [], p, _ => rfl
  | a :: as, q, k => by
    simp only [Rc] at k
    obtain ⟨⟨v, e, r⟩, h2⟩ := k
    simp only [belL, Bool.and_eq_true]
    exact ⟨rv_bel fr a v r, rc_bel fr b as (q + 1) h2⟩
theorem rr_bel {n : Nat} {g : Gh} (fr : ∀ l, n ≤ l → g.rho l = none ∧ g.room l = none) (s b : Nat) : ∀ (rs : List (List AV)) (o : Nat), Rr g s b rs o → belR n rs = true
  | [], o, _ => rfl
  | r :: rs, o, k => by
    simp only [Rr] at k
    simp only [belR, Bool.and_eq_true]
    exact ⟨rc_bel fr b r o k.2.1, rr_bel fr s b rs (o + s) k.2.2⟩
end

theorem belC_get {n : Nat} {t : Tr AV} : ∀ {m : Nat}, belC n t m = true → ∀ i a, i < m → t.get i = some a → bel n a = true
  | 0, _, i, a, h, _ => by omega
  | m + 1, p, i, a, h, q => by
    simp only [belC, Bool.and_eq_true] at p
    by_cases e : i = m
    · subst e; rw [q] at p; exact p.1
    · exact belC_get p.2 i a (by omega) q
theorem belM_rm {n : Nat} {g h : Gh} (al : Alike n g h) : ∀ (es : List (AV × AV)) (ents : List MapEntry), belM n es = true → Rm g es ents → Rm h es ents
  | [], ents, _, k => k
  | (a, b) :: r, ents, p, ⟨e, rest, k1, k2, k3, k4⟩ => by
    simp only [belM, Bool.and_eq_true] at p
    exact ⟨e, rest, k1, bel_rv al a _ p.1 k2, bel_rv al b _ p.2.1 k3, belM_rm al r rest p.2.2 k4⟩
theorem rm_bel {n : Nat} {g : Gh} (fr : ∀ l, n ≤ l → g.rho l = none ∧ g.room l = none) : ∀ (es : List (AV × AV)) (ents : List MapEntry), Rm g es ents → belM n es = true
  | [], ents, _ => rfl
  | (a, b) :: r, ents, ⟨e, rest, k1, k2, k3, k4⟩ => by
    simp only [belM, Bool.and_eq_true]
    exact ⟨rv_bel fr a _ k2, rv_bel fr b _ k3, rm_bel fr r rest k4⟩
theorem belB_rb {n : Nat} {g h : Gh} (al : Alike n g h) {w : World} {b : Nat} : ∀ {ab : AB}, belB n ab = true → RB g w b ab → RB h w b ab
  | .cells m t _, p, k => fun i hi => by
    obtain ⟨a, v, q1, q2, q3, q4⟩ := k i hi
    exact ⟨a, v, q1, q2, q3, bel_rv al a v (belC_get p i a hi q1) q4⟩
  | .map es _, p, ⟨ents, clock, q1, q2⟩ => ⟨ents, clock, q1, belM_rm al es _ p q2⟩
  | .gone _, _, _ => trivial
/-- The same, where another world has told it before. -/
theorem rb_old {n : Nat} {g0 g h : Gh} (fr : ∀ l, n ≤ l → g0.rho l = none ∧ g0.room l = none) (al : Alike n g h) {w0 w : World} {b0 b : Nat} : ∀ {ab : AB}, RB g0 w0 b0 ab → RB g w b ab → RB h w b ab
  | .cells m t _, k0, k => fun i hi => by
    obtain ⟨a, v, q1, q2, q3, q4⟩ := k i hi
    obtain ⟨a0, v0, z1, _, _, z4⟩ := k0 i hi
    rw [q1] at z1; cases z1
    exact ⟨a, v, q1, q2, q3, bel_rv al a v (rv_bel fr a v0 z4) q4⟩
  | .map es _, ⟨e0, c0, _, z2⟩, ⟨ents, clock, q1, q2⟩ => ⟨ents, clock, q1, belM_rm al es _ (rm_bel fr es _ z2) q2⟩
  | .gone _, _, _ => trivial

theorem upTo_get {α : Type} {t : Tr α} : ∀ {n i : Nat}, (upTo t n).get i = if i < n then t.get i else none
  | 0, i => by simp only [upTo]; rw [if_neg (by omega)]; cases i <;> rfl
  | n + 1, i => by
    simp only [upTo]
    split
    · rename_i a ha
      rw [Tr.get_set]
      by_cases e : i = n
      · subst e; rw [if_pos rfl, if_pos (by omega), ha]
      · rw [if_neg e, upTo_get]
        by_cases q : i < n
        · rw [if_pos q, if_pos (by omega)]
        · rw [if_neg q, if_neg (by omega)]
    · rename_i ha
      rw [upTo_get]
      by_cases e : i = n
      · subst e; rw [if_neg (by omega), if_pos (by omega), ha]
      · by_cases q : i < n
        · rw [if_pos q, if_pos (by omega)]
        · rw [if_neg q, if_neg (by omega)]
theorem cutOk_at {st0 st1 : St} {n : Nat} : ∀ {m : Nat}, cutOk st0 st1 n m = true → ∀ i, i < m → (match st0.heap.get i, st1.heap.get i with
    | some a, some b => Nat.beq a.ver b.ver || belB n b
    | _, some b => belB n b
    | _, none => true) = true
  | 0, _, i, h => by omega
  | m + 1, p, i, h => by
    simp only [cutOk, Bool.and_eq_true] at p
    by_cases e : i = m
    · subst e; exact p.1
    · exact cutOk_at p.2 i (by omega)

theorem cut_ok {base : Nat} {g g1 : Gh} {st st1 : St} {w w' : World} {u v : AV} {st2 : St} {x : Value} (h : cut st u st1 = some (v, st2)) (wf : st.Wf) (hfr : FreshAll g st) (hw : Rw g base st w) (hu : Rv g1 u x) (hw1 : Rw g1 base st1 w') (hgo : Goes base g st st1 w g1 w') :
    ∃ g2, Rv g2 v x ∧ Rw g2 base st2 w' ∧ Goes base g st st2 w g2 w' ∧ st2.Wf := by
  unfold cut at h
  split at h
  · rename_i hc
    simp only [Bool.and_eq_true] at hc
    cases h
    let g2 : Gh := { g1 with rho := fun l => if l < st.next then g1.rho l else none, room := fun t => if t < st.next then g1.room t else none, dead := fun t => g1.dead t ∧ t < st.next }
    have al : Alike st.next g1 g2 := ⟨fun l q => if_pos q, fun t q => if_pos q, rfl, rfl, rfl⟩
    have hrho : ∀ l b, g2.rho l = some b → l < st.next ∧ g1.rho l = some b ∧ g.rho l = some b := fun l b q => by
      change (if l < st.next then g1.rho l else none) = some b at q
      split at q
      · rename_i hl
        rcases hgo.rho l b q with z | ⟨z, _⟩
        · exact ⟨hl, q, z⟩
        · omega
      · cases q
    have hroom : ∀ t y, g2.room t = some y → t < st.next ∧ g1.room t = some y := fun t y q => by
      change (if t < st.next then g1.room t else none) = some y at q
      split at q
      · exact ⟨‹_›, q⟩
      · cases q
    have hgeth : ∀ l, l < st.next → (upTo st1.heap st.next).get l = st1.heap.get l := fun l q => by rw [upTo_get, if_pos q]
    have hgets : ∀ l, l < st.next → (upTo st1.spent st.next).get l = st1.spent.get l := fun l q => by rw [upTo_get, if_pos q]
    have low : ∀ l ab, st.heap.get l = some ab → l < st.next := fun l ab q => Nat.lt_of_not_le fun z => by rw [wf.heap l z] at q; cases q
    have lows : ∀ l, st.spent.get l = some () → l < st.next := fun l q => Nat.lt_of_not_le fun z => by rw [wf.spent l z] at q; cases q
    have hdead : ∀ t, t < st.next → ¬ g2.dead t → ¬ g1.dead t := fun t q z y => z ⟨y, q⟩
    refine ⟨g2, bel_rv al _ _ hc.1 hu, ⟨hw1.fz, fun l b q => ?_, fun l m b q q' y y' => ?_, fun l b o q => hw1.labfz l b o (hrho l b q).2.1, fun t b e r q d => ?_, fun t t' b e r e' r' q q' d d' ne => ?_, fun t q => ?_, fun t q => ?_, hw1.base, fun l b q => hw1.wide l b (hrho l b q).2.1, hw1.wide0⟩,
      ⟨⟨fun l b q => ?_, hgo.le.fz, fun t y q => ?_, hgo.le.val, hgo.le.wide⟩, ⟨Nat.le_refl _, fun t q => ?_, fun l ab q => ?_⟩, hgo.below, fun l b q => .inl (hrho l b q).2.2, fun t y q => ?_, fun t q => ?_, hgo.fzb⟩, ⟨fun l q => ?_, fun l q => ?_⟩⟩
    · obtain ⟨z1, z2, z3⟩ := hrho l b q
      obtain ⟨k1, k2, ab, k3, k4⟩ := hw1.lab l b z2
      obtain ⟨_, _, ab0, j3, j4⟩ := hw.lab l b z3
      refine ⟨k1, k2, ab, (hgeth l z1).trans k3, ?_⟩
      have hcut := cutOk_at hc.2 l z1
      rw [j3, k3] at hcut
      simp only [Bool.or_eq_true] at hcut
      rcases hcut with hv | hb
      · obtain ⟨ab2, m1, _, m3⟩ := hgo.mono.heap l ab0 j3
        rw [k3] at m1; cases m1
        have := m3 (beq hv).symm
        subst this
        exact rb_old hfr al j4 k4
      · exact belB_rb al hb k4
    · obtain ⟨z1, z2, _⟩ := hrho l b q
      obtain ⟨z1', z2', _⟩ := hrho m b q'
      exact hw1.inj l m b z2 z2' (fun v z => y v ((hgeth l z1).trans z)) (fun v z => y' v ((hgeth m z1').trans z))
    · obtain ⟨z1, z2⟩ := hroom t _ q
      obtain ⟨k1, k2, k3, k4⟩ := hw1.room t b e r z2 (hdead t z1 d)
      exact ⟨k1, k2, fun l z => k3 l (hrho l b z).2.1, k4⟩
    · obtain ⟨z1, z2⟩ := hroom t _ q
      obtain ⟨z1', z2'⟩ := hroom t' _ q'
      exact hw1.disj t t' b e r e' r' z2 z2' (hdead t z1 d) (hdead t' z1' d') ne
    · exact (hgets t q.2).trans (hw1.spent t q.1)
    · obtain ⟨y, hy⟩ := hw1.dead t q.1
      exact ⟨y, (if_pos q.2 : g2.room t = g1.room t).trans hy⟩
    · have hl : l < st.next := Nat.lt_of_not_le fun z => by rw [(hfr l z).1] at q; cases q
      exact (if_pos hl : g2.rho l = g1.rho l).trans (hgo.le.rho l b q)
    · have hl : t < st.next := Nat.lt_of_not_le fun z => by rw [(hfr t z).2] at q; cases q
      exact (if_pos hl : g2.room t = g1.room t).trans (hgo.le.room t y q)
    · exact (hgets t (lows t q)).trans (hgo.mono.spent t q)
    · obtain ⟨ab', m1, m2, m3⟩ := hgo.mono.heap l ab q
      exact ⟨ab', (hgeth l (low l ab q)).trans m1, m2, m3⟩
    · obtain ⟨z1, z2⟩ := hroom t y q
      rcases hgo.room t y z2 with z | ⟨z, _⟩
      · exact .inl z
      · omega
    · rcases hgo.dead t q.1 with z | ⟨z, z'⟩
      · exact .inl z
      · exact .inr ⟨z, (hgets t q.2).trans z'⟩
    · show (upTo st1.heap st.next).get l = none
      rw [upTo_get, if_neg (by have q : st.next ≤ l := q; omega)]
    · show (upTo st1.spent st.next).get l = none
      rw [upTo_get, if_neg (by have q : st.next ≤ l := q; omega)]
  · cases h
end Go.VE
