/- The document's machine beside what else is written to; both machines, beside each other. -/
import Derived.Test.YthimhbfglgnohaaDRep
import Derived.Test.YthimhbfglgnohaaMSee
import Derived.Test.YthimhbfglgnohaaMDo
set_option linter.unusedSimpArgs false
set_option linter.unusedVariables false
namespace Go.Proofs.Ythimhbfglgnohaa
open Go.RowKit M

/-- Fewer, or newer, blocks that are not to be touched. -/
theorem DAt.less {Q T : Nat → Prop} {w : World} {mb wb : Nat} {ob : Option Nat} {code : List Nat} {s : St} {cv iv ov : Value} (h : DAt Q w mb wb ob code s cv iv ov) (hs : ∀ k, k < w.heap.size → T k → Q k) : DAt T w mb wb ob code s cv iv ov := by
  obtain ⟨h1, h2, h3, h4, h5, h6, h7, h8, h9⟩ := h
  exact ⟨h1, h2, h3, h4.less (fun k hk hb => hb.imp id (hs k hk)), h5.less (fun k hk hb => hb.imp id (hs k hk)), h6, h7, h8, h9⟩
/-- What is written beside a machine. -/
theorem DAt.apart {Q S : Nat → Prop} {w w' : World} {mb wb : Nat} {ob : Option Nat} {code : List Nat} {s : St} {cv iv ov : Value} (h : DAt Q w mb wb ob code s cv iv ov) (ho : Only S w w') (hm : ¬ S mb) (hw : ¬ S wb) (hb : ∀ k, ob = some k → ¬ S k) (hq : ∀ k, S k → Q k) : DAt Q w' mb wb ob code s cv iv ov := by
  obtain ⟨h1, h2, h3, h4, h5, h6, h7, h8, h9⟩ := h
  exact ⟨h1.kept ho hm, h2.kept ho hw, h3, h4.kept ho (fun k hk => Or.inr (hq k hk)), h5.kept ho (fun k hk => Or.inr (hq k hk)), ownsRow_only h6 ho (fun k hk => hb k (by rw [← h7, hk])), h7, h8, h9⟩
/-- The block of what was written lies in memory. -/
theorem DAt.obLt {Q : Nat → Prop} {w : World} {mb wb : Nat} {ob : Option Nat} {code : List Nat} {s : St} {cv iv ov : Value} (h : DAt Q w mb wb ob code s cv iv ov) {k : Nat} (hk : ob = some k) : k < w.heap.size := by
  have h7 := h.2.2.2.2.2.2.1
  have h6 := h.2.2.2.2.2.1
  rcases h6.2 with ⟨h, _⟩ | ⟨g, cap, cur, hv, _, hg, _⟩
  · rw [h] at h7; rw [← h7] at hk; cases hk
  · rw [hv] at h7
    have : g < w.heap.size := (Array.getElem?_eq_some_iff.1 hg).1
    rw [← h7] at hk; injection hk with hk
    have hk : g = k := hk
    omega
/-- Every block that a machine writes to lies in memory. -/
theorem MAt.ownLt {Q : Nat → Prop} {w : World} {mb wb : Nat} {ob : Option Nat} {code : List Nat} {s : St} {cv iv ov : Value} (h : MAt Q w mb wb ob code s cv iv ov) {k : Nat} (hk : Own3 mb wb ob k) : k < w.heap.size := by
  rcases hk with rfl | rfl | hk
  · exact h.1.lt
  · exact h.2.1.lt
  · exact h.obLt hk.symm
theorem DAt.ownLt {Q : Nat → Prop} {w : World} {mb wb : Nat} {ob : Option Nat} {code : List Nat} {s : St} {cv iv ov : Value} (h : DAt Q w mb wb ob code s cv iv ov) {k : Nat} (hk : Own3 mb wb ob k) : k < w.heap.size := by
  rcases hk with rfl | rfl | hk
  · exact h.1.lt
  · exact h.2.1.lt
  · exact h.obLt hk.symm
/-- What is new in what a machine writes to. -/
theorem Went.own {w w' : World} {mb wb : Nat} {ob ob' : Option Nat} (h : Went w w' mb wb ob ob') {k : Nat} (hk : Own3 mb wb ob' k) : Own3 mb wb ob k ∨ w.heap.size ≤ k := by
  rcases hk with hk | hk | hk
  · exact Or.inl (Or.inl hk)
  · exact Or.inl (Or.inr (Or.inl hk))
  · rcases h.2 with h2 | ⟨j, h2, h3⟩
    · rw [h2] at hk; exact Or.inl (Or.inr (Or.inr hk))
    · rw [h2] at hk; injection hk with hk; exact Or.inr (by omega)

/-- Where a machine lies, and what it holds. -/
structure Spot where
  mb : Nat
  wb : Nat
  ob : Option Nat
  cv : Value
  iv : Value
  ov : Value
def Spot.own (p : Spot) : Nat → Prop := Own3 p.mb p.wb p.ob
/-- The program's machine and the document's, beside each other. -/
structure Pair (w : World) (p d : Spot) (code : List Nat) (s t : St) : Prop where
  pm : MAt d.own w p.mb p.wb p.ob code s p.cv p.iv p.ov
  pd : DAt p.own w d.mb d.wb d.ob code t d.cv d.iv d.ov
  ne : ∀ k, p.own k → ¬ d.own k
theorem Pair.quiet {w w' : World} {p d : Spot} {code : List Nat} {s t : St} (h : Pair w p d code s t) (ho : Only Nil w w') : Pair w' p d code s t := ⟨h.pm.quiet ho, h.pd.quiet ho, h.ne⟩
/-- The program's machine has gone on. -/
theorem Pair.wentM {w w' : World} {p d : Spot} {code : List Nat} {s s' t : St} (h : Pair w p d code s t) {ob' : Option Nat} {iv' ov' : Value} (hw : Went w w' p.mb p.wb p.ob ob') (hM : MAt d.own w' p.mb p.wb ob' code s' p.cv iv' ov') : Pair w' ⟨p.mb, p.wb, ob', p.cv, iv', ov'⟩ d code s' t := by
  have hlt : ∀ k, d.own k → k < w.heap.size := fun k hk => h.pd.ownLt hk
  have hD : DAt (fun k => Own3 p.mb p.wb p.ob k ∨ Own3 p.mb p.wb ob' k) w d.mb d.wb d.ob code t d.cv d.iv d.ov := h.pd.less (fun k hk hh => hh.elim id (fun hh => (hw.own hh).elim id (fun hh => absurd hh (Nat.not_le.2 hk))))
  have hn : ∀ k, d.own k → ¬ Own3 p.mb p.wb p.ob k := fun k hk hp => h.ne k hp hk
  have hD' := hD.apart hw.1 (hn _ (Or.inl rfl)) (hn _ (Or.inr (Or.inl rfl))) (fun k hk => hn k (Or.inr (Or.inr hk.symm))) (fun k hk => Or.inl hk)
  refine ⟨hM, hD'.less (fun k _ hk => Or.inr hk), fun k hk hd => ?_⟩
  rcases hw.own hk with h1 | h1
  · exact h.ne k h1 hd
  · exact absurd (hlt k hd) (by omega)
/-- The document's machine has gone on. -/
theorem Pair.wentD {w w' : World} {p d : Spot} {code : List Nat} {s t t' : St} (h : Pair w p d code s t) {ob' : Option Nat} {iv' ov' : Value} (hw : Went w w' d.mb d.wb d.ob ob') (hM : DAt p.own w' d.mb d.wb ob' code t' d.cv iv' ov') : Pair w' p ⟨d.mb, d.wb, ob', d.cv, iv', ov'⟩ code s t' := by
  have hlt : ∀ k, p.own k → k < w.heap.size := fun k hk => h.pm.ownLt hk
  have hD : MAt (fun k => Own3 d.mb d.wb d.ob k ∨ Own3 d.mb d.wb ob' k) w p.mb p.wb p.ob code s p.cv p.iv p.ov := h.pm.less (fun k hk hh => hh.elim id (fun hh => (hw.own hh).elim id (fun hh => absurd hh (Nat.not_le.2 hk))))
  have hn : ∀ k, p.own k → ¬ Own3 d.mb d.wb d.ob k := fun k hk hp => h.ne k hk hp
  have hD' := hD.apart hw.1 (hn _ (Or.inl rfl)) (hn _ (Or.inr (Or.inl rfl))) (fun k hk => hn k (Or.inr (Or.inr hk.symm))) (fun k hk => Or.inl hk)
  refine ⟨hD'.less (fun k _ hk => Or.inr hk), hM, fun k hk hd => ?_⟩
  rcases hw.own hd with h1 | h1
  · exact h.ne k hk h1
  · exact absurd (hlt k hk) (by omega)
/-- What both write to lies behind b. -/
def Pair.Behind (p d : Spot) (b : Nat) : Prop := (∀ k, p.own k → b ≤ k) ∧ ∀ k, d.own k → b ≤ k
theorem Pair.behindM {w w' : World} {p d : Spot} {b : Nat} (h : Pair.Behind p d b) {ob' : Option Nat} {iv' ov' : Value} (hw : Went w w' p.mb p.wb p.ob ob') (hb : b ≤ w.heap.size) : Pair.Behind ⟨p.mb, p.wb, ob', p.cv, iv', ov'⟩ d b :=
  ⟨fun k hk => (hw.own hk).elim (fun h1 => h.1 k h1) (fun h1 => by omega), h.2⟩
theorem Pair.behindD {w w' : World} {p d : Spot} {b : Nat} (h : Pair.Behind p d b) {ob' : Option Nat} {iv' ov' : Value} (hw : Went w w' d.mb d.wb d.ob ob') (hb : b ≤ w.heap.size) : Pair.Behind p ⟨d.mb, d.wb, ob', d.cv, iv', ov'⟩ b :=
  ⟨h.1, fun k hk => (hw.own hk).elim (fun h1 => h.2 k h1) (fun h1 => by omega)⟩
/-- What a machine behind w's blocks has done. -/
theorem only_went {w w1 w2 : World} {mb wb : Nat} {ob ob' : Option Nat} (h : Only Nil w w1) (hw : Went w1 w2 mb wb ob ob') (hb : ∀ k, Own3 mb wb ob k → w.heap.size ≤ k) : Only Nil w w2 :=
  h.trans hw.1 (fun i hi hS => absurd hi (by have := hb i hS; omega))
end Go.Proofs.Ythimhbfglgnohaa
