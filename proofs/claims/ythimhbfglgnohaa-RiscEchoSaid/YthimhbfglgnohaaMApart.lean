/- A machine beside what else is written to. -/
import Derived.Test.YthimhbfglgnohaaMAt
namespace Go.Proofs.Ythimhbfglgnohaa
open Go.RowKit M

theorem CRow.less {S T : Nat → Prop} {w : World} {v : Value} {l : List Nat} (h : CRow S w v l) (hs : ∀ k, k < w.heap.size → T k → S k) : CRow T w v l := by
  obtain ⟨b, ao, cap, off, h1, h2, h3, h4, h5, h6⟩ := h
  refine ⟨b, ao, cap, off, h1, h2, h3, h4, h5, fun hl hb => h6 hl (hs b ?_ hb)⟩
  have := h5 0 (.int .u32 (l[0]'hl : Nat)) (by simp [U32s, List.getElem?_eq_getElem hl])
  exact World.block_lt_of_cell? w _ this
theorem BRow.less {S T : Nat → Prop} {w : World} {v : Value} {l : List Nat} (h : BRow S w v l) (hs : ∀ k, k < w.heap.size → T k → S k) : BRow T w v l := by
  obtain ⟨b, ao, cap, off, h1, h2, h3, h4, h5, h6, h7⟩ := h
  refine ⟨b, ao, cap, off, h1, h2, h3, h4, h5, h6, fun hl hb => h7 hl (hs b ?_ hb)⟩
  have := h6 0 (.int .u8 (l[0]'hl : Nat)) (by simp [U8s, List.getElem?_eq_getElem hl])
  exact World.block_lt_of_cell? w _ this
/-- Fewer, or newer, blocks that are not to be touched. -/
theorem MAt.less {Q T : Nat → Prop} {w : World} {mb wb : Nat} {ob : Option Nat} {code : List Nat} {s : St} {cv iv ov : Value} (h : MAt Q w mb wb ob code s cv iv ov) (hs : ∀ k, k < w.heap.size → T k → Q k) : MAt T w mb wb ob code s cv iv ov := by
  obtain ⟨h1, h2, h3, h4, h5, h6, h7, h8, h9⟩ := h
  exact ⟨h1, h2, h3, h4.less (fun k hk hb => hb.imp id (hs k hk)), h5.less (fun k hk hb => hb.imp id (hs k hk)), h6, h7, h8, h9⟩
/-- What is written beside a machine. -/
theorem MAt.apart {Q S : Nat → Prop} {w w' : World} {mb wb : Nat} {ob : Option Nat} {code : List Nat} {s : St} {cv iv ov : Value} (h : MAt Q w mb wb ob code s cv iv ov) (ho : Only S w w') (hm : ¬ S mb) (hw : ¬ S wb) (hb : ∀ k, ob = some k → ¬ S k) (hq : ∀ k, S k → Q k) : MAt Q w' mb wb ob code s cv iv ov := by
  obtain ⟨h1, h2, h3, h4, h5, h6, h7, h8, h9⟩ := h
  exact ⟨h1.kept ho hm, h2.kept ho hw, h3, h4.kept ho (fun k hk => Or.inr (hq k hk)), h5.kept ho (fun k hk => Or.inr (hq k hk)), ownsRow_only h6 ho (fun k hk => hb k (by rw [← h7, hk])), h7, h8, h9⟩
/-- The block of what was written lies in memory. -/
theorem MAt.obLt {Q : Nat → Prop} {w : World} {mb wb : Nat} {ob : Option Nat} {code : List Nat} {s : St} {cv iv ov : Value} (h : MAt Q w mb wb ob code s cv iv ov) {k : Nat} (hk : ob = some k) : k < w.heap.size := by
  have h7 := h.2.2.2.2.2.2.1
  have h6 := h.2.2.2.2.2.1
  rcases h6.2 with ⟨h, _⟩ | ⟨g, cap, cur, hv, _, hg, _⟩
  · rw [h] at h7; rw [← h7] at hk; cases hk
  · rw [hv] at h7
    have : g < w.heap.size := (Array.getElem?_eq_some_iff.1 hg).1
    rw [← h7] at hk; injection hk with hk
    have hk : g = k := hk
    omega
end Go.Proofs.Ythimhbfglgnohaa
