/- The document's stack machine does one instruction: what all of them have. -/
import Derived.Test.YtpnhjjihdcopnaaTRep
import Derived.Test.YtpnhjjihdcopnaaHMath
import Derived.Test.YtpnhjjihdcopnaaHLeaf
import Derived.BigRegion
import Derived.Deep.RegionWith
import Derived.Deep.RegionLaw
import Derived.Deep.QuietTactic
set_option linter.unusedSimpArgs false
set_option linter.unusedVariables false
namespace Go.Proofs.Ytpnhjjihdcopnaa
open Go.RowKit M
variable {Q : Nat → Prop}

/-- What the machine comes to. -/
def TDoes (Q : Nat → Prop) (w : World) (db vb : Nat) (code : List Cod) (s : SS) (lv ov : Value) (X : Option SS) (e : Ending) (w' : World) : Prop :=
  ∃ pv' kv' iv' ov', e = .returned (.bool X.isSome) ∧ TGone w w' db vb ov ov' ∧ TAt Q w' db vb code (X.getD s) lv pv' kv' iv' ov'

theorem Only.twoCells {w : World} {db : Nat} (a b : Nat) (x y : Value) : Only (M.One db) w ((w.setCell ⟨db, a, none⟩ x).setCell ⟨db, b, none⟩ y) := Only.setOne (Only.setOne (Only.refl _ _) a x) b y
/-- The operands and the next instruction are kept. -/
theorem tdo_end {w w1 w2 : World} {db vb : Nat} {code : List Cod} {sX : SS} {lv pv kv iv ov ov1 : Value} (hG : TGone w w1 db vb ov ov1) (hM : TAt Q w1 db vb code sX lv pv kv iv ov1) (O : List Int) (pv' : Value) (hR : RdRow (OwnTQ Q db vb ov1.ownBlock) w2 pv' O.length (I32s O)) (ho : Only Nil w1 w2) (nx : Int) :
    TGone w ((w2.setCell ⟨db, 2, none⟩ pv').setCell ⟨db, 5, none⟩ (.int .i64 nx)) db vb ov ov1 ∧ TAt Q ((w2.setCell ⟨db, 2, none⟩ pv').setCell ⟨db, 5, none⟩ (.int .i64 nx)) db vb code { sX with ops := O, pc := nx } lv pv' kv iv ov1 := by
  have hM2 := hM.quiet ho
  have h2 := Only.twoCells (w := w2) (db := db) 2 5 pv' (.int .i64 nx)
  have hB := (hM2.blk.setCell 2 pv').setCell 5 (.int .i64 nx)
  rw [tcells_pv, tcells_pc] at hB
  have q : ∀ k, M.One db k → OwnTQ Q db vb ov1.ownBlock k := fun k hk => Or.inl (Or.inl hk)
  refine ⟨(hG.trans (TGone.of_nil ho)).trans (TGone.of_one h2), hM2.own h2 hB rfl rfl (hR.kept h2 q (fun h => ?_)) (hM2.cls.kept h2 q (cls_nil sX)) (hM2.inp.kept h2 q)⟩
  rw [List.eq_nil_of_length_eq_zero h]; rfl
theorem src_zero (w : World) (b : Nat) (X : Option Addr) (C : Nat) (h : X = none → C = 0) : Src w b (.slice X 0 C) (I32s []) := ⟨X, C, 0, rfl, fun h => absurd h (Nat.lt_irrefl 0), h, fun i u h => by simp [I32s] at h⟩
theorem cells_prefix {w : World} {b off : Nat} {T U : List Int} (h : CellsAt w b off (I32s (T ++ U))) : CellsAt w b off (I32s T) := by
  intro i u hi
  refine h i u ?_
  rw [I32s_append, List.getElem?_append_left (List.getElem?_eq_some_iff.1 hi).1]
  exact hi
theorem cells_suffix {w : World} {b off r : Nat} {T U : List Int} (h : CellsAt w b off (I32s (T ++ U))) (hr : T.length = r) : CellsAt w b (off + r) (I32s U) := by
  intro i u hi
  rw [Nat.add_assoc]
  refine h (r + i) u ?_
  rw [I32s_append, List.getElem?_append_right (by rw [I32s_len]; omega), I32s_len, show r + i - T.length = i by omega]
  exact hi
theorem own_one {w : World} {base n : Nat} {v : Value} {xs : List Value} {e : TypeId} (h : w.ownsRow base e 1 v n xs) (hn : 0 < n) : ∃ g cap, v = .slice (some ⟨g, 0, none⟩) n cap ∧ base ≤ g ∧ g < w.heap.size ∧ ∀ i u, xs[i]? = some u → w.cell? ⟨g, i, none⟩ = some u := by
  rcases h.2 with ⟨_, h0⟩ | ⟨g, cap, cur, rfl, hg, hh, h5, h6, h7, h8⟩
  · omega
  · refine ⟨g, cap, rfl, hg, (Array.getElem?_eq_some_iff.1 hh).1, fun i u hu => ?_⟩
    have hil := (List.getElem?_eq_some_iff.1 hu).1
    rw [World.ownsRow.cellAt h i (by rw [h.1] at hil; exact hil)]
    exact hu
theorem snoc_one {O : List Int} (h : 1 ≤ O.length) : ∃ T a, O = T ++ [a] := by
  refine ⟨O.dropLast, O.getLast (by intro e; rw [e] at h; simp at h), (List.dropLast_concat_getLast _).symm⟩
theorem snoc_two {O : List Int} (h : 2 ≤ O.length) : ∃ T a b, O = T ++ [a, b] := by
  obtain ⟨T, b, rfl⟩ := snoc_one (O := O) (by omega)
  obtain ⟨U, a, rfl⟩ := snoc_one (O := T) (by simp at h; omega)
  exact ⟨U, a, b, by simp⟩
theorem TAt.hSn {w : World} {db vb : Nat} {code : List Cod} {s : SS} {lv pv kv iv ov : Value} (hM : TAt Q w db vb code s lv pv kv iv ov) (hQ : ∀ j, Q j → j < w.heap.size) : ∀ k, OwnTQ Q db vb ov.ownBlock k → k < w.heap.size := by
  intro k hk
  rcases hk with (h | h | h) | h
  · rw [h]; exact hM.blk.lt
  · rw [h]; exact hM.wrd.lt
  · exact (hM.out.lt k h.symm).2
  · exact hQ k h
end Go.Proofs.Ytpnhjjihdcopnaa
