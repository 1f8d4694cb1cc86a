/- Arguments that are slices of integers, of bools, of strings, as the walks want them. -/
import Derived.Test.YtmgopjbcdoddoaaGreatDoorRowIn
import Derived.Deep.Grids
import Derived.SliceStrings
import Derived.ChangeSlices
import Derived.WalkKit
set_option linter.unusedSimpArgs false
set_option linter.unusedVariables false
namespace Go.Proofs.YtmgopjbcdoddoaaGreatDoor.M
open Go.RowKit Go.ChangeShapes Go.WideShapes
section
variable {H : Type} {enc : TypeId × Value → H} {P : Program} {W : World} {t e : TypeId}

/-- What a slice of one-cell elements is to a walk. -/
structure InRow (W : World) (a : Option Addr) (n cap b : Nat) (vs : List Value) : Prop where
  len : vs.length = n
  src : Src W b (.slice a n cap) vs
  lt : 0 < n → b < W.heap.size
  le : n ≤ cap
  max : cap ≤ maxLen
  none : a = .none → cap = 0
theorem InRow.mk' {a : Addr} {n cap : Nat} {vs : List Value} (hl : vs.length = n) (hn : n ≤ cap) (hm : cap ≤ maxLen) (hc : ∀ i u, vs[i]? = some u → W.cell? (a.add i) = some u) : InRow W (some a) n cap a.block vs := by
  by_cases h0 : 0 < n
  · have c0 := hc 0 vs[0] (List.getElem?_eq_getElem (by omega))
    have hs := spot_of_cell c0
    have ha : a.add 0 = a := by unfold Addr.add; split <;> simp_all
    rw [ha] at hs c0
    obtain ⟨xb, xo, xs⟩ := a
    simp only at hs
    subst hs
    refine ⟨hl, ⟨_, cap, xo, by rw [hl], fun _ => rfl, nofun, fun i u hu => ?_⟩, fun _ => World.block_lt_of_cell? W _ c0, hn, hm, fun h => by simp at h⟩
    have := hc i u hu
    rwa [addr_add] at this
  · have h00 : n = 0 := by omega
    subst h00
    exact ⟨hl, ⟨some a, cap, 0, by rw [hl], fun h => by omega, fun h => by simp at h, fun i u hu => by have := (List.getElem?_eq_some_iff.1 hu).1; omega⟩, fun h => by omega, hn, hm, fun h => by simp at h⟩
theorem InRow.nil : InRow W Option.none 0 0 0 [] := ⟨rfl, ⟨Option.none, 0, 0, rfl, fun h => by simp at h, fun _ => rfl, fun i u hu => by simp at hu⟩, fun h => by omega, Nat.le_refl _, Nat.zero_le _, fun _ => rfl⟩

theorem ints_of {k : IntKind} {a : Option Addr} {n cap : Nat} {d : DataW H} {p : List MemPlace} (ht : P.underlying t = some (.slice e)) (he : P.underlying e = some (.int k)) (hc : P.cellsOf e = 1)
    (h : ∃ fuel, DataW.trod enc P W 0 (fun _ => true) true fuel t (Value.slice a n cap).cells.toList = some (d, p)) :
    ∃ b zs, InRow W a n cap b (List.map (Value.int k) zs) ∧ ∀ z ∈ zs, (Lit.int k z).wf = true := by
  obtain ⟨fuel, hf⟩ := h
  rcases open_ints ht he hc hf with ⟨hcs, _⟩ | ⟨x, l, c, zs, hcs, _, hl, hm, hz, _, hcell, hw⟩
  · simp [Value.cells] at hcs
    obtain ⟨rfl, rfl, rfl⟩ := hcs
    exact ⟨0, [], InRow.nil, nofun⟩
  · simp [Value.cells] at hcs
    obtain ⟨rfl, rfl, rfl⟩ := hcs
    simp only [if_true] at hz
    refine ⟨x.block, zs.take n, InRow.mk' (by simp; omega) hl hm (fun i u hu => ?_), fun z hz => hw z (List.mem_of_mem_take hz)⟩
    have hi : i < n := by have := (List.getElem?_eq_some_iff.1 hu).1; simp at this; omega
    rw [hcell i (by omega), ← hu]
    simp [hi, List.getD, List.getElem?_eq_getElem (show i < zs.length by omega)]
theorem bools_of {a : Option Addr} {n cap : Nat} {d : DataW H} {p : List MemPlace} (ht : P.underlying t = some (.slice e)) (he : P.underlying e = some .bool) (hc : P.cellsOf e = 1)
    (h : ∃ fuel, DataW.trod enc P W 0 (fun _ => true) true fuel t (Value.slice a n cap).cells.toList = some (d, p)) :
    ∃ b zs, InRow W a n cap b (List.map Value.bool zs) := by
  obtain ⟨fuel, hf⟩ := h
  rcases Go.Deep.open_bools ht he hc hf with ⟨hcs, _⟩ | ⟨x, l, c, B, hcs, _, hl, hm, _, hcell⟩
  · simp [Value.cells] at hcs
    obtain ⟨rfl, rfl, rfl⟩ := hcs
    exact ⟨0, [], InRow.nil⟩
  · simp [Value.cells] at hcs
    obtain ⟨rfl, rfl, rfl⟩ := hcs
    refine ⟨x.block, (List.range n).map B, InRow.mk' (by simp) hl hm (fun i u hu => ?_)⟩
    have hi : i < n := by have := (List.getElem?_eq_some_iff.1 hu).1; simpa using this
    rw [hcell i (by omega), ← hu]
    simp [hi]
theorem strs_of {a : Option Addr} {n cap : Nat} {d : DataW H} {p : List MemPlace} (ht : P.underlying t = some (.slice e)) (he : P.underlying e = some .string) (hc : P.cellsOf e = 1)
    (h : ∃ fuel, DataW.trod enc P W 0 (fun _ => true) true fuel t (Value.slice a n cap).cells.toList = some (d, p)) :
    ∃ b zs, InRow W a n cap b (List.map Value.string zs) ∧ ∀ z ∈ zs, z.size ≤ maxLen := by
  obtain ⟨fuel, hf⟩ := h
  rcases open_strings ht he hc hf with ⟨hcs, _⟩ | ⟨x, l, c, zs, hcs, _, hl, hm, hz, _, hcell, hw⟩
  · simp [Value.cells] at hcs
    obtain ⟨rfl, rfl, rfl⟩ := hcs
    exact ⟨0, [], InRow.nil, nofun⟩
  · simp [Value.cells] at hcs
    obtain ⟨rfl, rfl, rfl⟩ := hcs
    simp only [if_true] at hz
    refine ⟨x.block, zs.take n, InRow.mk' (by simp; omega) hl hm (fun i u hu => ?_), fun z hz => hw z (List.mem_of_mem_take hz)⟩
    have hi : i < n := by have := (List.getElem?_eq_some_iff.1 hu).1; simp at this; omega
    rw [hcell i (by omega), ← hu]
    simp [hi, List.getD, List.getElem?_eq_getElem (show i < zs.length by omega)]
end
end Go.Proofs.YtmgopjbcdoddoaaGreatDoor.M
