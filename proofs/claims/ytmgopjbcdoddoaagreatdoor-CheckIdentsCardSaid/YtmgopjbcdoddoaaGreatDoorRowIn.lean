/- An argument that is a slice of integers, as the walks want it. -/
import Derived.Test.YtmgopjbcdoddoaaGreatDoorSrc
import Derived.OpenShut
set_option linter.unusedSimpArgs false
set_option linter.unusedVariables false
namespace Go.Proofs.YtmgopjbcdoddoaaGreatDoor.M
open Go.RowKit

/-- The cells from an address on. -/
def CellsAt (w : World) (b off : Nat) (xs : List Value) : Prop := ∀ i u, xs[i]? = some u → w.cell? ⟨b, off + i, none⟩ = some u
theorem CellsAt.kept {S : Nat → Prop} {w w' : World} {b off : Nat} {xs : List Value} (h : CellsAt w b off xs) (ho : Only S w w') (hb : 0 < xs.length → ¬ S b) : CellsAt w' b off xs :=
  fun i u hi => ho.cell (h i u hi) (hb (by have := (List.getElem?_eq_some_iff.1 hi).1; omega))

/-- What a row's proof has of a slice of integers that came in. -/
def IsRow (k : IntKind) (w : World) (a : Option Addr) (len cap : Nat) (zs : List Int) : Prop :=
  (a = none ∧ len = 0 ∧ cap = 0 ∧ zs = []) ∨
  ∃ x, a = some x ∧ len ≤ cap ∧ cap ≤ maxLen ∧ zs.length = cap ∧ (∀ i, i < zs.length → w.cell? (x.add i) = some (.int k (zs.getD i 0))) ∧ ∀ n ∈ zs, (Lit.int k n).wf = true

/-- A cell that is there has no spot. -/
theorem spot_of_cell {w : World} {a : Addr} {v : Value} (h : w.cell? a = some v) : a.spot = none := by
  unfold World.cell? at h
  split at h
  · cases hs : a.spot with
    | none => rfl
    | some _ => simp [hs] at h
  · cases h

theorem IsRow.opened {k : IntKind} {w : World} {a : Option Addr} {len cap : Nat} {zs : List Int} (h : IsRow k w a len cap zs) :
    ∃ b off, (zs.take len).length = len ∧ (0 < len → a = some ⟨b, off, none⟩) ∧ (a = none → cap = 0) ∧ CellsAt w b off ((zs.take len).map (Value.int k)) ∧ (0 < len → b < w.heap.size) ∧ ∀ n ∈ zs.take len, (Lit.int k n).wf = true := by
  rcases h with ⟨rfl, rfl, rfl, rfl⟩ | ⟨x, rfl, hl, hm, hz, hc, hw⟩
  · exact ⟨0, 0, rfl, fun h => by omega, fun _ => rfl, fun i u hi => by simp at hi, fun h => by omega, fun n hn => by simp at hn⟩
  · by_cases h0 : 0 < len
    · have c0 := hc 0 (by omega)
      have hs := spot_of_cell c0
      have ha : x.add 0 = x := by unfold Addr.add; split <;> simp_all
      rw [ha] at hs c0
      obtain ⟨xb, xo, xs⟩ := x
      simp only at hs
      subst hs
      refine ⟨xb, xo, by simp; omega, fun _ => rfl, fun h => by simp at h, fun i u hi => ?_, fun _ => World.block_lt_of_cell? w _ c0, fun n hn => hw n (List.mem_of_mem_take hn)⟩
      have hil : i < len := by
        have := (List.getElem?_eq_some_iff.1 hi).1
        simp at this; omega
      have hci := hc i (by omega)
      rw [addr_add] at hci
      rw [hci, ← hi]
      simp [hil, List.getD, List.getElem?_eq_getElem (show i < zs.length by omega)]
    · have : len = 0 := by omega
      subst this
      exact ⟨0, 0, by simp, fun h => by omega, fun h => by simp at h, fun i u hi => by simp at hi, fun h => by omega, fun n hn => by simp at hn⟩

/-- .. of bytes. -/
theorem IsRow.bytes {w : World} {a : Option Addr} {len cap : Nat} {zs : List Int} (h : IsRow .u8 w a len cap zs) :
    ∃ (b : Nat) (B : List Nat), B.length = len ∧ Src w b (.slice a len cap) (B.map fun (x : Nat) => Value.int .u8 x) ∧ (0 < len → b < w.heap.size) ∧ ∀ x ∈ B, x < 256 := by
  obtain ⟨b, off, h1, h2, h3, h4, h5, h6⟩ := h.opened
  have hn : ∀ n ∈ zs.take len, 0 ≤ n ∧ n ≤ 255 := fun n hn => by
    exact bounds_u8 (h6 n hn)
  have e : ((zs.take len).map Int.toNat).map (fun (x : Nat) => Value.int .u8 x) = (zs.take len).map (Value.int .u8) := by
    rw [List.map_map]
    apply List.map_congr_left
    intro n hm
    have := hn n hm
    simp [Int.toNat_of_nonneg this.1]
  refine ⟨b, (zs.take len).map Int.toNat, by simpa using h1, ⟨a, cap, off, by simp at h1 ⊢; omega, fun h => h2 (by simp at h; omega), h3, by rw [e]; exact h4⟩, h5, ?_⟩
  intro x hx
  simp only [List.mem_map] at hx
  obtain ⟨n, hm, rfl⟩ := hx
  have := hn n hm
  omega
end Go.Proofs.YtmgopjbcdoddoaaGreatDoor.M
