/- Arguments that are slices of integers, of bools, of strings, as the walks want them. -/
import Derived.Test.YtpnhjjihdcopnaaNum
import Derived.Deep.Grids
import Derived.SliceStrings
import Derived.ChangeSlices
import Derived.WalkKit
import Derived.Test.YtpnhjjihdcopnaaRows
import Derived.Test.YtpnhjjihdcopnaaCPut
import Derived.ProofKit
import Derived.OpenShut
import Derived.ShutString
import Derived.ChangeOld
import Derived.Below
import Derived.Deep.SlicePairs
import Derived.Lib.SmallJoins
import Derived.Test.YtpnhjjihdcopnaaTSee
set_option linter.unusedSimpArgs false
set_option linter.unusedVariables false
namespace Go.Proofs.Ytpnhjjihdcopnaa.M
open Go.RowKit Go.ChangeShapes Go.WideShapes
section
variable {H : Type} {enc : TypeId × Value → H} {P : Program} {W : World} {t e : TypeId}

/-- What a slice of one-cell elements is to a walk. -/
structure InRow (W : World) (a : Option Addr) (n cap b : Nat) (vs : List Value) : Prop where
  len : vs.length = n
  src : Src W b (.slice a n cap) vs
  lt : 0 < n → b < W.heap.size
  le : n ≤ cap
  max : cap ≤ maxLen
  none : a = .none → cap = 0
theorem InRow.mk' {a : Addr} {n cap : Nat} {vs : List Value} (hl : vs.length = n) (hn : n ≤ cap) (hm : cap ≤ maxLen) (hc : ∀ i u, vs[i]? = some u → W.cell? (a.add i) = some u) : InRow W (some a) n cap a.block vs := by
  by_cases h0 : 0 < n
  · have c0 := hc 0 vs[0] (List.getElem?_eq_getElem (by omega))
    have hs := spot_of_cell c0
    have ha : a.add 0 = a := by unfold Addr.add; split <;> simp_all
    rw [ha] at hs c0
    obtain ⟨xb, xo, xs⟩ := a
    simp only at hs
    subst hs
    refine ⟨hl, ⟨_, cap, xo, by rw [hl], fun _ => rfl, nofun, fun i u hu => ?_⟩, fun _ => World.block_lt_of_cell? W _ c0, hn, hm, fun h => by simp at h⟩
    have := hc i u hu
    rwa [addr_add] at this
  · have h00 : n = 0 := by omega
    subst h00
    exact ⟨hl, ⟨some a, cap, 0, by rw [hl], fun h => by omega, fun h => by simp at h, fun i u hu => by have := (List.getElem?_eq_some_iff.1 hu).1; omega⟩, fun h => by omega, hn, hm, fun h => by simp at h⟩
theorem InRow.nil : InRow W Option.none 0 0 0 [] := ⟨rfl, ⟨Option.none, 0, 0, rfl, fun h => by simp at h, fun _ => rfl, fun i u hu => by simp at hu⟩, fun h => by omega, Nat.le_refl _, Nat.zero_le _, fun _ => rfl⟩

theorem ints_of {k : IntKind} {a : Option Addr} {n cap : Nat} {d : DataW H} {p : List MemPlace} (ht : P.underlying t = some (.slice e)) (he : P.underlying e = some (.int k)) (hc : P.cellsOf e = 1)
    (h : ∃ fuel, DataW.trod enc P W 0 (fun _ => true) true fuel t (Value.slice a n cap).cells.toList = some (d, p)) :
    ∃ b zs, InRow W a n cap b (List.map (Value.int k) zs) ∧ ∀ z ∈ zs, (Lit.int k z).wf = true := by
  obtain ⟨fuel, hf⟩ := h
  rcases open_ints ht he hc hf with ⟨hcs, _⟩ | ⟨x, l, c, zs, hcs, _, hl, hm, hz, _, hcell, hw⟩
  · simp [Value.cells] at hcs
    obtain ⟨rfl, rfl, rfl⟩ := hcs
    exact ⟨0, [], InRow.nil, nofun⟩
  · simp [Value.cells] at hcs
    obtain ⟨rfl, rfl, rfl⟩ := hcs
    simp only [if_true] at hz
    refine ⟨x.block, zs.take n, InRow.mk' (by simp; omega) hl hm (fun i u hu => ?_), fun z hz => hw z (List.mem_of_mem_take hz)⟩
    have hi : i < n := by have := (List.getElem?_eq_some_iff.1 hu).1; simp at this; omega
    rw [hcell i (by omega), ← hu]
    simp [hi, List.getD, List.getElem?_eq_getElem (show i < zs.length by omega)]
theorem bools_of {a : Option Addr} {n cap : Nat} {d : DataW H} {p : List MemPlace} (ht : P.underlying t = some (.slice e)) (he : P.underlying e = some .bool) (hc : P.cellsOf e = 1)
    (h : ∃ fuel, DataW.trod enc P W 0 (fun _ => true) true fuel t (Value.slice a n cap).cells.toList = some (d, p)) :
    ∃ b zs, InRow W a n cap b (List.map Value.bool zs) := by
  obtain ⟨fuel, hf⟩ := h
  rcases Go.Deep.open_bools ht he hc hf with ⟨hcs, _⟩ | ⟨x, l, c, B, hcs, _, hl, hm, _, hcell⟩
  · simp [Value.cells] at hcs
    obtain ⟨rfl, rfl, rfl⟩ := hcs
    exact ⟨0, [], InRow.nil⟩
  · simp [Value.cells] at hcs
    obtain ⟨rfl, rfl, rfl⟩ := hcs
    refine ⟨x.block, (List.range n).map B, InRow.mk' (by simp) hl hm (fun i u hu => ?_)⟩
    have hi : i < n := by have := (List.getElem?_eq_some_iff.1 hu).1; simpa using this
    rw [hcell i (by omega), ← hu]
    simp [hi]
theorem strs_of {a : Option Addr} {n cap : Nat} {d : DataW H} {p : List MemPlace} (ht : P.underlying t = some (.slice e)) (he : P.underlying e = some .string) (hc : P.cellsOf e = 1)
    (h : ∃ fuel, DataW.trod enc P W 0 (fun _ => true) true fuel t (Value.slice a n cap).cells.toList = some (d, p)) :
    ∃ b zs, InRow W a n cap b (List.map Value.string zs) ∧ ∀ z ∈ zs, z.size ≤ maxLen := by
  obtain ⟨fuel, hf⟩ := h
  rcases open_strings ht he hc hf with ⟨hcs, _⟩ | ⟨x, l, c, zs, hcs, _, hl, hm, hz, _, hcell, hw⟩
  · simp [Value.cells] at hcs
    obtain ⟨rfl, rfl, rfl⟩ := hcs
    exact ⟨0, [], InRow.nil, nofun⟩
  · simp [Value.cells] at hcs
    obtain ⟨rfl, rfl, rfl⟩ := hcs
    simp only [if_true] at hz
    refine ⟨x.block, zs.take n, InRow.mk' (by simp; omega) hl hm (fun i u hu => ?_), fun z hz => hw z (List.mem_of_mem_take hz)⟩
    have hi : i < n := by have := (List.getElem?_eq_some_iff.1 hu).1; simp at this; omega
    rw [hcell i (by omega), ← hu]
    simp [hi, List.getD, List.getElem?_eq_getElem (show i < zs.length by omega)]
end
end Go.Proofs.Ytpnhjjihdcopnaa.M

/- Instructions as an argument, as the walks want them (a row without tables). -/
set_option linter.unusedSimpArgs false
set_option linter.unusedVariables false
namespace Go.Proofs.Ytpnhjjihdcopnaa
open Go.Joins Go.ChangeShapes Go.WideShapes Go.RowKit M Go.Deep

theorem own : ownKnob Try.prog.godebug = none := by kernel_rfl
theorem laidOut : laidOutB Try.prog = true := by kernel_rfl
theorem cStr2 : Try.prog.cellsOf 55 = 2 := by kernel_rfl

/-- Instructions as an argument, as the walks want them. -/
theorem cods_of {H : Type} {enc : TypeId × Value → H} {W : World} {a0 : Option Addr} {n cap : Nat} {d0 : DataW H} {p0 : List MemPlace}
    (h : ∃ fuel, DataW.trod enc Try.prog W 0 (fun _ => true) true fuel 22 (Value.slice a0 n cap).cells.toList = some (d0, p0)) :
    ∃ (b : Nat) (L : List Cod), L.length = n ∧ CSrc W b (.slice a0 n cap) L ∧ ∀ c ∈ L, c.Fits := by
  obtain ⟨fuel, hf⟩ := h
  have hce : Try.prog.cellsOf 55 = 2 := by kernel_rfl
  rcases open_slice_pairs Try.underlying22 Try.underlying55 hce rfl rfl (by kernel_rfl) (by kernel_rfl) hf with ⟨hcs, _⟩ | ⟨a, len, c, m, k, V0, V1, D0, D1, P0, P1, hcs, _, hl, hm, hmm, hx, hc⟩
  · simp [Value.cells] at hcs
    obtain ⟨rfl, rfl, rfl⟩ := hcs
    exact ⟨0, [], rfl, ⟨none, 0, 0, rfl, Nat.le_refl _, Nat.zero_le _, fun h => by simp at h, fun k c hk => by simp at hk⟩, nofun⟩
  · simp [Value.cells] at hcs
    obtain ⟨rfl, rfl, rfl⟩ := hcs
    have hm2 : m = cap := by simpa using hmm
    subst hm2
    have each : ∀ i, i < n → ∃ y : Cod, y.Fits ∧ W.cell? (a.add (i * 2)) = some (.int .i64 y.op) ∧ W.cell? (a.add (i * 2 + 1)) = some (.int .i32 y.k) := by
      intro i hi
      obtain ⟨c0, c1, t0, t1⟩ := hc i (by omega)
      obtain ⟨op, e0, _, w0⟩ := DataW.trod_int Try.underlying3 t0
      obtain ⟨kk, e1, _, w1⟩ := DataW.trod_int Try.underlying21 t1
      simp only [List.cons.injEq, and_true] at e0 e1
      rw [e0] at c0
      rw [e1] at c1
      have b0 := bounds_i64 w0
      have b1 := bounds_i32 w1
      exact ⟨⟨op, kk⟩, ⟨⟨b0.1, b0.2⟩, b1.1, b1.2⟩, c0, c1⟩
    have hspot : 0 < n → a = ⟨a.block, a.off, none⟩ := by
      intro h0
      obtain ⟨y, _, h1, _⟩ := each 0 h0
      have := spot_of_cell h1
      rw [show a.add (0 * 2) = a by simp [Addr.add]] at this
      rw [← this]
    obtain ⟨g, hg⟩ := choose_lt (fun i (hi : i < n) => each i hi)
    refine ⟨a.block, (List.range n).map g, by simp, ⟨some a, m, a.off, by simp, by simpa using hl, hm, fun h0 => by rw [← hspot (by simpa using h0)], ?_⟩, ?_⟩
    · intro i x hi
      have hin : i < n := by
        have := (List.getElem?_eq_some_iff.1 hi).1
        simpa using this
      simp only [List.getElem?_map, List.getElem?_range hin, Option.map_some, Option.some.injEq] at hi
      subst hi
      obtain ⟨_, h1, h2⟩ := hg i hin
      rw [hspot (by omega), M.addr_add] at h1 h2
      exact ⟨h1, by rw [Nat.add_assoc]; exact h2⟩
    · intro c hc
      simp only [List.mem_map, List.mem_range] at hc
      obtain ⟨i, hi, rfl⟩ := hc
      exact (hg i hi).1
end Go.Proofs.Ytpnhjjihdcopnaa

/- Instructions, bytes as arguments, as the walks of two machines want them. -/
set_option linter.unusedSimpArgs false
set_option linter.unusedVariables false
namespace Go.Proofs.Ytpnhjjihdcopnaa
open Go.Joins Go.ChangeShapes Go.WideShapes Go.RowKit M Go.Deep

theorem cods9_of {H : Type} {enc : TypeId × Value → H} {W : World} {a0 : Option Addr} {n cap : Nat} {d0 : DataW H} {p0 : List MemPlace}
    (h : ∃ fuel, DataW.trod enc Try.prog W 0 (fun _ => true) true fuel 22 (Value.slice a0 n cap).cells.toList = some (d0, p0)) :
    ∃ (b : Nat) (L : List Cod), L.length = n ∧ CSrc W b (.slice a0 n cap) L ∧ (∀ c ∈ L, c.Fits) ∧ (a0 = none → cap = 0) ∧ CodRow (fun k => W.heap.size ≤ k) W (.slice a0 n cap) L := by
  have hn : a0 = none → cap = 0 := by
    obtain ⟨fuel, hf⟩ := h
    have hce : Try.prog.cellsOf 55 = 2 := by kernel_rfl
    intro e
    subst e
    rcases open_slice_pairs Try.underlying22 Try.underlying55 hce rfl rfl (by kernel_rfl) (by kernel_rfl) hf with ⟨hcs, _⟩ | ⟨a, len, c, m, k, V0, V1, D0, D1, P0, P1, hcs, _⟩
    · simp [Value.cells] at hcs
      exact hcs.2
    · simp [Value.cells] at hcs
  obtain ⟨b, L, hl, hs, hf⟩ := cods_of h
  refine ⟨b, L, hl, hs, hf, hn, ?_⟩
  obtain ⟨ao, cp, off, h1, h2, h3, h4, h5⟩ := hs
  refine ⟨b, ao, cp, off, h1, h2, h3, h4, h5, fun h0 => ?_⟩
  obtain ⟨c, hc⟩ : ∃ c, L[0]? = some c := ⟨_, List.getElem?_eq_getElem h0⟩
  have hlt := World.block_lt_of_cell? W _ (h5 0 c hc).1
  have hlt : b < W.heap.size := hlt
  exact ⟨by omega, hlt⟩
theorem byts9_of {W : World} {a : Option Addr} {n cap b : Nat} {zs : List Int} (h : InRow W a n cap b (zs.map (Value.int .u8))) (hf : ∀ z ∈ zs, (Lit.int .u8 z).wf = true) :
    ∃ inp : List Nat, inp.length = n ∧ (∀ x ∈ inp, x < 256) ∧ Src W b (.slice a n cap) (U8s inp) ∧ BytRow (fun k => W.heap.size ≤ k) W (.slice a n cap) inp := by
  have e : U8s (zs.map Int.toNat) = zs.map (Value.int .u8) := by
    unfold U8s
    rw [List.map_map]
    apply List.map_congr_left
    intro z hz
    have := bounds_u8 (hf z hz)
    simp [Int.toNat_of_nonneg this.1]
  have hl : (zs.map Int.toNat).length = n := by have := h.len; simpa using this
  have hs : Src W b (.slice a n cap) (U8s (zs.map Int.toNat)) := by rw [e]; exact h.src
  refine ⟨zs.map Int.toNat, hl, fun x hx => ?_, hs, ?_⟩
  · simp only [List.mem_map] at hx
    obtain ⟨z, hz, rfl⟩ := hx
    have := bounds_u8 (hf z hz)
    omega
  · obtain ⟨ao, cp, off, h1, h2, h3, h4⟩ := hs
    rw [U8s_len'] at h1 h2
    simp only [Value.slice.injEq] at h1
    obtain ⟨rfl, _, rfl⟩ := h1
    refine ⟨b, a, cap, off, by rw [hl], by rw [hl]; exact h.le, h.max, h2, h3, h4, fun h0 => ?_⟩
    have := h.lt (by omega)
    exact ⟨by omega, this⟩
end Go.Proofs.Ytpnhjjihdcopnaa

