/- A script of acts as an argument, as the walk wants it. -/
import Derived.Test.YtpadipjppncabaaPPlays
import Derived.Test.YtpadipjppncabaaGTabs
import Derived.Deep.SlicePairs
set_option linter.unusedSimpArgs false
set_option linter.unusedVariables false
namespace Go.Proofs.Ytpadipjppncabaa
open Go.Joins Go.ChangeShapes Go.WideShapes Go.RowKit M Go.Deep

theorem acts_of {H : Type} {enc : TypeId × Value → H} {W : World} {a0 : Option Addr} {n cap : Nat} {d0 : DataW H} {p0 : List MemPlace}
    (h : ∃ fuel, DataW.trod enc Try.prog W 0 (fun _ => true) true fuel 22 (Value.slice a0 n cap).cells.toList = some (d0, p0)) :
    ∃ (b lo : Nat) (L : List (Nat × Nat)), L.length = n ∧ (0 < n → a0 = some ⟨b, lo, none⟩) ∧ Acts W b lo L ∧ ∀ q ∈ L, q.1 < 256 ∧ q.2 < 256 := by
  obtain ⟨fuel, hf⟩ := h
  have hce : Try.prog.cellsOf 29 = 2 := by kernel_rfl
  rcases open_slice_pairs Try.underlying22 Try.underlying29 hce rfl rfl (by kernel_rfl) (by kernel_rfl) hf with ⟨hcs, _⟩ | ⟨a, len, c, m, k, V0, V1, D0, D1, P0, P1, hcs, _, hl, hm, hmm, hx, hc⟩
  · simp [Value.cells] at hcs
    obtain ⟨rfl, rfl, rfl⟩ := hcs
    exact ⟨0, 0, [], rfl, fun h => by omega, fun i q hq => by simp at hq, nofun⟩
  · simp [Value.cells] at hcs
    obtain ⟨rfl, rfl, rfl⟩ := hcs
    have hm2 : m = cap := by simpa using hmm
    subst hm2
    have each : ∀ i, i < n → ∃ y : Nat × Nat, (y.1 < 256 ∧ y.2 < 256) ∧ W.cell? (a.add (i * 2)) = some (.int .u8 (y.1 : Nat)) ∧ W.cell? (a.add (i * 2 + 1)) = some (.int .u8 (y.2 : Nat)) := by
      intro i hi
      obtain ⟨c0, c1, t0, t1⟩ := hc i (by omega)
      obtain ⟨op, e0, _, w0⟩ := DataW.trod_int Try.underlying5 t0
      obtain ⟨kk, e1, _, w1⟩ := DataW.trod_int Try.underlying5 t1
      simp only [List.cons.injEq, and_true] at e0 e1
      rw [e0] at c0
      rw [e1] at c1
      have b0 := bounds_u8 w0
      have b1 := bounds_u8 w1
      refine ⟨(op.toNat, kk.toNat), ⟨by simp only; omega, by simp only; omega⟩, ?_, ?_⟩
      · rw [c0, Int.toNat_of_nonneg b0.1]
      · rw [c1, Int.toNat_of_nonneg b1.1]
    have hspot : 0 < n → a = ⟨a.block, a.off, none⟩ := by
      intro h0
      obtain ⟨y, _, h1, _⟩ := each 0 h0
      have := spot_of_cell h1
      rw [show a.add (0 * 2) = a by simp [Addr.add]] at this
      rw [← this]
    obtain ⟨g, hg⟩ := choose_lt (fun i (hi : i < n) => each i hi)
    refine ⟨a.block, a.off, (List.range n).map g, by simp, fun h0 => by rw [← hspot h0], ?_, ?_⟩
    · intro i x hi
      have hin : i < n := by
        have := (List.getElem?_eq_some_iff.1 hi).1
        simpa using this
      simp only [List.getElem?_map, List.getElem?_range hin, Option.map_some, Option.some.injEq] at hi
      subst hi
      obtain ⟨_, h1, h2⟩ := hg i hin
      rw [hspot (by omega), M.addr_add] at h1 h2
      exact ⟨h1, by rw [Nat.add_assoc]; exact h2⟩
    · intro c hc
      simp only [List.mem_map, List.mem_range] at hc
      obtain ⟨i, hi, rfl⟩ := hc
      exact (hg i hi).1
end Go.Proofs.Ytpadipjppncabaa
