/- A text as bytes of one's own, and such bytes as a text. -/
import Derived.Test.YtmgopjbcdoddoaaGreatDoorIKnown
import Derived.Test.YtmgopjbcdoddoaaGreatDoorVBase
import Derived.Test.YtmgopjbcdoddoaaGreatDoorSrc
import Derived.Test.YtmgopjbcdoddoaaGreatDoorIBoth
import Derived.Lib.ConvBytes
set_option linter.unusedSimpArgs false
set_option linter.unusedVariables false
namespace Go.Proofs.YtmgopjbcdoddoaaGreatDoor
open Go.RowKit M

/-- Block b begins with the bytes B, and may be written. -/
def RowAt (w : World) (b : Nat) (B : List Nat) : Prop :=
  ∃ C m, w.heap[b]? = some (.cells C 5 m) ∧ C.size ≤ m.1 ∧ ∀ (j : Nat) (u : Value), (U8s B)[j]? = some u → C[j]? = some u

theorem RowAt.lt {w : World} {b : Nat} {B : List Nat} (h : RowAt w b B) : b < w.heap.size := by
  obtain ⟨C, m, h1, _⟩ := h
  exact (Array.getElem?_eq_some_iff.1 h1).1
theorem RowAt.at {w : World} {b : Nat} {B : List Nat} (h : RowAt w b B) (j : Nat) (u : Value) (hj : (U8s B)[j]? = some u) : w.cell? ⟨b, j, none⟩ = some u := by
  obtain ⟨C, m, h1, h2, h3⟩ := h
  have := h3 j u hj
  simp [World.cell?, h1, this]
theorem RowAt.src {w : World} {b : Nat} {B : List Nat} (h : RowAt w b B) (n cap : Nat) (hn : B.length = n) : M.Src w b (.slice (some ⟨b, 0, none⟩) n cap) (U8s B) :=
  ⟨some ⟨b, 0, none⟩, cap, 0, by rw [U8s_len, hn], fun _ => rfl, fun h => by simp at h, fun i u hi => by rw [Nat.zero_add]; exact h.at i u hi⟩
theorem RowAt.cell {w : World} {b : Nat} {B : List Nat} (h : RowAt w b B) (j : Nat) (hj : j < B.length) : ∃ v, w.cell? ⟨b, j, none⟩ = some v :=
  ⟨_, h.at j _ (List.getElem?_eq_getElem (by rw [U8s_len]; exact hj))⟩
theorem RowAt.free {w : World} {b : Nat} {B : List Nat} (h : RowAt w b B) (j : Nat) (hj : j < B.length) : w.frozen? ⟨b, j, none⟩ = false := by
  obtain ⟨C, m, h1, h2, h3⟩ := h
  have h4 := h3 j _ (List.getElem?_eq_getElem (by rw [U8s_len]; exact hj))
  have h5 := (Array.getElem?_eq_some_iff.1 h4).1
  simp [World.frozen?, h1]
  intro q
  omega
theorem RowAt.set {w : World} {b : Nat} {B : List Nat} (h : RowAt w b B) (i c : Nat) : RowAt (w.setCell ⟨b, i, none⟩ (.int .u8 (c : Int))) b (B.set i c) := by
  obtain ⟨C, m, h1, h2, h3⟩ := h
  refine ⟨C.setIfInBounds i (.int .u8 (c : Int)), m, ?_, by simpa using h2, fun j u hj => ?_⟩
  · simp [World.setCell, Array.getElem?_modify, h1]
  · have e : U8s (B.set i c) = (U8s B).set i (.int .u8 (c : Int)) := by simp [U8s, List.map_set]
    rw [e, List.getElem?_set] at hj
    rw [Array.getElem?_setIfInBounds]
    split at hj
    · rename_i hij
      subst hij
      split at hj
      · rename_i hl
        have h4 := h3 i _ (List.getElem?_eq_getElem hl)
        have h5 := (Array.getElem?_eq_some_iff.1 h4).1
        simp [h5]
        exact Option.some.inj hj
      · cases hj
    · rename_i hij
      rw [if_neg hij]
      exact h3 j u hj
theorem RowAt.kept {w w' : World} {b : Nat} {B : List Nat} (h : RowAt w b B) (ho : Only Nil w w') : RowAt w' b B := by
  have hlt := h.lt
  obtain ⟨C, m, h1, h2, h3⟩ := h
  exact ⟨C, m, by rw [ho.block b hlt (fun h => h)]; exact h1, h2, h3⟩
theorem RowAt.back {w : World} {b : Nat} {B : List Nat} (h : RowAt w b B) (n cap : Nat) (hn : B.length = n) : (convert 23 9 (.slice (some ⟨b, 0, none⟩) n cap)).run Tryz.prog w = .ok (.string (strOf B)) w :=
  conv_src w b _ B (h.src n cap hn)
theorem strOf_sizeI (X : List Nat) : (strOf X).size = X.length := by
  unfold strOf strOfNums
  simp [ByteArray.size]

set_option maxRecDepth 10000 in
set_option maxHeartbeats 1600000 in
theorem conv_new (z : ByteArray) (n : Nat) (hz : z.size = n) : ∃ (V : World → World) (K : World → Nat) (B : List Nat), B.length = n ∧
    (∀ w, (convert 9 23 (.string z)).run Tryz.prog w = .ok (.slice (some ⟨w.heap.size, 0, none⟩) n (K w)) (V w)) ∧
    (∀ w, Only Nil w (V w)) ∧ ∀ w, RowAt (V w) w.heap.size B := by
  refine ⟨fun w => Lib.bytesWorld w 5 z, fun w => grownCap w z.size 0 5, z.data.toList.map fun c => c.toNat, by rw [List.length_map, size_list, hz], fun w => ?_, fun w => ?_, fun w => ?_⟩
  · rw [Lib.run_convert_string_bytes w 9 23 5 z Tryz.underlying9 Tryz.underlying23 Tryz.underlying5, hz]
  · refine ⟨rfl, rfl, rfl, by rw [Lib.bytesWorld_size]; omega, fun k hk _ => Lib.bytesWorld_at_old w _ z k hk⟩
  · refine ⟨_, _, Lib.bytesWorld_at_new w 5 z, Nat.le_refl _, fun j u hj => ?_⟩
    have hl := (List.getElem?_eq_some_iff.1 hj).1
    have hs := size_list z
    rw [U8s_len, List.length_map] at hl
    unfold Lib.bytesCells
    rw [Array.getElem?_append, if_pos (by simp; omega)]
    simp [U8s] at hj ⊢
    exact hj
end Go.Proofs.YtmgopjbcdoddoaaGreatDoor
