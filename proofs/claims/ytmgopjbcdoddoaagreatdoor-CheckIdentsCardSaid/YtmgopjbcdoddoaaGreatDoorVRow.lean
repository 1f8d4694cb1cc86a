/- Bytes that lie wherever: what is read, what may be appended to. -/
import Derived.Test.YtmgopjbcdoddoaaGreatDoorVPut
import Derived.Test.YtmgopjbcdoddoaaGreatDoorRowIn
set_option linter.unusedSimpArgs false
set_option linter.unusedVariables false
namespace Go.Proofs.YtmgopjbcdoddoaaGreatDoor
open Go.RowKit M

/-- Bytes that are read: a slice, wherever it lies. -/
def Row (w : World) (s : Value) (B : List Nat) : Prop :=
  ∃ b ao cap off, s = .slice ao B.length cap ∧ B.length ≤ cap ∧ cap ≤ maxLen ∧ (0 < B.length → ao = some ⟨b, off, none⟩) ∧ (ao = none → cap = 0) ∧ CellsAt w b off (U8s B) ∧ ∀ x ∈ B, x < 256

theorem Row.kept {w w' : World} {s : Value} {B : List Nat} (h : Row w s B) (ho : Only Nil w w') : Row w' s B := by
  obtain ⟨b, ao, cap, off, h1, h2, h3, h4, h5, h6, h7⟩ := h
  exact ⟨b, ao, cap, off, h1, h2, h3, h4, h5, h6.kept ho (fun _ h => h), h7⟩
theorem Row.src {w : World} {s : Value} {B : List Nat} (h : Row w s B) : ∃ b, Src w b s (U8s B) := by
  obtain ⟨b, ao, cap, off, h1, h2, h3, h4, h5, h6, h7⟩ := h
  exact ⟨b, ao, cap, off, by rw [U8s_len]; exact h1, fun h => h4 (by rwa [U8s_len] at h), h5, h6⟩
theorem Row.of_own {w : World} {base : Nat} {e : TypeId} {s : Value} {B : List Nat} {n : Nat} (h : w.ownsRow base e 1 s n (U8s B)) (h8 : ∀ x ∈ B, x < 256) : Row w s B := by
  have hl : B.length = n := by simpa [U8s] using h.1
  obtain ⟨ao, cap, off, h1, h2, h3, h4⟩ := Src.of_own h
  rw [U8s_len] at h1 h2
  rcases h.2 with ⟨rfl, h0⟩ | ⟨g, cap', cur, rfl, hb, hg, hnc, hcm, _⟩
  · refine ⟨0, none, 0, 0, by rw [hl, h0], by omega, Nat.zero_le _, fun h => by omega, fun _ => rfl, fun i u hi => ?_, h8⟩
    have hB : B = [] := List.eq_nil_of_length_eq_zero (by omega)
    subst hB; simp [U8s] at hi
  · simp only [Value.slice.injEq] at h1
    obtain ⟨rfl, _, rfl⟩ := h1
    exact ⟨g, _, cap', off, by rw [hl], by omega, hcm, h2, h3, h4, h8⟩

theorem src_nil (w : World) : Src w 0 (.slice none 0 0) (U8s []) := ⟨none, 0, 0, rfl, fun h => by simp [U8s] at h, fun _ => rfl, fun i u h => by simp [U8s] at h⟩
theorem app_nil (w : World) : AppRow w w (.slice none 0 0) [] := Or.inl (World.ownsRow_nil _ _ _ _)

theorem IsRow.row {w : World} {a : Option Addr} {len cap : Nat} {zs : List Int} (h : IsRow .u8 w a len cap zs) :
    ∃ B : List Nat, B.length = len ∧ Row w (.slice a len cap) B := by
  obtain ⟨b, B, h1, ⟨ao, cap', off, e, h2, h3, h4⟩, _, h6⟩ := h.bytes
  rw [List.length_map, h1] at e
  simp only [Value.slice.injEq] at e
  obtain ⟨rfl, _, rfl⟩ := e
  refine ⟨B, h1, b, a, cap, off, by rw [h1], ?_, ?_, fun h => h2 (by simpa using h), h3, h4, h6⟩
  · rcases h with ⟨rfl, rfl, rfl, rfl⟩ | ⟨x, rfl, hl, hm, _⟩
    · omega
    · omega
  · rcases h with ⟨rfl, rfl, rfl, rfl⟩ | ⟨x, rfl, hl, hm, _⟩
    · exact Nat.zero_le _
    · exact hm

/-- A slice up to its length alone: what may be appended to. -/
theorem Row.app {w : World} {ao : Option Addr} {n cap : Nat} {B : List Nat} (h : Row w (.slice ao n cap) B) : AppRow w w (.slice ao n n) B ∧ B.length = n := by
  obtain ⟨b, ao', cap', off, e, h2, h3, h4, h5, h6, h7⟩ := h
  simp only [Value.slice.injEq] at e
  obtain ⟨rfl, rfl, rfl⟩ := e
  refine ⟨?_, rfl⟩
  cases ao with
  | none =>
    have hn : B.length = 0 := by have := h5 rfl; omega
    have hB : B = [] := List.eq_nil_of_length_eq_zero hn
    subst hB
    exact app_nil w
  | some x =>
    refine Or.inr ⟨x, rfl, fun j u hj => ?_⟩
    have hjl : j < B.length := by have := (List.getElem?_eq_some_iff.1 hj).1; rwa [U8s_len] at this
    have ex := h4 (by omega)
    injection ex with ex
    subst ex
    rw [addr_add]
    exact h6 j u hj

theorem Row.caps {w : World} {ao : Option Addr} {n cap : Nat} {B : List Nat} (h : Row w (.slice ao n cap) B) : n ≤ cap ∧ cap ≤ maxLen := by
  obtain ⟨b, ao', cap', off, e, h2, h3, h4, h5, h6, h7⟩ := h
  simp only [Value.slice.injEq] at e
  obtain ⟨rfl, rfl, rfl⟩ := e
  exact ⟨h2, h3⟩

/-- A slice's tail. -/
theorem Row.tail {w : World} {g m cap : Nat} {C : List Nat} (h : Row w (.slice (some ⟨g, 0, none⟩) m cap) C) {n : Nat} (hn : n < m) :
    Src w g (.slice (some ⟨g, n, none⟩) (m - n) (cap - n)) (U8s (C.drop n)) := by
  obtain ⟨b, ao, cap', off, e, h2, h3, h4, h5, h6, h7⟩ := h
  simp only [Value.slice.injEq] at e
  obtain ⟨rfl, rfl, rfl⟩ := e
  have e2 := h4 (by omega)
  simp only [Option.some.injEq, Addr.mk.injEq, and_true] at e2
  obtain ⟨rfl, rfl⟩ := e2
  refine ⟨some ⟨g, n, none⟩, cap - n, n, by simp [U8s], fun _ => rfl, fun h => (by cases h), fun i u hi => ?_⟩
  have hd : (U8s C)[n + i]? = some u := by
    rw [← hi]; simp [U8s]
  have := h6 (n + i) u hd
  rw [Nat.zero_add] at this
  exact this
end Go.Proofs.YtmgopjbcdoddoaaGreatDoor
