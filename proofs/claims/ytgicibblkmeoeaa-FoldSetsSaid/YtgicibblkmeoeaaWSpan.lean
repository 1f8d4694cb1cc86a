/- Sets of elements and spans: what both sides share. -/
import Derived.Test.YtgicibblkmeoeaaProg
import Derived.Test.YtgicibblkmeoeaaWList
set_option linter.unusedSimpArgs false
set_option linter.unusedVariables false
namespace Go.Proofs.Ytgicibblkmeoeaa
open Go.RowKit M

/-- What a span answers. -/
def spI (a b : Int) : Int := ((spanM a b).map S).getD 0
theorem spanV_lt (a b : Nat) (hb : b < 32) : spanV a b < 4294967296 := by
  unfold spanV
  have h0 := Nat.two_pow_pos a
  have h1 : 2 ^ (b + 1) ≤ 2 ^ 32 := Nat.pow_le_pow_right (by omega) (by omega)
  split
  · have : (2 : Nat) ^ 32 = 4294967296 := by decide
    omega
  · omega
theorem spanM_lt {a b : Int} {p : Nat} (h : spanM a b = some p) : p < 4294967296 := by
  unfold spanM at h
  split at h
  · rename_i hh
    injection h with h
    rw [← h]
    exact spanV_lt _ _ (by omega)
  · cases h
theorem spanP_any (a b : Int) (w : World) : Calls Try.prog 142 #[.int .i32 a, .int .i32 b] w fun e w' => e = .returned (.tuple #[.int .i32 (spI a b), .bool (spanM a b).isSome]) ∧ w = w' := by
  by_cases h : 0 ≤ a ∧ a < 32 ∧ 0 ≤ b ∧ b < 32
  · obtain ⟨x, rfl⟩ := Int.eq_ofNat_of_zero_le h.1
    obtain ⟨y, rfl⟩ := Int.eq_ofNat_of_zero_le h.2.2.1
    have e : spanM (x : Int) (y : Int) = some (spanV x y) := by unfold spanM; rw [if_pos h]; rfl
    unfold spI
    rw [e]
    exact span_any x y w (by omega) (by omega)
  · have e : spanM a b = none := by unfold spanM; rw [if_neg h]
    unfold spI
    rw [e]
    exact span_no a b w h
theorem spanR_any (a b : Int) (w : World) : Calls Try.prog 117 #[.int .i32 a, .int .i32 b] w fun e w' => e = .returned (.tuple #[.int .i32 (spI a b), .bool (spanM a b).isSome]) ∧ w = w' := by
  by_cases h : 0 ≤ a ∧ a < 32 ∧ 0 ≤ b ∧ b < 32
  · obtain ⟨x, rfl⟩ := Int.eq_ofNat_of_zero_le h.1
    obtain ⟨y, rfl⟩ := Int.eq_ofNat_of_zero_le h.2.2.1
    have e : spanM (x : Int) (y : Int) = some (spanV x y) := by unfold spanM; rw [if_pos h]; rfl
    unfold spI
    rw [e]
    exact span_any1 x y w (by omega) (by omega)
  · have e : spanM a b = none := by unfold spanM; rw [if_neg h]
    unfold spI
    rw [e]
    exact span_no1 a b w h
/-- A list of constants, one or two of them. -/
theorem elem_x {t : Ex} (h : elemM t = true) : (∃ e0, t.x = [e0]) ∨ ∃ e0 e1, t.x = [e0, e1] := by
  have hl : t.x.length = 1 ∨ t.x.length = 2 := by
    unfold elemM knownM at h
    simp only [Bool.or_eq_true, Bool.and_eq_true, decide_eq_true_eq] at h
    rcases h with h | h
    · exact Or.inl h.2.2
    · exact Or.inr h.2.2
  rcases hl with h | h
  · match hx : t.x, h with
    | [e0], _ => exact Or.inl ⟨e0, rfl⟩
  · match hx : t.x, h with
    | [e0, e1], _ => exact Or.inr ⟨e0, e1, rfl⟩
theorem all_get {l : List Ex} {p : Ex → Bool} {k : Nat} {t : Ex} (h : l.all p = true) (hk : l[k]? = some t) : p t = true := List.all_eq_true.1 h t (List.mem_of_getElem? hk)
theorem drop_get {l : List Ex} {k : Nat} {t : Ex} (h : l[k]? = some t) : l.drop k = t :: l.drop (k + 1) := by
  obtain ⟨hk, hx⟩ := List.getElem?_eq_some_iff.1 h
  rw [List.drop_eq_getElem_cons hk, hx]
theorem or_lt {u v : Nat} (hu : u < 4294967296) (hv : v < 4294967296) : u ||| v < 4294967296 := Nat.or_lt_two_pow (n := 32) hu hv
end Go.Proofs.Ytgicibblkmeoeaa
