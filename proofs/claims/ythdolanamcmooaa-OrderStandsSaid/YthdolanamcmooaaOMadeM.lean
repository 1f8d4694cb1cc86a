/- Modules of numbers: no Go program is imported. -/
import Derived.Test.YthdolanamcmooaaOMath
set_option linter.unusedSimpArgs false
set_option linter.unusedVariables false
namespace Go.Proofs.Ythdolanamcmooaa

/-- 'M' and a letter. -/
def txM (k : Nat) : ByteArray := ⟨#[77, UInt8.ofNat (97 + k)]⟩
def mbB : ByteArray := ⟨#[77, 98]⟩
/-- The imports of a number: Out, and those whose bits are set, as far as so many. -/
def outI (z : Nat) : List ByteArray := if z / 1048576 % 2 = 1 then [outB] else []
def bitsI (z : Nat) : Nat → List ByteArray
  | 0 => []
  | k + 1 => if z / 2 ^ k % 2 = 1 then bitsI z k ++ [txM k] else bitsI z k
def nameI (twice : Bool) (i : Nat) : ByteArray := if twice = true ∧ 2 < i then mbB else txM i
def madeM (twice : Bool) (n z i : Nat) : Md := (nameI twice i, outI z ++ bitsI z (min (n + 1) 20))
/-- The modules of the first k of these numbers, n in all. -/
def madeK (twice : Bool) (n : Nat) (zs : List Nat) : Nat → List Md
  | 0 => []
  | k + 1 => madeK twice n zs k ++ [madeM twice n (zs.getD k 0) k]
theorem madeK_len (twice : Bool) (n : Nat) (zs : List Nat) (k : Nat) : (madeK twice n zs k).length = k := by
  induction k with
  | zero => rfl
  | succ k ih => simp [madeK, ih]
theorem madeK_at (twice : Bool) (n : Nat) (zs : List Nat) : ∀ (k i : Nat), i < k → (madeK twice n zs k)[i]? = some (madeM twice n (zs.getD i 0) i)
  | 0, i, h => by omega
  | k + 1, i, h => by
    have hl := madeK_len twice n zs k
    unfold madeK
    by_cases e : i = k
    · subst e
      rw [List.getElem?_append_right (by omega), hl]; simp
    · rw [List.getElem?_append_left (by omega)]
      exact madeK_at twice n zs k i (by omega)
theorem bitsI_len (z k : Nat) : (bitsI z k).length ≤ k := by
  induction k with
  | zero => exact Nat.le_refl _
  | succ k ih =>
    unfold bitsI
    split
    · rw [List.length_append]; simp only [List.length_cons, List.length_nil]; omega
    · omega
theorem outI_len (z : Nat) : (outI z).length ≤ 1 := by unfold outI; split <;> simp
theorem txM_size (k : Nat) : (txM k).size = 2 := rfl
theorem bitsI_mem (z : Nat) : ∀ (k : Nat) (s : ByteArray), s ∈ bitsI z k → ∃ j, j < k ∧ s = txM j ∧ z / 2 ^ j % 2 = 1
  | 0, s, h => by simp [bitsI] at h
  | k + 1, s, h => by
    unfold bitsI at h
    split at h
    · rcases List.mem_append.1 h with h | h
      · obtain ⟨j, hj, e⟩ := bitsI_mem z k s h
        exact ⟨j, by omega, e⟩
      · exact ⟨k, by omega, by simpa using h, ‹_›⟩
    · obtain ⟨j, hj, e⟩ := bitsI_mem z k s h
      exact ⟨j, by omega, e⟩
theorem made_sizes (twice : Bool) (n z i : Nat) : (madeM twice n z i).1.size = 2 ∧ (∀ s ∈ (madeM twice n z i).2, s.size ≤ 3) ∧ (madeM twice n z i).2.length ≤ 21 := by
  refine ⟨?_, ?_, ?_⟩
  · show (nameI twice i).size = 2
    unfold nameI; split <;> rfl
  · intro s hs
    rcases List.mem_append.1 hs with h | h
    · unfold outI at h; split at h
      · rw [List.mem_singleton.1 h]; decide
      · simp at h
    · obtain ⟨j, _, rfl, _⟩ := bitsI_mem z _ s h
      exact Nat.le_succ 2
  · show (outI z ++ bitsI z (min (n + 1) 20)).length ≤ 21
    have h1 := outI_len z
    have h2 := bitsI_len z (min (n + 1) 20)
    rw [List.length_append]; omega
end Go.Proofs.Ythdolanamcmooaa
