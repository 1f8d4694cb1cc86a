/- Names by numbers: no Go program is imported. -/
set_option linter.unusedSimpArgs false
set_option linter.unusedVariables false
namespace Go.Proofs.Ythdolanamcmooaa

/-- Where a name stands first; the list's length: nowhere. -/
def posB : List ByteArray → ByteArray → Nat
  | [], _ => 0
  | y :: l, x => if y = x then 0 else posB l x + 1
theorem posB_le (l : List ByteArray) (x : ByteArray) : posB l x ≤ l.length := by
  induction l with
  | nil => exact Nat.le_refl _
  | cons y l ih => unfold posB; split <;> simp <;> omega
theorem posB_at : ∀ (l : List ByteArray) (x : ByteArray), posB l x < l.length → l[posB l x]? = some x
  | [], _, h => by simp at h
  | y :: l, x, h => by
    unfold posB at h ⊢
    split
    · simpa using ‹_›
    · rename_i hne
      rw [if_neg hne] at h
      have := posB_at l x (by simp at h; omega)
      simpa using this
theorem posB_ne : ∀ (l : List ByteArray) (x : ByteArray) (j : Nat), j < posB l x → l[j]? ≠ some x
  | [], _, j, h => by simp [posB] at h
  | y :: l, x, j, h => by
    unfold posB at h
    split at h
    · omega
    · rename_i hne
      cases j with
      | zero => simpa using hne
      | succ j => have := posB_ne l x j (by omega); simpa using this
theorem posB_eq (l : List ByteArray) (x : ByteArray) (k : Nat) (h : l[k]? = some x) (hn : ∀ j, j < k → l[j]? ≠ some x) : posB l x = k := by
  have h1 := posB_ne l x
  have h2 := posB_at l x
  have h3 := posB_le l x
  have hk := (List.getElem?_eq_some_iff.1 h).1
  rcases Nat.lt_trichotomy (posB l x) k with g | g | g
  · exact absurd (h2 (by omega)) (hn _ g)
  · exact g
  · exact absurd h (h1 k g)
theorem posB_none (l : List ByteArray) (x : ByteArray) (hn : ∀ j, j < l.length → l[j]? ≠ some x) : posB l x = l.length := by
  have h2 := posB_at l x
  have h3 := posB_le l x
  by_cases g : posB l x < l.length
  · exact absurd (h2 g) (hn _ g)
  · omega
theorem posB_snoc : ∀ (l : List ByteArray) (s t : ByteArray), posB (l ++ [s]) t = if posB l t < l.length then posB l t else if s = t then l.length else l.length + 1
  | [], s, t => by simp [posB]
  | y :: l, s, t => by
    have ih := posB_snoc l s t
    simp only [List.cons_append, posB, List.length_cons]
    by_cases h : y = t
    · simp [h]
    · rw [if_neg h, if_neg h, ih]
      by_cases g : posB l t < l.length
      · simp [g]
      · by_cases e : s = t
        · simp [g, e]
        · simp [g, e]
/-- The names behind Put. -/
def putD (most : Nat) (l : List ByteArray) (s : ByteArray) : List ByteArray := if posB l s < l.length then l else if most ≤ l.length then l else l ++ [s]
/-- The names of a new dictionary. -/
def seedD (most : Nat) (l : List ByteArray) (seed : List ByteArray) : List ByteArray := seed.foldl (putD most) l
theorem putD_len (most : Nat) (l : List ByteArray) (s : ByteArray) : (putD most l s).length ≤ l.length + 1 := by
  unfold putD; split
  · omega
  · split
    · omega
    · simp
theorem seedD_snoc (most : Nat) (l seed : List ByteArray) (k : Nat) (s : ByteArray) (h : seed[k]? = some s) : seedD most l (seed.take (k + 1)) = putD most (seedD most l (seed.take k)) s := by
  obtain ⟨hk, hs⟩ := List.getElem?_eq_some_iff.1 h
  rw [List.take_succ_eq_append_getElem hk, seedD, List.foldl_append, hs]; rfl
/-- A bound brought between 0 and 65536. -/
def clampD (n : Int) : Nat := (min (max n 0) 65536).toNat
theorem clampD_le (n : Int) : clampD n ≤ 65536 := by unfold clampD; omega
theorem clampD_eq (n : Int) : min (max n 0) 65536 = (clampD n : Int) := by unfold clampD; omega
end Go.Proofs.Ythdolanamcmooaa
