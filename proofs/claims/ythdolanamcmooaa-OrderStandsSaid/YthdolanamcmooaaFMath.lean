/- Lists of numbers of which one is moved to the front: no Go program is imported. -/
set_option linter.unusedSimpArgs false
set_option linter.unusedVariables false
namespace Go.Proofs.Ythdolanamcmooaa

/-- Where a number stands first; the list's length: nowhere. -/
def posN : List Int → Int → Nat
  | [], _ => 0
  | y :: l, x => if y = x then 0 else posN l x + 1
theorem posN_le (l : List Int) (x : Int) : posN l x ≤ l.length := by
  induction l with
  | nil => exact Nat.le_refl _
  | cons y l ih => unfold posN; split <;> simp <;> omega
theorem posN_at : ∀ (l : List Int) (x : Int), posN l x < l.length → l.getD (posN l x) 0 = x
  | [], _, h => by simp at h
  | y :: l, x, h => by
    unfold posN at h ⊢
    split
    · simpa using ‹_›
    · rename_i hne
      rw [if_neg hne] at h
      have := posN_at l x (by simp at h; omega)
      simpa using this
theorem posN_ne : ∀ (l : List Int) (x : Int) (j : Nat), j < posN l x → l.getD j 0 ≠ x
  | [], _, j, h => by simp [posN] at h
  | y :: l, x, j, h => by
    unfold posN at h
    split at h
    · omega
    · rename_i hne
      cases j with
      | zero => simpa using hne
      | succ j => have := posN_ne l x j (by omega); simpa using this
/-- It is the first such place. -/
theorem posN_eq (l : List Int) (x : Int) (k : Nat) (hk : k < l.length) (h : l.getD k 0 = x) (hn : ∀ j, j < k → l.getD j 0 ≠ x) : posN l x = k := by
  have h1 := posN_ne l x
  have h2 := posN_at l x
  have h3 := posN_le l x
  rcases Nat.lt_trichotomy (posN l x) k with g | g | g
  · exact absurd (h2 (by omega)) (hn _ g)
  · exact g
  · exact absurd h (h1 k g)
theorem posN_none (l : List Int) (x : Int) (hn : ∀ j, j < l.length → l.getD j 0 ≠ x) : posN l x = l.length := by
  have h2 := posN_at l x
  have h3 := posN_le l x
  by_cases g : posN l x < l.length
  · exact absurd (h2 g) (hn _ g)
  · omega
/-- The i-th moved to the front. -/
def front (l : List Int) (i : Nat) : List Int := l.getD i 0 :: (l.take i ++ l.drop (i + 1))
theorem front_len (l : List Int) (i : Nat) (h : i < l.length) : (front l i).length = l.length := by
  simp [front]; omega
theorem front_perm (l : List Int) (i : Nat) (h : i < l.length) : (front l i).Perm l := by
  have e : l = l.take i ++ l.getD i 0 :: l.drop (i + 1) := by
    conv => lhs; rw [← List.take_append_drop i l, List.drop_eq_getElem_cons h]
    simp [List.getD, h]
  unfold front
  conv => rhs; rw [e]
  exact List.perm_middle.symm
theorem front_get0 (l : List Int) (i : Nat) : (front l i).getD 0 0 = l.getD i 0 := rfl
theorem posN_mem (l : List Int) (x : Int) (h : x ∈ l) : posN l x < l.length := by
  obtain ⟨j, hj, e⟩ := List.mem_iff_getElem.1 h
  by_cases g : posN l x ≤ j
  · omega
  · have := posN_ne l x j (by omega)
    simp [List.getD, hj, e] at this
/-- The numbers below n, in order. -/
def upto (n : Nat) : List Int := (List.range n).map fun (x : Nat) => (x : Int)
theorem upto_len (n : Nat) : (upto n).length = n := by simp [upto]
theorem upto_get (n k : Nat) (h : k < n) : (upto n).getD k 0 = (k : Int) := by simp [upto, List.getD, h]
theorem upto_mem (n : Nat) (x : Int) : x ∈ upto n ↔ 0 ≤ x ∧ x < (n : Int) := by
  simp only [upto, List.mem_map, List.mem_range]
  constructor
  · rintro ⟨k, hk, rfl⟩; omega
  · intro h; exact ⟨x.toNat, by omega, by omega⟩
/-- How many numbers a list of so many is made of. -/
def clampN (n : Int) : Nat := (min (max n 0) 65536).toNat
theorem clampN_le (n : Int) : clampN n ≤ 65536 := by unfold clampN; omega
theorem clampN_eq (n : Int) : min (max n 0) 65536 = (clampN n : Int) := by unfold clampN; omega
end Go.Proofs.Ythdolanamcmooaa
