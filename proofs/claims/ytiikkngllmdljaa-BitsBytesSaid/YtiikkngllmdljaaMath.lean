/- Plain facts on numbers, bits and lists of bits: no Go program is imported. -/
namespace Go.Proofs.Ytiikkngllmdljaa.M

theorem snoc_ind {α : Type} {P : List α → Prop} (h0 : P []) (h1 : ∀ l b, P l → P (l ++ [b])) (l : List α) : P l := by
  rw [← List.reverse_reverse l]
  induction l.reverse with
  | nil => exact h0
  | cons x t ih => rw [List.reverse_cons]; exact h1 _ _ ih

theorem getD_append_l {α : Type} (l m : List α) (d : α) (i : Nat) (h : i < l.length) : (l ++ m).getD i d = l.getD i d := by
  simp [List.getD, List.getElem?_append_left h]

theorem getD_append_r {α : Type} (l m : List α) (d : α) (i : Nat) (h : l.length ≤ i) : (l ++ m).getD i d = m.getD (i - l.length) d := by
  simp [List.getD, List.getElem?_append_right h]

/-- The lowest n bits of v, the highest of them first. -/
def bitsOf (v n : Nat) : List Bool := (List.range n).map fun i => v.testBit (n - 1 - i)

@[simp] theorem length_bitsOf (v n : Nat) : (bitsOf v n).length = n := by simp [bitsOf]

theorem getD_bitsOf (v n i : Nat) (h : i < n) : (bitsOf v n).getD i false = v.testBit (n - 1 - i) := by
  simp [bitsOf, List.getD, List.getElem?_map, List.getElem?_range h]

/-- The first m bits of n. -/
theorem bitsOf_add (v m n : Nat) : bitsOf v (m + n) = bitsOf (v / 2 ^ n) m ++ bitsOf v n := by
  apply List.ext_getElem
  · simp
  · intro i h1 h2
    simp only [length_bitsOf] at h1
    simp only [bitsOf, List.getElem_map, List.getElem_range, List.getElem_append, List.length_map, List.length_range]
    split
    · rw [Nat.testBit_div_two_pow]; congr 1; omega
    · congr 1; omega

/-- The bits of v are those of v mod 2^n. -/
theorem bitsOf_mod (v n : Nat) : bitsOf (v % 2 ^ n) n = bitsOf v n := by
  apply List.ext_getElem
  · simp
  · intro i h1 h2
    simp only [length_bitsOf] at h1
    simp only [bitsOf, List.getElem_map, List.getElem_range, Nat.testBit_mod_two_pow]
    simp; omega

/-- The number that bits are. -/
def number (l : List Bool) : Nat := l.foldl (fun v b => 2 * v + b.toNat) 0

theorem number_snoc (l : List Bool) (b : Bool) : number (l ++ [b]) = 2 * number l + b.toNat := by
  simp [number, List.foldl_append]

theorem foldl_number (l : List Bool) (a : Nat) : l.foldl (fun v b => 2 * v + b.toNat) a = a * 2 ^ l.length + number l := by
  induction l generalizing a with
  | nil => simp [number]
  | cons x t ih =>
    simp only [List.foldl_cons, List.length_cons, number]
    rw [ih, ih (2 * 0 + x.toNat)]
    rw [Nat.pow_succ]; grind

theorem number_append (l m : List Bool) : number (l ++ m) = number l * 2 ^ m.length + number m := by
  rw [number, List.foldl_append, foldl_number]; rfl

theorem number_lt (l : List Bool) : number l < 2 ^ l.length := by
  induction l using snoc_ind with
  | h0 => simp [number]
  | h1 l b ih =>
    rw [number_snoc]; simp only [List.length_append, List.length_singleton, Nat.pow_succ]
    cases b <;> simp <;> omega

theorem bitsOf_succ (v n : Nat) : bitsOf v (n + 1) = bitsOf (v / 2) n ++ [v.testBit 0] := by
  have := bitsOf_add v n 1
  rw [this]; simp [bitsOf, List.range_succ]

theorem number_bitsOf (v n : Nat) : number (bitsOf v n) = v % 2 ^ n := by
  induction n generalizing v with
  | zero => simp [bitsOf, number, Nat.mod_one]
  | succ n ih =>
    rw [bitsOf_succ, number_snoc, ih, Nat.testBit_zero, Nat.pow_succ, Nat.mul_comm (2 ^ n) 2, Nat.mod_mul]
    rcases Nat.mod_two_eq_zero_or_one v with h | h <;> simp [h] <;> omega

/-- Byte j of bits, filled up with noughts. -/
def byteAt (l : List Bool) (j : Nat) : Nat := number ((List.range 8).map fun i => l.getD (8 * j + i) false)

theorem byteAt_lt (l : List Bool) (j : Nat) : byteAt l j < 256 := by
  have := number_lt ((List.range 8).map fun i => l.getD (8 * j + i) false)
  simpa [byteAt] using this

theorem testBit_number (l : List Bool) (t : Nat) : (number l).testBit t = (decide (t < l.length) && l.getD (l.length - 1 - t) false) := by
  induction l using snoc_ind generalizing t with
  | h0 => simp [number]
  | h1 l b ih =>
    rw [number_snoc]
    cases t with
    | zero => 
      rw [Nat.testBit_zero]
      cases b <;> simp [List.getD]
    | succ t =>
      have h2 : (2 * number l + b.toNat) / 2 = number l := by cases b <;> simp <;> omega
      rw [Nat.testBit_succ, h2, ih]
      simp only [List.length_append, List.length_singleton]
      by_cases h : t < l.length
      · have h4 : l.length + 1 - 1 - (t + 1) = l.length - 1 - t := by omega
        rw [h4, getD_append_l _ _ _ _ (by omega)]
        simp [h]
      · simp [h]

theorem testBit_byteAt (l : List Bool) (j t : Nat) : (byteAt l j).testBit t = (decide (t < 8) && l.getD (8 * j + (7 - t)) false) := by
  rw [byteAt, testBit_number]
  simp only [List.length_map, List.length_range]
  by_cases h : t < 8
  · have h2 : 8 - 1 - t < 8 := by omega
    simp [h, List.getD, List.getElem?_map, List.getElem?_range h2]
  · simp [h]

/-- The bytes of bits. -/
def pack (l : List Bool) : List Nat := (List.range ((l.length + 7) / 8)).map (byteAt l)

@[simp] theorem length_pack (l : List Bool) : (pack l).length = (l.length + 7) / 8 := by simp [pack]

theorem getElem?_pack (l : List Bool) (j : Nat) (h : j < (l.length + 7) / 8) : (pack l)[j]? = some (byteAt l j) := by
  simp [pack, List.getElem?_map, List.getElem?_range h]

/-- The bits of bytes. -/
def unpack (b : List Nat) : List Bool := b.flatMap fun x => bitsOf x 8

@[simp] theorem length_unpack (b : List Nat) : (unpack b).length = 8 * b.length := by
  induction b with
  | nil => simp [unpack]
  | cons x t ih => simp only [unpack, List.flatMap_cons, List.length_append, length_bitsOf, List.length_cons] at *; omega

theorem unpack_snoc (b : List Nat) (x : Nat) : unpack (b ++ [x]) = unpack b ++ bitsOf x 8 := by simp [unpack]

theorem getD_unpack (b : List Nat) (i : Nat) (h : i < 8 * b.length) : (unpack b).getD i false = (b.getD (i / 8) 0).testBit (7 - i % 8) := by
  induction b generalizing i with
  | nil => simp at h
  | cons x t ih =>
    simp only [unpack, List.flatMap_cons] at *
    simp only [List.length_cons] at h
    by_cases h8 : i < 8
    · have h0 : i / 8 = 0 := by omega
      have h1 : i % 8 = i := by omega
      have hl : i < (bitsOf x 8).length := by simpa using h8
      rw [getD_append_l _ _ _ _ hl, getD_bitsOf _ _ _ h8, h0, h1]; simp
    · have hl : (bitsOf x 8).length ≤ i := by simp; omega
      rw [getD_append_r _ _ _ _ hl, length_bitsOf, ih (i - 8) (by omega)]
      obtain ⟨m, rfl⟩ : ∃ m, i = m + 8 := ⟨i - 8, by omega⟩
      have h0 : (m + 8) / 8 = m / 8 + 1 := by omega
      have h1 : (m + 8) % 8 = m % 8 := by omega
      rw [h0, h1]; simp

end Go.Proofs.Ytiikkngllmdljaa.M
