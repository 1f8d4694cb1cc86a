/- The stack machine's code as bytes: plain mathematics, no Go program is imported. -/
import Derived.Test.YtbgmdckfkfkglaaVMath
set_option linter.unusedSimpArgs false
set_option linter.unusedVariables false
namespace Go.Proofs.Ytbgmdckfkfkglaa.M

/-- An instruction: its operation, its number. -/
structure Cod where
  op : Int
  k : Int

instance cod_any : Inhabited Cod := ⟨⟨0, 0⟩⟩
theorem Cod.ext' {c d : Cod} (h1 : c.op = d.op) (h2 : c.k = d.k) : c = d := by cases c; cases d; simp_all

/-- Whether an operation has a number. -/
def hasK (op : Int) : Bool := decide (op = 1 ∨ op = 5 ∨ op = 8 ∨ op = 25 ∨ op = 26 ∨ op = 27 ∨ op = 28 ∨ op = 30)
def Cod.Good (c : Cod) : Prop := 0 ≤ c.op ∧ c.op < 34 ∧ (c.k = 0 ∨ hasK c.op = true)
instance (c : Cod) : Decidable c.Good := by unfold Cod.Good; exact inferInstance
/-- The numbers that an int32 holds. -/
def Cod.Fits (c : Cod) : Prop := (-9223372036854775808 ≤ c.op ∧ c.op ≤ 9223372036854775807) ∧ -2147483648 ≤ c.k ∧ c.k ≤ 2147483647

/-- An instruction's bytes. -/
def codB (c : Cod) : List Nat := c.op.toNat :: (if hasK c.op then putVar (zig c.k) else [])
def bytesOf (L : List Cod) : List Nat := L.flatMap codB
def encL (L : List Cod) : List Nat := putVar L.length ++ bytesOf L

/-- The instruction that bytes begin with, and how many bytes it has. -/
def firstV : List Nat → Option (Cod × Nat)
  | [] => none
  | o :: t =>
    if 34 ≤ o then none
    else if hasK o then
      (if (readV 0 0 t).2.2 = true ∧ -2147483648 ≤ zag (readV 0 0 t).1 ∧ zag (readV 0 0 t).1 ≤ 2147483647 then some (⟨o, zag (readV 0 0 t).1⟩, 1 + (readV 0 0 t).2.1) else none)
    else some (⟨o, 0⟩, 1)
/-- A list of so many instructions, all of the bytes. -/
def listV : Nat → List Nat → Option (List Cod)
  | 0, B => if B = [] then some [] else none
  | n + 1, B =>
    match firstV B with
    | none => none
    | some (c, m) => (listV n (B.drop m)).map (c :: ·)
def decL (B : List Nat) : Option (List Cod) := if (readV 0 0 B).2.2 then listV (readV 0 0 B).1 (B.drop (readV 0 0 B).2.1) else none

theorem firstV_cons (o : Nat) (t : List Nat) : firstV (o :: t) = if 34 ≤ o then none else if hasK o then (if (readV 0 0 t).2.2 = true ∧ -2147483648 ≤ zag (readV 0 0 t).1 ∧ zag (readV 0 0 t).1 ≤ 2147483647 then some (⟨o, zag (readV 0 0 t).1⟩, 1 + (readV 0 0 t).2.1) else none) else some (⟨o, 0⟩, 1) := rfl
theorem hasK_lt {op : Int} (h : hasK op = true) : 0 ≤ op ∧ op < 34 := by
  unfold hasK at h
  have := of_decide_eq_true h
  omega

theorem readV_len (l : List Nat) : ∀ (i acc a n : Nat), readV i acc l = (a, n, true) → n ≤ i + l.length ∧ i < n := by
  induction l with
  | nil => intro i acc a n h; rw [readV_nil] at h; simp at h
  | cons c l ih =>
    intro i acc a n h
    rw [readV] at h
    split at h
    · simp at h
    · split at h
      · simp at h
      · split at h
        · split at h
          · simp at h
          · simp only [Prod.mk.injEq, and_true] at h
            simp only [List.length_cons]; omega
        · have := ih _ _ _ _ h
          simp only [List.length_cons]; omega

theorem readV_le (l : List Nat) (h : (readV 0 0 l).2.2 = true) : (readV 0 0 l).2.1 ≤ l.length ∧ 0 < (readV 0 0 l).2.1 := by
  have := readV_len l 0 0 (readV 0 0 l).1 (readV 0 0 l).2.1 (by rw [← h])
  omega
theorem readV_lt (l : List Nat) : (readV 0 0 l).1 < 18446744073709551616 := (readV_bound l 0 0 (by decide) (by decide) (by omega)).1

theorem firstV_some {B : List Nat} {c : Cod} {m : Nat} (h : firstV B = some (c, m)) : 1 ≤ m ∧ m ≤ B.length ∧ c.Good ∧ -2147483648 ≤ c.k ∧ c.k ≤ 2147483647 := by
  cases B with
  | nil => simp [firstV] at h
  | cons o t =>
    rw [firstV_cons] at h
    split at h
    · simp at h
    · split at h
      · rename_i h1 h2
        split at h
        · rename_i h3
          simp only [Option.some.injEq, Prod.mk.injEq] at h
          obtain ⟨rfl, rfl⟩ := h
          have := readV_le t h3.1
          refine ⟨by omega, by simp only [List.length_cons]; omega, ⟨by simp, by simp only; omega, Or.inr h2⟩, h3.2.1, h3.2.2⟩
        · simp at h
      · rename_i h1 h2
        simp only [Option.some.injEq, Prod.mk.injEq] at h
        obtain ⟨rfl, rfl⟩ := h
        exact ⟨by omega, by simp, ⟨by simp, by simp only; omega, Or.inl rfl⟩, by simp, by simp⟩

theorem listV_some : ∀ (n : Nat) (B : List Nat) (l : List Cod), listV n B = some l → n ≤ B.length ∧ l.length = n := by
  intro n
  induction n with
  | zero =>
    intro B l h
    unfold listV at h
    split at h
    · simp only [Option.some.injEq] at h; subst h; exact ⟨by omega, rfl⟩
    · simp at h
  | succ n ih =>
    intro B l h
    unfold listV at h
    split at h
    · simp at h
    · rename_i c m h1
      simp only [Option.map_eq_some_iff] at h
      obtain ⟨l', h2, rfl⟩ := h
      have := ih _ _ h2
      have h3 := firstV_some h1
      simp only [List.length_drop] at this
      exact ⟨by omega, by simp [this.2]⟩

theorem codB_pos (c : Cod) : 0 < (codB c).length := by simp [codB]
theorem codB_le (c : Cod) (h : c.Fits) : (codB c).length ≤ 11 := by
  unfold codB
  split
  · have := putVar_len (zig c.k) (zig_lt c.k (by have := h.2; omega) (by have := h.2; omega))
    simp only [List.length_cons]; omega
  · simp
theorem codB_lt (c : Cod) (h : c.Good) : ∀ x ∈ codB c, x < 256 := by
  intro x hx
  unfold codB at hx
  rcases List.mem_cons.1 hx with hx | hx
  · obtain ⟨h1, h2, _⟩ := h; omega
  · split at hx
    · exact putVar_lt _ x hx
    · simp at hx
theorem bytesOf_cons (c : Cod) (L : List Cod) : bytesOf (c :: L) = codB c ++ bytesOf L := by simp [bytesOf]
theorem bytesOf_snoc (L : List Cod) (c : Cod) : bytesOf (L ++ [c]) = bytesOf L ++ codB c := by simp [bytesOf]
theorem bytesOf_le (L : List Cod) (h : ∀ c ∈ L, c.Fits) : (bytesOf L).length ≤ 11 * L.length := by
  induction L with
  | nil => simp [bytesOf]
  | cons c L ih =>
    rw [bytesOf_cons, List.length_append, List.length_cons]
    have h1 := codB_le c (h c (by simp))
    have h2 := ih (fun d hd => h d (by simp [hd]))
    omega
theorem bytesOf_lt (L : List Cod) (h : ∀ c ∈ L, c.Good) : ∀ x ∈ bytesOf L, x < 256 := by
  intro x hx
  simp only [bytesOf, List.mem_flatMap] at hx
  obtain ⟨c, hc, hx⟩ := hx
  exact codB_lt c (h c hc) x hx
theorem encL_lt (L : List Cod) (h : ∀ c ∈ L, c.Good) : ∀ x ∈ encL L, x < 256 := by
  intro x hx
  unfold encL at hx
  rcases List.mem_append.1 hx with hx | hx
  · exact putVar_lt _ x hx
  · exact bytesOf_lt L h x hx
theorem encL_le (L : List Cod) (h : ∀ c ∈ L, c.Fits) (hl : L.length ≤ 1000) : (encL L).length ≤ 10 + 11 * L.length := by
  unfold encL
  have h1 := putVar_len L.length (by omega)
  have h2 := bytesOf_le L h
  rw [List.length_append]; omega
theorem encL_pos (L : List Cod) : 0 < (encL L).length := by
  unfold encL
  have := putVar_pos L.length
  rw [List.length_append]; omega

theorem firstV_codB (c : Cod) (rest : List Nat) (h : c.Good) (h1 : -2147483648 ≤ c.k) (h2 : c.k ≤ 2147483647) : firstV (codB c ++ rest) = some (c, (codB c).length) := by
  obtain ⟨op, k⟩ := c
  obtain ⟨g1, g2, g3⟩ := h
  simp only at g1 g2 g3 h1 h2
  obtain ⟨o, rfl⟩ := Int.eq_ofNat_of_zero_le g1
  unfold codB
  by_cases hk : hasK (o : Int) = true
  · have hr := readV_put (zig k) rest (zig_lt k (by omega) (by omega))
    simp only [hk, if_true, Int.toNat_natCast, List.cons_append]
    rw [firstV_cons, if_neg (show ¬ 34 ≤ o by omega), if_pos hk, hr]
    simp only [zag_zig]
    rw [if_pos ⟨trivial, h1, h2⟩]
    simp only [List.length_cons]
    rw [Nat.add_comm]
  · have hk0 : k = 0 := g3.elim id (fun h => absurd h hk)
    subst hk0
    simp only [hk, Int.toNat_natCast, List.cons_append]
    have e : (if False then putVar (zig 0) else []) ++ rest = rest := by simp
    simp only [Bool.false_eq_true, if_false, List.nil_append]
    rw [firstV_cons, if_neg (show ¬ 34 ≤ o by omega), if_neg hk]
    simp

theorem listV_bytes (L : List Cod) (h : ∀ c ∈ L, c.Good ∧ -2147483648 ≤ c.k ∧ c.k ≤ 2147483647) : listV L.length (bytesOf L) = some L := by
  induction L with
  | nil => simp [listV, bytesOf]
  | cons c L ih =>
    have hc := h c (by simp)
    rw [List.length_cons, bytesOf_cons]
    unfold listV
    rw [firstV_codB c _ hc.1 hc.2.1 hc.2.2]
    simp only [List.drop_left']
    rw [ih (fun d hd => h d (by simp [hd]))]
    rfl
theorem decL_encL (L : List Cod) (h : ∀ c ∈ L, c.Good) (hf : ∀ c ∈ L, c.Fits) (hl : L.length ≤ 1000) : decL (encL L) = some L := by
  have hr := readV_put L.length (bytesOf L) (by omega)
  unfold decL encL
  rw [hr]
  simp only [if_true, List.drop_left']
  exact listV_bytes L (fun c hc => ⟨h c hc, (hf c hc).2⟩)
theorem decL_some {B : List Nat} {l : List Cod} (h : decL B = some l) : (readV 0 0 B).2.2 = true ∧ (readV 0 0 B).1 ≤ B.length := by
  unfold decL at h
  split at h
  · rename_i h1
    have := (listV_some _ _ _ h).1
    rw [List.length_drop] at this
    exact ⟨h1, by omega⟩
  · simp at h
end Go.Proofs.Ytbgmdckfkfkglaa.M
