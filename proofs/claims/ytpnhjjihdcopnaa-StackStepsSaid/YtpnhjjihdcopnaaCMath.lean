/- The stack machine's code as bytes: plain mathematics, no Go program is imported. -/
import Derived.Test.YtpnhjjihdcopnaaVMath
import Derived.Test.YtpnhjjihdcopnaaNum
import Derived.Laws.BitsAllLaws
import Derived.Laws.BitsLemmas
set_option linter.unusedSimpArgs false
set_option linter.unusedVariables false
namespace Go.Proofs.Ytpnhjjihdcopnaa.M

/-- An instruction: its operation, its number. -/
structure Cod where
  op : Int
  k : Int

instance cod_any : Inhabited Cod := ⟨⟨0, 0⟩⟩
theorem Cod.ext' {c d : Cod} (h1 : c.op = d.op) (h2 : c.k = d.k) : c = d := by cases c; cases d; simp_all

/-- Whether an operation has a number. -/
def hasK (op : Int) : Bool := decide (op = 1 ∨ op = 5 ∨ op = 8 ∨ op = 25 ∨ op = 26 ∨ op = 27 ∨ op = 28 ∨ op = 30)
def Cod.Good (c : Cod) : Prop := 0 ≤ c.op ∧ c.op < 34 ∧ (c.k = 0 ∨ hasK c.op = true)
instance (c : Cod) : Decidable c.Good := by unfold Cod.Good; exact inferInstance
/-- The numbers that an int32 holds. -/
def Cod.Fits (c : Cod) : Prop := (-9223372036854775808 ≤ c.op ∧ c.op ≤ 9223372036854775807) ∧ -2147483648 ≤ c.k ∧ c.k ≤ 2147483647

/-- An instruction's bytes. -/
def codB (c : Cod) : List Nat := c.op.toNat :: (if hasK c.op then putVar (zig c.k) else [])
def bytesOf (L : List Cod) : List Nat := L.flatMap codB
def encL (L : List Cod) : List Nat := putVar L.length ++ bytesOf L

/-- The instruction that bytes begin with, and how many bytes it has. -/
def firstV : List Nat → Option (Cod × Nat)
  | [] => none
  | o :: t =>
    if 34 ≤ o then none
    else if hasK o then
      (if (readV 0 0 t).2.2 = true ∧ -2147483648 ≤ zag (readV 0 0 t).1 ∧ zag (readV 0 0 t).1 ≤ 2147483647 then some (⟨o, zag (readV 0 0 t).1⟩, 1 + (readV 0 0 t).2.1) else none)
    else some (⟨o, 0⟩, 1)
/-- A list of so many instructions, all of the bytes. -/
def listV : Nat → List Nat → Option (List Cod)
  | 0, B => if B = [] then some [] else none
  | n + 1, B =>
    match firstV B with
    | none => none
    | some (c, m) => (listV n (B.drop m)).map (c :: ·)
def decL (B : List Nat) : Option (List Cod) := if (readV 0 0 B).2.2 then listV (readV 0 0 B).1 (B.drop (readV 0 0 B).2.1) else none

theorem firstV_cons (o : Nat) (t : List Nat) : firstV (o :: t) = if 34 ≤ o then none else if hasK o then (if (readV 0 0 t).2.2 = true ∧ -2147483648 ≤ zag (readV 0 0 t).1 ∧ zag (readV 0 0 t).1 ≤ 2147483647 then some (⟨o, zag (readV 0 0 t).1⟩, 1 + (readV 0 0 t).2.1) else none) else some (⟨o, 0⟩, 1) := rfl
theorem hasK_lt {op : Int} (h : hasK op = true) : 0 ≤ op ∧ op < 34 := by
  unfold hasK at h
  have := of_decide_eq_true h
  omega

theorem readV_len (l : List Nat) : ∀ (i acc a n : Nat), readV i acc l = (a, n, true) → n ≤ i + l.length ∧ i < n := by
  induction l with
  | nil => intro i acc a n h; rw [readV_nil] at h; simp at h
  | cons c l ih =>
    intro i acc a n h
    rw [readV] at h
    split at h
    · simp at h
    · split at h
      · simp at h
      · split at h
        · split at h
          · simp at h
          · simp only [Prod.mk.injEq, and_true] at h
            simp only [List.length_cons]; omega
        · have := ih _ _ _ _ h
          simp only [List.length_cons]; omega

theorem readV_le (l : List Nat) (h : (readV 0 0 l).2.2 = true) : (readV 0 0 l).2.1 ≤ l.length ∧ 0 < (readV 0 0 l).2.1 := by
  have := readV_len l 0 0 (readV 0 0 l).1 (readV 0 0 l).2.1 (by rw [← h])
  omega
theorem readV_lt (l : List Nat) : (readV 0 0 l).1 < 18446744073709551616 := (readV_bound l 0 0 (by decide) (by decide) (by omega)).1

theorem firstV_some {B : List Nat} {c : Cod} {m : Nat} (h : firstV B = some (c, m)) : 1 ≤ m ∧ m ≤ B.length ∧ c.Good ∧ -2147483648 ≤ c.k ∧ c.k ≤ 2147483647 := by
  cases B with
  | nil => simp [firstV] at h
  | cons o t =>
    rw [firstV_cons] at h
    split at h
    · simp at h
    · split at h
      · rename_i h1 h2
        split at h
        · rename_i h3
          simp only [Option.some.injEq, Prod.mk.injEq] at h
          obtain ⟨rfl, rfl⟩ := h
          have := readV_le t h3.1
          refine ⟨by omega, by simp only [List.length_cons]; omega, ⟨by simp, by simp only; omega, Or.inr h2⟩, h3.2.1, h3.2.2⟩
        · simp at h
      · rename_i h1 h2
        simp only [Option.some.injEq, Prod.mk.injEq] at h
        obtain ⟨rfl, rfl⟩ := h
        exact ⟨by omega, by simp, ⟨by simp, by simp only; omega, Or.inl rfl⟩, by simp, by simp⟩

theorem listV_some : ∀ (n : Nat) (B : List Nat) (l : List Cod), listV n B = some l → n ≤ B.length ∧ l.length = n := by
  intro n
  induction n with
  | zero =>
    intro B l h
    unfold listV at h
    split at h
    · simp only [Option.some.injEq] at h; subst h; exact ⟨by omega, rfl⟩
    · simp at h
  | succ n ih =>
    intro B l h
    unfold listV at h
    split at h
    · simp at h
    · rename_i c m h1
      simp only [Option.map_eq_some_iff] at h
      obtain ⟨l', h2, rfl⟩ := h
      have := ih _ _ h2
      have h3 := firstV_some h1
      simp only [List.length_drop] at this
      exact ⟨by omega, by simp [this.2]⟩

theorem codB_pos (c : Cod) : 0 < (codB c).length := by simp [codB]
theorem codB_le (c : Cod) (h : c.Fits) : (codB c).length ≤ 11 := by
  unfold codB
  split
  · have := putVar_len (zig c.k) (zig_lt c.k (by have := h.2; omega) (by have := h.2; omega))
    simp only [List.length_cons]; omega
  · simp
theorem codB_lt (c : Cod) (h : c.Good) : ∀ x ∈ codB c, x < 256 := by
  intro x hx
  unfold codB at hx
  rcases List.mem_cons.1 hx with hx | hx
  · obtain ⟨h1, h2, _⟩ := h; omega
  · split at hx
    · exact putVar_lt _ x hx
    · simp at hx
theorem bytesOf_cons (c : Cod) (L : List Cod) : bytesOf (c :: L) = codB c ++ bytesOf L := by simp [bytesOf]
theorem bytesOf_snoc (L : List Cod) (c : Cod) : bytesOf (L ++ [c]) = bytesOf L ++ codB c := by simp [bytesOf]
theorem bytesOf_le (L : List Cod) (h : ∀ c ∈ L, c.Fits) : (bytesOf L).length ≤ 11 * L.length := by
  induction L with
  | nil => simp [bytesOf]
  | cons c L ih =>
    rw [bytesOf_cons, List.length_append, List.length_cons]
    have h1 := codB_le c (h c (by simp))
    have h2 := ih (fun d hd => h d (by simp [hd]))
    omega
theorem bytesOf_lt (L : List Cod) (h : ∀ c ∈ L, c.Good) : ∀ x ∈ bytesOf L, x < 256 := by
  intro x hx
  simp only [bytesOf, List.mem_flatMap] at hx
  obtain ⟨c, hc, hx⟩ := hx
  exact codB_lt c (h c hc) x hx
theorem encL_lt (L : List Cod) (h : ∀ c ∈ L, c.Good) : ∀ x ∈ encL L, x < 256 := by
  intro x hx
  unfold encL at hx
  rcases List.mem_append.1 hx with hx | hx
  · exact putVar_lt _ x hx
  · exact bytesOf_lt L h x hx
theorem encL_le (L : List Cod) (h : ∀ c ∈ L, c.Fits) (hl : L.length ≤ 1000) : (encL L).length ≤ 10 + 11 * L.length := by
  unfold encL
  have h1 := putVar_len L.length (by omega)
  have h2 := bytesOf_le L h
  rw [List.length_append]; omega
theorem encL_pos (L : List Cod) : 0 < (encL L).length := by
  unfold encL
  have := putVar_pos L.length
  rw [List.length_append]; omega

theorem firstV_codB (c : Cod) (rest : List Nat) (h : c.Good) (h1 : -2147483648 ≤ c.k) (h2 : c.k ≤ 2147483647) : firstV (codB c ++ rest) = some (c, (codB c).length) := by
  obtain ⟨op, k⟩ := c
  obtain ⟨g1, g2, g3⟩ := h
  simp only at g1 g2 g3 h1 h2
  obtain ⟨o, rfl⟩ := Int.eq_ofNat_of_zero_le g1
  unfold codB
  by_cases hk : hasK (o : Int) = true
  · have hr := readV_put (zig k) rest (zig_lt k (by omega) (by omega))
    simp only [hk, if_true, Int.toNat_natCast, List.cons_append]
    rw [firstV_cons, if_neg (show ¬ 34 ≤ o by omega), if_pos hk, hr]
    simp only [zag_zig]
    rw [if_pos ⟨trivial, h1, h2⟩]
    simp only [List.length_cons]
    rw [Nat.add_comm]
  · have hk0 : k = 0 := g3.elim id (fun h => absurd h hk)
    subst hk0
    simp only [hk, Int.toNat_natCast, List.cons_append]
    have e : (if False then putVar (zig 0) else []) ++ rest = rest := by simp
    simp only [Bool.false_eq_true, if_false, List.nil_append]
    rw [firstV_cons, if_neg (show ¬ 34 ≤ o by omega), if_neg hk]
    simp

theorem listV_bytes (L : List Cod) (h : ∀ c ∈ L, c.Good ∧ -2147483648 ≤ c.k ∧ c.k ≤ 2147483647) : listV L.length (bytesOf L) = some L := by
  induction L with
  | nil => simp [listV, bytesOf]
  | cons c L ih =>
    have hc := h c (by simp)
    rw [List.length_cons, bytesOf_cons]
    unfold listV
    rw [firstV_codB c _ hc.1 hc.2.1 hc.2.2]
    simp only [List.drop_left']
    rw [ih (fun d hd => h d (by simp [hd]))]
    rfl
theorem decL_encL (L : List Cod) (h : ∀ c ∈ L, c.Good) (hf : ∀ c ∈ L, c.Fits) (hl : L.length ≤ 1000) : decL (encL L) = some L := by
  have hr := readV_put L.length (bytesOf L) (by omega)
  unfold decL encL
  rw [hr]
  simp only [if_true, List.drop_left']
  exact listV_bytes L (fun c hc => ⟨h c hc, (hf c hc).2⟩)
theorem decL_some {B : List Nat} {l : List Cod} (h : decL B = some l) : (readV 0 0 B).2.2 = true ∧ (readV 0 0 B).1 ≤ B.length := by
  unfold decL at h
  split at h
  · rename_i h1
    have := (listV_some _ _ _ h).1
    rw [List.length_drop] at this
    exact ⟨h1, by omega⟩
  · simp at h
end Go.Proofs.Ytpnhjjihdcopnaa.M

/- Words of 32 bits: U, a number's bits as a Nat; S, a Nat's bits as a number; rotation; spans. -/
set_option linter.unusedSimpArgs false
set_option linter.unusedVariables false
namespace Go.Proofs.Ytpnhjjihdcopnaa.M
open Go.RowKit

def U (a : Int) : Nat := (a % 4294967296).toNat
def S (u : Nat) : Int := if u < 2147483648 then (u : Int) else (u : Int) - 4294967296
def I32 (a : Int) : Prop := -2147483648 ≤ a ∧ a ≤ 2147483647

theorem U_lt (a : Int) : U a < 4294967296 := by unfold U; omega
theorem S_i32 (u : Nat) (h : u < 4294967296) : I32 (S u) := by unfold I32 S; split <;> omega
theorem S_U (a : Int) (h : I32 a) : S (U a) = a := by unfold I32 at h; unfold S U; split <;> omega
theorem U_S (u : Nat) (h : u < 4294967296) : U (S u) = u := by unfold S U; split <;> omega
theorem S_inj {u v : Nat} (hu : u < 4294967296) (hv : v < 4294967296) : (S u == S v) = (u == v) := by
  rw [Bool.eq_iff_iff, beq_iff_eq, beq_iff_eq]; exact ⟨fun h => by rw [← U_S u hu, h, U_S v hv], fun h => by rw [h]⟩
theorem wu (a : Int) : IntKind.u32.wrap a = (U a : Int) := by rw [IntKind.wrap_u32]; unfold U; omega
theorem ws (a : Int) : IntKind.i32.wrap a = S (U a) := by rw [IntKind.wrap_i32]; unfold S U; split <;> omega
theorem U_nat (u : Nat) (h : u < 4294967296) : U (u : Int) = u := by unfold U; omega
theorem ws_nat (u : Nat) (h : u < 4294967296) : IntKind.i32.wrap (u : Int) = S u := by rw [ws, U_nat u h]
theorem ws_small (a : Int) (h : I32 a) : IntKind.i32.wrap a = a := by rw [ws, S_U a h]
theorem wrap_32_64 (a : Int) : wrap32 (wrap64 a) = wrap32 a := by unfold wrap32 wrap64; omega
theorem w32 (a : Int) : wrap32 a = S (U a) := by unfold wrap32 S U; split <;> omega
theorem w32_nat (u : Nat) (h : u < 4294967296) : wrap32 (u : Int) = S u := by rw [w32, U_nat u h]
theorem w32_in (a : Int) (h : I32 a) : wrap32 a = a := by rw [w32, S_U a h]

/-- Go's division, rounded down. -/
theorem div_facts (a b : Int) (hb : 1 ≤ b) : (a.tmod b < 0 → a.tdiv b - 1 = a / b ∧ a.tmod b + b = a % b) ∧ (0 ≤ a.tmod b → a.tdiv b = a / b ∧ a.tmod b = a % b) := by
  have h1 := Int.tmod_add_mul_tdiv a b
  have h2 : a.tmod b < b := by have := Int.tmod_lt_of_pos a (show 0 < b by omega); exact this
  have h3 : -b < a.tmod b := by
    have := Int.lt_tmod_of_pos a (show 0 < b by omega); omega
  have hu := fun q r => (Int.ediv_emod_unique (a := a) (b := b) (q := q) (r := r) (by omega)).2
  refine ⟨fun h => ?_, fun h => ?_⟩
  · have := hu (a.tdiv b - 1) (a.tmod b + b) ⟨by rw [Int.mul_sub, Int.mul_one]; omega, by omega, by omega⟩
    exact ⟨this.1.symm, this.2.symm⟩
  · have := hu (a.tdiv b) (a.tmod b) ⟨h1, h, h2⟩
    exact ⟨this.1.symm, this.2.symm⟩
theorem div_i32 (a b : Int) (ha : I32 a) (hb : 1 ≤ b) : I32 (a / b) := by
  unfold I32 at *
  have h1 : a / b ≤ 2147483647 := by
    have := Int.ediv_le_ediv (c := b) (by omega) ha.2
    have h2 : (2147483647 : Int) / b ≤ 2147483647 := Int.ediv_le_self b (by decide)
    omega
  have h2 : -2147483648 ≤ a / b := by
    rw [Int.le_ediv_iff_mul_le (by omega)]
    have := Int.mul_le_mul_of_nonpos_left (a := -2147483648) (by decide) hb
    omega
  exact ⟨h2, h1⟩
/-- The quotient that is cut towards nought fits. -/
theorem tdiv_i32 (a b : Int) (ha : I32 a) (hb : 1 ≤ b) : I32 (a.tdiv b) := by
  have hd := div_i32 a b ha hb
  obtain ⟨h1, h2⟩ := div_facts a b hb
  have hm : a % b < b := Int.emod_lt_of_pos a (by omega)
  obtain ⟨t, ht⟩ : ∃ t, a.tdiv b = t := ⟨_, rfl⟩
  obtain ⟨q, hq⟩ : ∃ q, a / b = q := ⟨_, rfl⟩
  obtain ⟨m, hm⟩ : ∃ m, a.tmod b = m := ⟨_, rfl⟩
  have hu := Int.tmod_add_mul_tdiv a b
  rw [ht, hm] at hu
  rw [hq, hm, ht] at h1 h2
  rw [hq] at hd
  rw [ht]
  unfold I32 at *
  by_cases h : m < 0
  · have h3 := (h1 h).1
    refine ⟨by omega, ?_⟩
    by_cases h4 : t ≤ 0
    · omega
    · have h5 : t ≤ b * t := by
        have := Int.mul_le_mul_of_nonneg_right hb (show 0 ≤ t by omega)
        omega
      have h6 : 0 ≤ a := by
        by_cases h7 : 0 ≤ a
        · exact h7
        · exfalso
          have h9 : a.tdiv b ≤ 0 := by
            have := Int.neg_tdiv (-a) b
            rw [Int.neg_neg] at this
            have hh := Int.tdiv_nonneg (a := -a) (b := b) (by omega) (by omega)
            omega
          omega
      have := Int.tmod_nonneg b h6
      omega
  · have h3 := (h2 (by omega)).1
    omega
theorem wu_S (u : Nat) (h : u < 4294967296) : IntKind.u32.wrap (S u) = (u : Int) := by rw [wu, U_S u h]

theorem ofInt_S (u : Nat) (h : u < 4294967296) : (BitVec.ofInt 32 (S u)) = BitVec.ofNat 32 u := by
  apply BitVec.eq_of_toNat_eq
  rw [BitVec.toNat_ofInt, BitVec.toNat_ofNat]
  have := U_S u h
  unfold U at this
  rw [Nat.mod_eq_of_lt (by simpa using h)]
  exact this
theorem or_S (u v : Nat) (hu : u < 4294967296) (hv : v < 4294967296) : bits .or .i32 (S u) (S v) = S (u ||| v) := by
  have h : u ||| v < 2 ^ 32 := Nat.or_lt_two_pow hu hv
  show IntKind.i32.wrap ((BitVec.ofInt 32 (S u) ||| BitVec.ofInt 32 (S v)).toNat : Int) = _
  rw [ofInt_S u hu, ofInt_S v hv, BitVec.toNat_or, BitVec.toNat_ofNat, BitVec.toNat_ofNat, Nat.mod_eq_of_lt hu, Nat.mod_eq_of_lt hv, ws_nat _ h]
theorem and_S (u v : Nat) (hu : u < 4294967296) (hv : v < 4294967296) : bits .and .i32 (S u) (S v) = S (u &&& v) := by
  have h : u &&& v < 2 ^ 32 := Nat.and_lt_two_pow _ hv
  show IntKind.i32.wrap ((BitVec.ofInt 32 (S u) &&& BitVec.ofInt 32 (S v)).toNat : Int) = _
  rw [ofInt_S u hu, ofInt_S v hv, BitVec.toNat_and, BitVec.toNat_ofNat, BitVec.toNat_ofNat, Nat.mod_eq_of_lt hu, Nat.mod_eq_of_lt hv, ws_nat _ h]
theorem S_small (u : Nat) (h : u < 2147483648) : S u = (u : Int) := by unfold S; rw [if_pos h]
/-- 'a & (2 to the k, less 1)' on an int32. -/
theorem and_mask (a : Int) (k : Nat) (h : I32 a) (hk : k < 32) : bits .and .i32 a ((2 ^ k - 1 : Nat) : Int) = ((U a % 2 ^ k : Nat) : Int) := by
  have h1 : 2 ^ k ≤ 2147483648 := by
    have := Nat.pow_le_pow_right (n := 2) (by omega) (show k ≤ 31 by omega); simpa using this
  have h0 : 0 < 2 ^ k := Nat.two_pow_pos k
  have hm := Nat.mod_lt (U a) h0
  rw [← S_small (2 ^ k - 1) (by omega)]
  conv => lhs; arg 3; rw [← S_U a h]
  rw [and_S _ _ (U_lt a) (by omega), Nat.and_two_pow_sub_one_eq_mod, S_small _ (by omega)]

/-- The bits moved round to the right by k. -/
def rorN (u k : Nat) : Nat := (u / 2 ^ k) ||| (u * 2 ^ (32 - k) % 4294967296)
theorem rorN_lt (u k : Nat) (hu : u < 4294967296) : rorN u k < 4294967296 :=
  Nat.or_lt_two_pow (n := 32) (Nat.lt_of_le_of_lt (Nat.div_le_self _ _) hu) (Nat.mod_lt _ (by decide))
theorem rorN_bit (u k i : Nat) (hu : u < 4294967296) (hk : k < 32) (hi : i < 32) : (rorN u k).testBit i = u.testBit ((i + k) % 32) := by
  have h0 : ∀ j, 32 ≤ j → u.testBit j = false := fun j hj => Nat.testBit_lt_two_pow (Nat.lt_of_lt_of_le hu (by
    have := Nat.pow_le_pow_right (n := 2) (by omega) hj; simpa using this))
  unfold rorN
  rw [Nat.testBit_or, ← Nat.shiftRight_eq_div_pow, Nat.testBit_shiftRight, show (4294967296 : Nat) = 2 ^ 32 by decide, Nat.testBit_mod_two_pow, ← Nat.shiftLeft_eq, Nat.testBit_shiftLeft]
  by_cases h : i + k < 32
  · rw [Nat.mod_eq_of_lt h, Nat.add_comm k i]
    have e : decide (i ≥ 32 - k) = false := by simp; omega
    rw [e]; simp
  · rw [h0 (k + i) (by omega), show (i + k) % 32 = i - (32 - k) by omega]
    have e : decide (i ≥ 32 - k) = true := by simp; omega
    rw [e]; simp [hi]
theorem eq_of_bits {u v : Nat} (hu : u < 4294967296) (hv : v < 4294967296) (h : ∀ i, i < 32 → u.testBit i = v.testBit i) : u = v := by
  apply Nat.eq_of_testBit_eq
  intro i
  by_cases hi : i < 32
  · exact h i hi
  · have e : ∀ x, x < 4294967296 → x.testBit i = false := fun x hx => Nat.testBit_lt_two_pow (Nat.lt_of_lt_of_le hx (by
      have := Nat.pow_le_pow_right (n := 2) (by omega) (show 32 ≤ i by omega); simpa using this))
    rw [e u hu, e v hv]
theorem rorN_back (u k : Nat) (hu : u < 4294967296) (hk : k < 32) : rorN (rorN u k) ((32 - k) % 32) = u := by
  have h1 := rorN_lt u k hu
  refine eq_of_bits (rorN_lt _ _ h1) hu fun i hi => ?_
  rw [rorN_bit _ _ _ h1 (Nat.mod_lt _ (by decide)) hi, rorN_bit _ _ _ hu hk (Nat.mod_lt _ (by decide))]
  congr 1; omega

/-- A span's bits. -/
def spanN (a b : Nat) : Nat := (4294967295 * 2 ^ a % 4294967296) &&& (4294967295 / 2 ^ (31 - b))
def spanV (a b : Nat) : Nat := if a ≤ b then 2 ^ (b + 1) - 2 ^ a else 0
theorem spanN_eq (a b : Nat) (ha : a < 32) (hb : b < 32) : spanN a b = spanV a b := by
  have : ∀ a b : Fin 32, spanN a b = spanV a b := by decide +kernel
  exact this ⟨a, ha⟩ ⟨b, hb⟩
theorem pow32 {a : Nat} (h : a < 32) : 2 ^ a ≤ 2147483648 := by
  have := Nat.pow_le_pow_right (n := 2) (by omega) (show a ≤ 31 by omega); simpa using this
theorem spanV_lt (a b : Nat) (hb : b < 32) : spanV a b < 4294967296 := by
  have := pow32 hb
  unfold spanV; split
  · have := Nat.two_pow_pos a; rw [Nat.pow_succ]; omega
  · decide
theorem spanV_bit (a b i : Nat) (ha : a < 32) (hb : b < 32) (hi : i < 32) : (spanV a b).testBit i = (decide (a ≤ i) && decide (i ≤ b)) := by
  have : ∀ a b i : Fin 32, (spanV a b).testBit i = (decide (a.val ≤ i.val) && decide (i.val ≤ b.val)) := by decide +kernel
  exact this ⟨a, ha⟩ ⟨b, hb⟩ ⟨i, hi⟩
/-- The bits from a to below i. -/
def seg (a i : Nat) : Nat := 2 ^ i - 2 ^ a
theorem seg_lt (a i : Nat) (hi : i ≤ 32) : seg a i < 4294967296 := by
  have := Nat.pow_le_pow_right (n := 2) (by omega) hi
  have h0 := Nat.two_pow_pos a
  have h2 := Nat.two_pow_pos i
  unfold seg
  have e : (2 : Nat) ^ 32 = 4294967296 := by decide
  omega
theorem seg_next (a i : Nat) (ha : a < 32) (h : a ≤ i) (hi : i < 32) : seg a i ||| 2 ^ i = seg a (i + 1) := by
  have : ∀ a i : Fin 32, a ≤ i → seg a.val i.val ||| 2 ^ i.val = seg a.val (i.val + 1) := by decide +kernel
  exact this ⟨a, ha⟩ ⟨i, hi⟩ h
theorem seg_end (a b : Nat) (h : a ≤ b) : seg a (b + 1) = spanV a b := by unfold seg spanV; rw [if_pos h]
theorem seg_none (a : Nat) : seg a a = 0 := by unfold seg; omega
theorem testBit_and (u n : Nat) : (u &&& 2 ^ n == 0) = !u.testBit n := by
  rw [nat_bit, Nat.testBit_eq_decide_div_mod_eq]
  have h0 := Nat.two_pow_pos n
  rcases Nat.mod_two_eq_zero_or_one (u / 2 ^ n) with h | h
  · rw [h]; simp
  · rw [h]; simp
end Go.Proofs.Ytpnhjjihdcopnaa.M

/- The stack machine as plain mathematics: its state, a step, a run. No Go program is imported. -/
set_option linter.unusedSimpArgs false
set_option linter.unusedVariables false
namespace Go.Proofs.Ytpnhjjihdcopnaa.M
open Go.RowKit

structure SS where
  mem : List Int
  ops : List Int
  calls : List (Nat × Nat)
  inp : List Nat
  out : List Nat
  fp : Nat
  top : Nat
  pc : Int
  fin : Nat
  trap : Nat

/-- What a machine keeps to, whatever its code. -/
structure SS.Ok (s : SS) : Prop where
  mem : ∀ x ∈ s.mem, I32 x
  ops : ∀ x ∈ s.ops, I32 x
  inp : ∀ x ∈ s.inp, x < 256
  out : ∀ x ∈ s.out, x < 256
  len : s.mem.length ≤ 1048576
  nops : s.ops.length ≤ 1000
  ncalls : s.calls.length ≤ 1000
  fp : s.fp ≤ s.mem.length
  top : s.top ≤ s.mem.length
  pc1 : -2147483648 ≤ s.pc
  pc2 : s.pc ≤ 2147483647
  kept : ∀ c ∈ s.calls, c.1 ≤ 2147483647 ∧ c.2 ≤ s.mem.length
  fin : s.fin ≤ 2
  trap : s.trap ≤ 15

/-- n operands are taken, others are left; nothing: these are too many. -/
def puts (s : SS) (n : Nat) (l : List Int) : Option SS :=
  if s.ops.length - n + l.length ≤ 1000 then some { s with ops := s.ops.take (s.ops.length - n) ++ l } else none
/-- An operand, counted from the topmost one on. -/
def opd (s : SS) (i : Nat) : Int := s.ops.getD (s.ops.length - 1 - i) 0
def one (b : Bool) : Int := if b then 1 else 0
def sK (n : Int) : Nat := U n % 32
/-- What an operation makes of two operands. -/
def reck (op : Int) (a b : Int) : Option Int :=
  if op = 9 then some (wrap32 (a + b))
  else if op = 10 then some (wrap32 (a - b))
  else if op = 11 then some (wrap32 (a * b))
  else if op = 12 then (if b < 1 then none else some (a / b))
  else if op = 13 then (if b < 1 then none else some (a % b))
  else if op = 15 then some (bits .and .i32 a b)
  else if op = 16 then some (bits .or .i32 a b)
  else if op = 17 then some (bits .xor .i32 a b)
  else if op = 19 then some (wrap32 (a % 4294967296 * 2 ^ sK b % 4294967296))
  else if op = 20 then some (a / 2 ^ sK b)
  else if op = 21 then some (S (rorN (U a) (sK b)))
  else if op = 22 then some (one (a == b))
  else if op = 23 then some (one (decide (a < b)))
  else if op = 24 then some (one (decide (a ≤ b)))
  else none
/-- Words are moved as if they were read first. -/
def moved (m : List Int) (p q k : Nat) : List Int := m.take p ++ (m.drop q).take k ++ m.drop (p + k)
/-- A frame of noughts. -/
def cleared (m : List Int) (p k : Nat) : List Int := m.take p ++ List.replicate k 0 ++ m.drop (p + k)

def sOne (s : SS) (op : Int) : Option SS :=
  if s.ops.length = 0 then none
  else if op = 3 then puts s 1 []
  else if op = 2 then puts s 1 [opd s 0, opd s 0]
  else if op = 6 then (if 0 ≤ opd s 0 ∧ opd s 0 < s.mem.length then puts s 1 [s.mem.getD (opd s 0).toNat 0] else none)
  else if op = 14 then puts s 1 [wrap32 (0 - opd s 0)]
  else if op = 18 then puts s 1 [bits .xor .i32 (-1) (opd s 0)]
  else puts { s with out := s.out ++ [(opd s 0 % 256).toNat] } 1 []
def sTwo (s : SS) (c : Cod) : Option SS :=
  if s.ops.length < 2 then none
  else if c.op = 4 then puts s 2 [opd s 0, opd s 1]
  else if c.op = 7 then (if 0 ≤ opd s 1 ∧ opd s 1 < s.mem.length then puts { s with mem := s.mem.set (opd s 1).toNat (opd s 0) } 2 [] else none)
  else if c.op = 8 then (if 0 ≤ c.k ∧ 0 ≤ opd s 1 ∧ 0 ≤ opd s 0 ∧ opd s 1 + c.k ≤ s.mem.length ∧ opd s 0 + c.k ≤ s.mem.length then puts { s with mem := moved s.mem (opd s 1).toNat (opd s 0).toNat c.k.toNat } 2 [] else none)
  else (reck c.op (opd s 1) (opd s 0)).bind fun v => puts s 2 [v]
def sEnter (s : SS) (k : Int) : Option SS :=
  if k < 0 ∨ (s.mem.length : Int) < s.top + k then none else some { s with fp := s.top, top := s.top + k.toNat, mem := cleared s.mem s.top k.toNat }
def sGetc (s : SS) : Option SS :=
  if s.inp.length = 0 then puts s 0 [0] else (puts s 0 [(s.inp.getD 0 0 : Nat)]).map fun t => { t with inp := s.inp.drop 1 }
/-- An instruction that the next one follows. -/
def sChange (s : SS) (c : Cod) : Option SS :=
  if c.op = 1 then puts s 0 [c.k]
  else if c.op = 5 then puts s 0 [wrap32 (s.fp + c.k)]
  else if c.op = 28 then sEnter s c.k
  else if c.op = 31 then sGetc s
  else if c.op = 32 then puts s 0 [one (s.inp.length == 0)]
  else if c.op = 3 ∨ c.op = 2 ∨ c.op = 6 ∨ c.op = 14 ∨ c.op = 18 ∨ c.op = 33 then sOne s c.op
  else sTwo s c
def sEnded (s : SS) (t : Nat) : SS := { s with fin := if t = 0 then 1 else 2, trap := t }
/-- An instruction behind which PC isn't just one more. -/
def sTurn (s : SS) (c : Cod) : Option SS :=
  if c.op = 0 then some (sEnded s 0)
  else if c.op = 30 then (if c.k < 1 ∨ 15 < c.k then none else some (sEnded s c.k.toNat))
  else if c.op = 25 then some { s with pc := c.k }
  else if c.op = 26 then (if s.ops.length = 0 then none else some { s with ops := s.ops.take (s.ops.length - 1), pc := if opd s 0 = 0 then c.k else s.pc + 1 })
  else if c.op = 27 then (if s.calls.length = 1000 then none else some { s with calls := s.calls ++ [((s.pc + 1).toNat, s.fp)], pc := c.k })
  else match s.calls.getLast? with
    | none => none
    | some x => some { s with top := s.fp, pc := x.1, fp := x.2, calls := s.calls.dropLast }
def isTurn (op : Int) : Bool := decide (op = 0 ∨ op = 30 ∨ op = 25 ∨ op = 26 ∨ op = 27 ∨ op = 29)
def sNext (s : SS) : SS := { s with pc := s.pc + 1 }
def sExec (s : SS) (c : Cod) : Option SS := if isTurn c.op then sTurn s c else (sChange s c).map sNext
def sDo (code : List Cod) (s : SS) : Option SS :=
  if 0 ≤ s.pc ∧ s.pc < code.length then (if (code.getD s.pc.toNat default).Good then sExec s (code.getD s.pc.toNat default) else none) else none
def sStep (code : List Cod) (s : SS) : SS := if s.fin ≠ 0 then s else (sDo code s).getD (sEnded s 15)
def sRun (code : List Cod) : Nat → SS → SS
  | 0, s => s
  | k + 1, s => if s.fin ≠ 0 then s else sRun code k (sStep code s)

theorem sRun_fin (code : List Cod) (k : Nat) (s : SS) (h : s.fin ≠ 0) : sRun code k s = s := by
  cases k with
  | zero => rfl
  | succ k => unfold sRun; rw [if_pos h]
theorem sStep_fin (code : List Cod) (s : SS) (h : s.fin ≠ 0) : sStep code s = s := by unfold sStep; rw [if_pos h]
theorem sRun_succ (code : List Cod) (k : Nat) (s : SS) : sRun code (k + 1) s = sRun code k (sStep code s) := by
  by_cases h : s.fin ≠ 0
  · rw [sRun_fin _ _ _ h, sStep_fin _ _ h, sRun_fin _ _ _ h]
  · show (if s.fin ≠ 0 then s else sRun code k (sStep code s)) = _
    rw [if_neg h]
theorem sRun_add (code : List Cod) (a b : Nat) (s : SS) : sRun code (a + b) s = sRun code b (sRun code a s) := by
  induction a generalizing s with
  | zero => rw [Nat.zero_add]; rfl
  | succ a ih => rw [show a + 1 + b = (a + b) + 1 by omega, sRun_succ, ih, sRun_succ]
/-- A machine that was made. -/
def ss0 (n base : Nat) (inp : List Nat) : SS := ⟨List.replicate n 0, [], [], inp, [], base, base, 0, 0, 0⟩

theorem getD_mem {P : Int → Prop} {l : List Int} (h : ∀ x ∈ l, P x) (h0 : P 0) (k : Nat) : P (l.getD k 0) := by
  rw [List.getD_eq_getElem?_getD]
  cases e : l[k]? with
  | none => exact h0
  | some x => exact h x (List.mem_of_getElem? e)
theorem opd_i32 {s : SS} (h : s.Ok) (i : Nat) : I32 (opd s i) := getD_mem h.ops (by unfold I32; omega) _
theorem one_i32 (b : Bool) : I32 (one b) := by unfold one I32; split <;> omega
theorem w32_i32 (a : Int) : I32 (wrap32 a) := by rw [w32]; exact S_i32 _ (U_lt a)
theorem puts_ok {s t : SS} {n : Nat} {l : List Int} (h : s.Ok) (hl : ∀ x ∈ l, I32 x) (e : puts s n l = some t) : t.Ok := by
  unfold puts at e
  split at e
  · injection e with e
    subst e
    refine ⟨h.mem, fun x hx => ?_, h.inp, h.out, h.len, ?_, h.ncalls, h.fp, h.top, h.pc1, h.pc2, h.kept, h.fin, h.trap⟩
    · rcases List.mem_append.1 hx with hx | hx
      · exact h.ops x (List.mem_of_mem_take hx)
      · exact hl x hx
    · simp only [List.length_append, List.length_take]; omega
  · cases e
theorem puts_keeps {s t : SS} {n : Nat} {l : List Int} (e : puts s n l = some t) : t.pc = s.pc ∧ t.fin = s.fin ∧ t.trap = s.trap ∧ t.mem = s.mem ∧ t.out = s.out ∧ t.inp = s.inp ∧ t.calls = s.calls ∧ t.fp = s.fp ∧ t.top = s.top ∧ t.ops.length = s.ops.length - n + l.length := by
  unfold puts at e
  split at e
  · injection e with e
    subst e
    refine ⟨rfl, rfl, rfl, rfl, rfl, rfl, rfl, rfl, rfl, ?_⟩
    simp only [List.length_append, List.length_take]; omega
  · cases e
end Go.Proofs.Ytpnhjjihdcopnaa.M

