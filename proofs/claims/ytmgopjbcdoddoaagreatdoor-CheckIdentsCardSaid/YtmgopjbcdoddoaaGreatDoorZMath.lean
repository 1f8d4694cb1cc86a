/- Symbols, as mathematics (no Go): a text is a function of places and a length. -/
set_option linter.unusedSimpArgs false
set_option linter.unusedVariables false
namespace Go.Proofs.YtmgopjbcdoddoaaGreatDoor

/-- The first of at most k places from j on at which p isn't. -/
def upto (p : Nat → Bool) : Nat → Nat → Nat
  | 0, j => j
  | k + 1, j => if p j then upto p k (j + 1) else j
theorem upto_ge (p : Nat → Bool) : ∀ k j, j ≤ upto p k j
  | 0, j => Nat.le_refl _
  | k + 1, j => by unfold upto; split; exact Nat.le_trans (Nat.le_succ j) (upto_ge p k (j + 1)); exact Nat.le_refl _
theorem upto_le (p : Nat → Bool) : ∀ k j, upto p k j ≤ j + k
  | 0, j => Nat.le_refl _
  | k + 1, j => by unfold upto; split; (have := upto_le p k (j + 1); omega); omega
theorem upto_shift (p : Nat → Bool) (b : Nat) : ∀ k j, b + upto (fun i => p (b + i)) k j = upto p k (b + j)
  | 0, j => rfl
  | k + 1, j => by
    unfold upto
    by_cases h : p (b + j) = true
    · simp only [h, if_true]; exact upto_shift p b k (j + 1)
    · simp only [h, if_false, Bool.false_eq_true]
theorem upto_in (p : Nat → Bool) : ∀ k j i, j ≤ i → i < upto p k j → p i = true
  | 0, j, i, h1, h2 => absurd h2 (by unfold upto; omega)
  | k + 1, j, i, h1, h2 => by
    unfold upto at h2
    by_cases h : p j = true
    · simp only [h, if_true] at h2
      by_cases e : i = j
      · subst e; exact h
      · exact upto_in p k (j + 1) i (by omega) h2
    · simp only [h, if_false, Bool.false_eq_true] at h2; omega
theorem upto_out (p : Nat → Bool) : ∀ k j, upto p k j < j + k → p (upto p k j) = false
  | 0, j, h => absurd h (by unfold upto; omega)
  | k + 1, j, h => by
    unfold upto at h ⊢
    by_cases h' : p j = true
    · simp only [h', if_true] at h ⊢; exact upto_out p k (j + 1) (by omega)
    · simp only [h', if_false, Bool.false_eq_true]
theorem upto_step (p : Nat → Bool) (k j : Nat) (hk : 0 < k) (h : p j = true) : upto p k j = upto p (k - 1) (j + 1) := by
  obtain ⟨k, rfl⟩ : ∃ m, k = m + 1 := ⟨k - 1, by omega⟩
  rw [upto, if_pos h]; rfl
theorem upto_stop (p : Nat → Bool) (k j : Nat) (h : k = 0 ∨ p j = false) : upto p k j = j := by
  cases k with
  | zero => rfl
  | succ k => rcases h with h | h; exact absurd h (by omega); rw [upto, if_neg (by simp [h])]

def letB (c : Nat) : Bool := 97 ≤ c && c ≤ 122 || 65 ≤ c && c ≤ 90
def digB (c : Nat) : Bool := 48 ≤ c && c ≤ 57
def blaB (c : Nat) : Bool := c == 9 || c == 10 || c == 13 || c == 32
def hexB (c : Nat) : Bool := digB c || 65 ≤ c && c ≤ 70
def hexV (c : Nat) : Nat := if digB c then c - 48 else c - 55
def worB (c : Nat) : Bool := letB c || digB c
def strB (c : Nat) : Bool := 32 ≤ c && c != 34
/-- Signs of one byte. -/
def sigB (c : Nat) : Bool := [43, 45, 42, 47, 38, 126, 61, 35, 60, 62, 46, 44, 59, 58, 40, 41, 91, 93, 123, 125, 94, 124].contains c
/-- Signs of two. -/
def twoB (c d : Nat) : Bool := (c == 60 || c == 62 || c == 58) && d == 61 || c == 46 && d == 46
theorem hexV_lt (c : Nat) (h : hexB c = true) : hexV c < 16 := by
  unfold hexB digB at h; unfold hexV digB; simp at h; split <;> rename_i h' <;> simp at h' <;> omega

/-- A text: its length and its bytes. -/
structure Txt where
  n : Nat
  g : Nat → Nat
def Txt.from (t : Txt) (b : Nat) : Txt := ⟨t.n - b, fun i => t.g (b + i)⟩

/-- The comment's end, d deep, at i; k: rounds. -/
def comS (t : Txt) : Nat → Nat → Nat → Option Nat
  | 0, _, _ => none
  | k + 1, d, i =>
    if t.n ≤ i + 1 then none
    else if t.g i = 40 ∧ t.g (i + 1) = 42 then comS t k (d + 1) (i + 2)
    else if t.g i = 42 ∧ t.g (i + 1) = 41 then (if d = 1 then some (i + 2) else comS t k (d - 1) (i + 2))
    else comS t k d (i + 1)
theorem comS_more (t : Txt) : ∀ k d i, t.n ≤ i + k → comS t k d i = comS t (k + 1) d i
  | 0, d, i, h => by unfold comS; rw [if_pos (by omega)]
  | k + 1, d, i, h => by
    have h1 := fun d => comS_more t k d (i + 1) (by omega)
    have h2 := fun d => comS_more t k d (i + 2) (by omega)
    rw [comS, comS]
    simp only [h1, h2]
/-- The same, of rounds enough. -/
def comE (t : Txt) (d i : Nat) : Option Nat := comS t (t.n - i) d i
theorem comS_enough (t : Txt) (d i : Nat) : ∀ m k, k = t.n - i + m → comS t k d i = comE t d i
  | 0, k, h => by subst h; rfl
  | m + 1, k, h => by
    subst h
    rw [show t.n - i + (m + 1) = (t.n - i + m) + 1 by omega, ← comS_more t _ d i (by omega)]
    exact comS_enough t d i m _ rfl
theorem comE_eq (t : Txt) (d i : Nat) : comE t d i =
    if t.n ≤ i + 1 then none
    else if t.g i = 40 ∧ t.g (i + 1) = 42 then comE t (d + 1) (i + 2)
    else if t.g i = 42 ∧ t.g (i + 1) = 41 then (if d = 1 then some (i + 2) else comE t (d - 1) (i + 2))
    else comE t d (i + 1) := by
  by_cases h : t.n ≤ i + 1
  · rw [if_pos h]; unfold comE
    rcases hk : t.n - i with _ | k
    · rfl
    · rw [comS, if_pos h]
  · rw [if_neg h]
    have e1 : ∀ d, comE t d (i + 1) = comS t (t.n - i - 1) d (i + 1) := fun d => (comS_enough t d (i + 1) 0 _ (by omega)).symm
    have e2 : ∀ d, comE t d (i + 2) = comS t (t.n - i - 1) d (i + 2) := fun d => (comS_enough t d (i + 2) 1 _ (by omega)).symm
    simp only [e1, e2]
    unfold comE
    obtain ⟨k, hk⟩ : ∃ k, t.n - i = k + 1 := ⟨t.n - i - 1, by omega⟩
    rw [hk, comS, if_neg h]; rfl
theorem comS_gt (t : Txt) : ∀ k d i j, comS t k d i = some j → i + 2 ≤ j ∧ j ≤ t.n
  | 0, d, i, j, h => by simp [comS] at h
  | k + 1, d, i, j, h => by
    rw [comS] at h
    split at h
    · simp at h
    split at h
    · have := comS_gt t k _ _ _ h; omega
    split at h
    · split at h
      · simp at h; omega
      · have := comS_gt t k _ _ _ h; omega
    · have := comS_gt t k _ _ _ h; omega
theorem comE_gt (t : Txt) (d i j : Nat) (h : comE t d i = some j) : i + 2 ≤ j ∧ j ≤ t.n := comS_gt t _ d i j h
theorem comS_from (t : Txt) (b : Nat) (hb : b ≤ t.n) : ∀ k d i, (comS (t.from b) k d i).map (b + ·) = comS t k d (b + i)
  | 0, d, i => rfl
  | k + 1, d, i => by
    have h1 := fun d => comS_from t b hb k d (i + 1)
    have h2 := fun d => comS_from t b hb k d (i + 2)
    rw [comS, comS]
    have e1 : (t.from b).g i = t.g (b + i) := rfl
    have e2 : (t.from b).g (i + 1) = t.g (b + i + 1) := rfl
    have e3 : ((t.from b).n ≤ i + 1) ↔ t.n ≤ b + i + 1 := by show t.n - b ≤ i + 1 ↔ _; omega
    simp only [e1, e2, e3, show b + i + 2 = b + (i + 2) by omega, ← h2, show b + i + 1 = b + (i + 1) by omega, ← h1]
    split
    · rfl
    split
    · rfl
    split
    · split <;> simp
    · rfl
theorem comE_from (t : Txt) (b : Nat) (hb : b ≤ t.n) (d i : Nat) : (comE (t.from b) d i).map (b + ·) = comE t d (b + i) := by
  have h := comS_from t b hb (t.n - (b + i)) d i
  rw [show comS t (t.n - (b + i)) d (b + i) = comE t d (b + i) from rfl] at h
  rw [← h]; unfold comE
  rw [show (t.from b).n - i = t.n - (b + i) by show t.n - b - i = _; omega]

/-- Where the next symbol begins; false: where the comment does that isn't ended. -/
def skipS (t : Txt) : Nat → Nat → Nat × Bool
  | 0, i => (i, true)
  | k + 1, i =>
    if t.n ≤ i then (i, true)
    else if blaB (t.g i) then skipS t k (i + 1)
    else if i + 1 < t.n ∧ t.g i = 40 ∧ t.g (i + 1) = 42 then
      match comE t 1 (i + 2) with
      | none => (i, false)
      | some j => skipS t k j
    else (i, true)
theorem skipS_more (t : Txt) : ∀ k i, t.n ≤ i + k → skipS t k i = skipS t (k + 1) i
  | 0, i, h => by unfold skipS; rw [if_pos (by omega)]
  | k + 1, i, h => by
    rw [skipS, skipS]
    split
    · rfl
    split
    · exact skipS_more t k (i + 1) (by omega)
    split
    · cases hc : comE t 1 (i + 2) with
      | none => rfl
      | some j => have := comE_gt t _ _ _ hc; exact skipS_more t k j (by omega)
    · rfl
def skipE (t : Txt) (i : Nat) : Nat × Bool := skipS t (t.n - i) i
theorem skipS_enough (t : Txt) (i : Nat) : ∀ m k, k = t.n - i + m → skipS t k i = skipE t i
  | 0, k, h => by subst h; rfl
  | m + 1, k, h => by
    subst h
    rw [show t.n - i + (m + 1) = (t.n - i + m) + 1 by omega, ← skipS_more t _ i (by omega)]
    exact skipS_enough t i m _ rfl
theorem skipE_eq (t : Txt) (i : Nat) : skipE t i =
    if t.n ≤ i then (i, true)
    else if blaB (t.g i) then skipE t (i + 1)
    else if i + 1 < t.n ∧ t.g i = 40 ∧ t.g (i + 1) = 42 then
      match comE t 1 (i + 2) with
      | none => (i, false)
      | some j => skipE t j
    else (i, true) := by
  rw [show skipE t i = skipS t (t.n - i + 1) i from (skipS_enough t i 1 _ rfl).symm, skipS]
  split
  · rfl
  split
  · exact skipS_enough t (i + 1) 1 _ (by omega)
  split
  · cases hc : comE t 1 (i + 2) with
    | none => rfl
    | some j => have := comE_gt t _ _ _ hc; exact skipS_enough t j (j - i) _ (by omega)
  · rfl
theorem skipS_bnd (t : Txt) : ∀ k i, i ≤ (skipS t k i).1 ∧ (i ≤ t.n → (skipS t k i).1 ≤ t.n)
  | 0, i => ⟨Nat.le_refl _, fun h => h⟩
  | k + 1, i => by
    rw [skipS]
    split
    · exact ⟨Nat.le_refl _, fun h => h⟩
    split
    · have := skipS_bnd t k (i + 1); exact ⟨by omega, fun h => this.2 (by omega)⟩
    split
    · cases hc : comE t 1 (i + 2) with
      | none => exact ⟨Nat.le_refl _, fun h => h⟩
      | some j => have h1 := comE_gt t _ _ _ hc; have := skipS_bnd t k j; exact ⟨by show i ≤ (skipS t k j).1; omega, fun h => this.2 (by omega)⟩
    · exact ⟨Nat.le_refl _, fun h => h⟩
theorem skipE_ge (t : Txt) (i : Nat) : i ≤ (skipE t i).1 := (skipS_bnd t _ i).1
theorem skipE_le (t : Txt) (i : Nat) (h : i ≤ t.n) : (skipE t i).1 ≤ t.n := (skipS_bnd t _ i).2 h

/-- What digits are worth. -/
def valS (t : Txt) (b i : Nat) : Nat → Nat
  | 0 => 0
  | k + 1 => valS t b i k * b + hexV (t.g (i + k))
/-- Are digits below ten alone? -/
def plainS (t : Txt) (i : Nat) : Nat → Bool
  | 0 => true
  | k + 1 => plainS t i k && decide (hexV (t.g (i + k)) < 10)
theorem valS_mono (t : Txt) (b i : Nat) (hb : 1 ≤ b) : ∀ k m, valS t b i k ≤ valS t b i (k + m)
  | k, 0 => Nat.le_refl _
  | k, m + 1 => by
    have := valS_mono t b i hb k m
    show _ ≤ valS t b i (k + m) * b + _
    have h2 : valS t b i (k + m) * 1 ≤ valS t b i (k + m) * b := Nat.mul_le_mul_left _ hb
    omega
theorem plainS_le (t : Txt) (i : Nat) : ∀ k m, plainS t i (k + m) = true → plainS t i k = true
  | k, 0, h => h
  | k, m + 1, h => by
    rw [show k + (m + 1) = k + m + 1 by omega, plainS, Bool.and_eq_true] at h
    exact plainS_le t i k m h.1

/-- A symbol: its kind, its place, its text's, its number. -/
structure Tk where
  kind : Nat
  pos : Nat
  fin : Nat
  a : Nat
  b : Nat
  num : Int
/-- The number as 32 bits, signed. -/
def w32 (n : Nat) : Int := if n < 2147483648 then n else (n : Int) - 4294967296

def hexEnd (t : Txt) (i : Nat) : Nat := upto (fun j => hexB (t.g j)) (t.n - i) i
def worEnd (t : Txt) (i : Nat) : Nat := upto (fun j => worB (t.g j)) (t.n - i) i
def strEnd (t : Txt) (i : Nat) : Nat := upto (fun j => strB (t.g j)) (t.n - i) i
/-- A number at i. -/
def numS (t : Txt) (i : Nat) : Except Nat Tk :=
  let j := hexEnd t i
  if j < t.n ∧ t.g j = 72 then (if valS t 16 i (j - i) ≤ 4294967295 then .ok ⟨2, i, j + 1, i, i, w32 (valS t 16 i (j - i))⟩ else .error 30)
  else if j < t.n ∧ t.g j = 88 then (if valS t 16 i (j - i) ≤ 255 then .ok ⟨3, i, j + 1, i, i, valS t 16 i (j - i)⟩ else .error 30)
  else if plainS t i (j - i) = true ∧ valS t 10 i (j - i) ≤ 2147483647 then .ok ⟨2, i, j, i, i, valS t 10 i (j - i)⟩ else .error 30
def quoS (t : Txt) (i : Nat) : Except Nat Tk :=
  let j := strEnd t (i + 1)
  if t.n ≤ j ∨ t.g j ≠ 34 then .error 30
  else if 120 < j - i - 1 then .error 34
  else .ok ⟨4, i, j + 1, i + 1, j, 0⟩
def sigS (t : Txt) (i : Nat) : Except Nat Tk :=
  if i + 1 < t.n ∧ twoB (t.g i) (t.g (i + 1)) = true then .ok ⟨5, i, i + 2, i, i + 2, 0⟩
  else if sigB (t.g i) then .ok ⟨5, i, i + 1, i, i + 1, 0⟩
  else .error 30
def namS (t : Txt) (i : Nat) : Except Nat Tk :=
  if 32 < worEnd t i - i then .error 34 else .ok ⟨1, i, worEnd t i, i, worEnd t i, 0⟩
/-- The symbol at i, which is one's beginning (keywords are identifiers still). -/
def symS (t : Txt) (i : Nat) : Except Nat Tk :=
  if letB (t.g i) then namS t i
  else if digB (t.g i) then numS t i
  else if t.g i = 34 then quoS t i
  else sigS t i
/-- Keywords told apart. -/
def Tk.key (kw : Nat → Nat → Bool) (x : Tk) : Tk := if x.kind = 1 ∧ kw x.a x.b = true then { x with kind := 6 } else x
/-- All symbols from i on, or where, and which error. -/
def scanS (t : Txt) (kw : Nat → Nat → Bool) : Nat → Nat → Except (Nat × Nat) (List Tk)
  | 0, _ => .error (0, 0)
  | k + 1, i =>
    if (skipE t i).2 = false then .error ((skipE t i).1, 30)
    else if t.n ≤ (skipE t i).1 then .ok [⟨0, t.n, t.n, t.n, t.n, 0⟩]
    else match symS t (skipE t i).1 with
      | .error e => .error ((skipE t i).1, e)
      | .ok x => match scanS t kw k x.fin with
        | .error e => .error e
        | .ok l => .ok (x.key kw :: l)
def scanE (t : Txt) (kw : Nat → Nat → Bool) (i : Nat) : Except (Nat × Nat) (List Tk) := scanS t kw (t.n + 1 - i) i
/-- What was told ahead, and what comes. -/
def ahead (l : List Tk) : Except (Nat × Nat) (List Tk) → Except (Nat × Nat) (List Tk)
  | .ok m => .ok (l ++ m)
  | .error e => .error e
theorem ahead_nil (x) : ahead [] x = x := by cases x <;> rfl
theorem ahead_snoc (l : List Tk) (y : Tk) (x) : ahead (l ++ [y]) x = ahead l (match x with | .error e => .error e | .ok m => .ok (y :: m)) := by cases x <;> simp [ahead]

theorem worEnd_le (t : Txt) (i : Nat) (h : i ≤ t.n) : worEnd t i ≤ t.n := by have := upto_le (fun j => worB (t.g j)) (t.n - i) i; unfold worEnd; omega
theorem hexEnd_le (t : Txt) (i : Nat) (h : i ≤ t.n) : hexEnd t i ≤ t.n := by have := upto_le (fun j => hexB (t.g j)) (t.n - i) i; unfold hexEnd; omega
theorem strEnd_le (t : Txt) (i : Nat) (h : i ≤ t.n) : strEnd t i ≤ t.n := by have := upto_le (fun j => strB (t.g j)) (t.n - i) i; unfold strEnd; omega
theorem worEnd_gt (t : Txt) (i : Nat) (hi : i < t.n) (h : letB (t.g i) = true) : worEnd t i = upto (fun j => worB (t.g j)) (t.n - (i + 1)) (i + 1) := by
  unfold worEnd; rw [upto_step _ _ _ (by omega) (by simp [worB, h])]; congr 1
theorem hexEnd_gt (t : Txt) (i : Nat) (hi : i < t.n) (h : digB (t.g i) = true) : hexEnd t i = upto (fun j => hexB (t.g j)) (t.n - (i + 1)) (i + 1) := by
  unfold hexEnd; rw [upto_step _ _ _ (by omega) (by simp [hexB, h])]; congr 1
theorem hexEnd_pos (t : Txt) (i : Nat) (hi : i < t.n) (h : digB (t.g i) = true) : i < hexEnd t i := by
  rw [hexEnd_gt t i hi h]; exact upto_ge _ _ _
theorem worEnd_pos (t : Txt) (i : Nat) (hi : i < t.n) (h : letB (t.g i) = true) : i < worEnd t i := by
  rw [worEnd_gt t i hi h]; exact upto_ge _ _ _

/-- What any symbol keeps. -/
theorem symS_ok (t : Txt) (i : Nat) (hi : i < t.n) (x : Tk) (h : symS t i = .ok x) : x.pos = i ∧ i < x.fin ∧ x.fin ≤ t.n ∧ x.a ≤ x.b ∧ x.b ≤ t.n ∧ 1 ≤ x.kind ∧ x.kind ≤ 5 := by
  unfold symS at h
  split at h
  · rename_i h1
    unfold namS at h; split at h
    · cases h
    · injection h with h; subst h
      have := worEnd_pos t i hi h1; have := worEnd_le t i (by omega)
      exact ⟨rfl, by assumption, by assumption, by show i ≤ worEnd t i; omega, by assumption, by show 1 ≤ 1; decide, by show 1 ≤ 5; decide⟩
  split at h
  · rename_i h1
    have e1 := hexEnd_pos t i hi h1; have e2 := hexEnd_le t i (by omega)
    unfold numS at h; simp only at h
    split at h
    · rename_i h3
      split at h
      · injection h with h; subst h
        exact ⟨rfl, by show i < hexEnd t i + 1; omega, by show hexEnd t i + 1 ≤ t.n; omega, Nat.le_refl _, by show i ≤ t.n; omega, by show 1 ≤ 2; decide, by show 2 ≤ 5; decide⟩
      · cases h
    split at h
    · rename_i h3
      split at h
      · injection h with h; subst h
        exact ⟨rfl, by show i < hexEnd t i + 1; omega, by show hexEnd t i + 1 ≤ t.n; omega, Nat.le_refl _, by show i ≤ t.n; omega, by show 1 ≤ 3; decide, by show 3 ≤ 5; decide⟩
      · cases h
    split at h
    · injection h with h; subst h
      exact ⟨rfl, e1, e2, Nat.le_refl _, by show i ≤ t.n; omega, by show 1 ≤ 2; decide, by show 2 ≤ 5; decide⟩
    · cases h
  split at h
  · unfold quoS at h; simp only at h
    have e1 : i + 1 ≤ strEnd t (i + 1) := upto_ge _ _ _
    have e2 := strEnd_le t (i + 1) (by omega)
    split at h
    · cases h
    split at h
    · cases h
    · rename_i h3 h4
      injection h with h; subst h
      exact ⟨rfl, by show i < strEnd t (i + 1) + 1; omega, by show strEnd t (i + 1) + 1 ≤ t.n; omega, e1, by show strEnd t (i + 1) ≤ t.n; omega, by show 1 ≤ 4; decide, by show 4 ≤ 5; decide⟩
  · unfold sigS at h
    split at h
    · rename_i h3
      injection h with h; subst h
      exact ⟨rfl, by show i < i + 2; omega, by show i + 2 ≤ t.n; omega, by show i ≤ i + 2; omega, by show i + 2 ≤ t.n; omega, by show 1 ≤ 5; decide, by show 5 ≤ 5; decide⟩
    split at h
    · injection h with h; subst h
      exact ⟨rfl, by show i < i + 1; omega, by show i + 1 ≤ t.n; omega, by show i ≤ i + 1; omega, by show i + 1 ≤ t.n; omega, by show 1 ≤ 5; decide, by show 5 ≤ 5; decide⟩
    · cases h
theorem symS_err (t : Txt) (i : Nat) (e : Nat) (h : symS t i = .error e) : e = 30 ∨ e = 34 := by
  unfold symS namS numS quoS sigS at h
  simp only at h
  repeat' split at h
  all_goals (first | (cases h; done) | (injection h with h; omega))
theorem Tk.key_fin (kw) (x : Tk) : (x.key kw).fin = x.fin := by unfold Tk.key; split <;> rfl
theorem Tk.key_pos (kw) (x : Tk) : (x.key kw).pos = x.pos := by unfold Tk.key; split <;> rfl
theorem scanS_more (t : Txt) (kw) : ∀ k i, t.n + 1 ≤ i + k → i ≤ t.n → scanS t kw k i = scanS t kw (k + 1) i
  | 0, i, h, h2 => absurd h (by omega)
  | k + 1, i, h, h2 => by
    rw [scanS, scanS]
    split
    · rfl
    split
    · rfl
    · rename_i h3 h4
      cases hs : symS t (skipE t i).1 with
      | error e => rfl
      | ok x =>
        have h5 := symS_ok t _ (by omega) x hs
        have h6 := skipE_ge t i
        simp only
        rw [scanS_more t kw k x.fin (by omega) (by omega)]
theorem scanS_enough (t : Txt) (kw) (i : Nat) (hi : i ≤ t.n) : ∀ m k, k = t.n + 1 - i + m → scanS t kw k i = scanE t kw i
  | 0, k, h => by subst h; rfl
  | m + 1, k, h => by
    subst h
    rw [show t.n + 1 - i + (m + 1) = (t.n + 1 - i + m) + 1 by omega, ← scanS_more t kw _ i (by omega) hi]
    exact scanS_enough t kw i hi m _ rfl
theorem scanE_eq (t : Txt) (kw) (i : Nat) (hi : i ≤ t.n) : scanE t kw i =
    if (skipE t i).2 = false then .error ((skipE t i).1, 30)
    else if t.n ≤ (skipE t i).1 then .ok [⟨0, t.n, t.n, t.n, t.n, 0⟩]
    else match symS t (skipE t i).1 with
      | .error e => .error ((skipE t i).1, e)
      | .ok x => match scanE t kw x.fin with
        | .error e => .error e
        | .ok l => .ok (x.key kw :: l) := by
  rw [← scanS_enough t kw i hi 0 _ rfl, show t.n + 1 - i + 0 = (t.n - i) + 1 by omega, scanS]
  split
  · rfl
  split
  · rfl
  · rename_i h3 h4
    cases hs : symS t (skipE t i).1 with
    | error e => rfl
    | ok x =>
      have h5 := symS_ok t _ (by omega) x hs
      have h6 := skipE_ge t i
      simp only
      rw [scanS_enough t kw x.fin h5.2.2.1 (x.fin - i - 1) (t.n - i) (by omega)]
/-- An end's error is one. -/
theorem scanS_err (t : Txt) (kw) : ∀ k i e, t.n + 1 ≤ i + k → i ≤ t.n → scanS t kw k i = .error e → e.2 = 30 ∨ e.2 = 34
  | 0, i, e, h, h2, h3 => absurd h (by omega)
  | k + 1, i, e, h, h2, h3 => by
    rw [scanS] at h3
    split at h3
    · injection h3 with h3; subst h3; exact .inl rfl
    split at h3
    · cases h3
    · rename_i h5 h6
      cases hs : symS t (skipE t i).1 with
      | error e' => rw [hs] at h3; injection h3 with h3; subst h3; exact symS_err t _ _ hs
      | ok x =>
        rw [hs] at h3
        have h7 := symS_ok t _ (by omega) x hs
        have h8 := skipE_ge t i
        simp only at h3
        cases hk : scanS t kw k x.fin with
        | error e' => rw [hk] at h3; injection h3 with h3; subst h3; exact scanS_err t kw k x.fin _ (by omega) (by omega) hk
        | ok l => rw [hk] at h3; cases h3
theorem scanE_err (t : Txt) (kw) (i : Nat) (e) (hi : i ≤ t.n) (h : scanE t kw i = .error e) : e.2 = 30 ∨ e.2 = 34 := scanS_err t kw _ i e (by omega) hi h

/-- A symbol of the text from b on, in the whole. -/
def Tk.up (b : Nat) (x : Tk) : Tk := ⟨x.kind, b + x.pos, b + x.fin, b + x.a, b + x.b, x.num⟩
theorem from_g (t : Txt) (b i : Nat) : (t.from b).g i = t.g (b + i) := rfl
theorem from_n (t : Txt) (b : Nat) : (t.from b).n = t.n - b := rfl
theorem valS_from (t : Txt) (b base i : Nat) : ∀ k, valS (t.from b) base i k = valS t base (b + i) k
  | 0 => rfl
  | k + 1 => by rw [valS, valS, valS_from t b base i k, from_g, Nat.add_assoc]
theorem plainS_from (t : Txt) (b i : Nat) : ∀ k, plainS (t.from b) i k = plainS t (b + i) k
  | 0 => rfl
  | k + 1 => by rw [plainS, plainS, plainS_from t b i k, from_g, Nat.add_assoc]
theorem hexEnd_from (t : Txt) (b i : Nat) : b + hexEnd (t.from b) i = hexEnd t (b + i) := by
  unfold hexEnd; rw [from_n, show t.n - b - i = t.n - (b + i) by omega]; exact upto_shift (fun j => hexB (t.g j)) b _ _
theorem worEnd_from (t : Txt) (b i : Nat) : b + worEnd (t.from b) i = worEnd t (b + i) := by
  unfold worEnd; rw [from_n, show t.n - b - i = t.n - (b + i) by omega]; exact upto_shift (fun j => worB (t.g j)) b _ _
theorem strEnd_from (t : Txt) (b i : Nat) : b + strEnd (t.from b) i = strEnd t (b + i) := by
  unfold strEnd; rw [from_n, show t.n - b - i = t.n - (b + i) by omega]; exact upto_shift (fun j => strB (t.g j)) b _ _
theorem namS_from (t : Txt) (b i : Nat) : (namS (t.from b) i).map (Tk.up b) = namS t (b + i) := by
  unfold namS
  rw [← worEnd_from, show b + worEnd (t.from b) i - (b + i) = worEnd (t.from b) i - i by omega]
  split <;> rfl
theorem numS_from (t : Txt) (b i : Nat) (hb : b ≤ t.n) : (numS (t.from b) i).map (Tk.up b) = numS t (b + i) := by
  unfold numS
  simp only [← hexEnd_from, show b + hexEnd (t.from b) i - (b + i) = hexEnd (t.from b) i - i by omega, valS_from, plainS_from, from_g, from_n]
  have e : (hexEnd (t.from b) i < t.n - b) ↔ (b + hexEnd (t.from b) i < t.n) := by omega
  simp only [e]
  split
  · split <;> rfl
  split
  · split <;> rfl
  split <;> rfl
theorem quoS_from (t : Txt) (b i : Nat) (hb : b ≤ t.n) : (quoS (t.from b) i).map (Tk.up b) = quoS t (b + i) := by
  have h1 : strEnd t (b + i + 1) = b + strEnd (t.from b) (i + 1) := by rw [strEnd_from]; rfl
  unfold quoS
  simp only [h1]
  obtain ⟨j, hj⟩ : ∃ j, strEnd (t.from b) (i + 1) = j := ⟨_, rfl⟩
  rw [hj, show b + j - (b + i) - 1 = j - i - 1 by omega, from_g]
  have e : ((t.from b).n ≤ j) ↔ (t.n ≤ b + j) := by rw [from_n]; omega
  by_cases c1 : t.n ≤ b + j ∨ t.g (b + j) ≠ 34
  · rw [if_pos c1, if_pos (by rw [e]; exact c1)]; rfl
  · rw [if_neg c1, if_neg (by rw [e]; exact c1)]
    by_cases c2 : 120 < j - i - 1
    · rw [if_pos c2, if_pos c2]; rfl
    · rw [if_neg c2, if_neg c2]; rfl
theorem sigS_from (t : Txt) (b i : Nat) (hb : b ≤ t.n) : (sigS (t.from b) i).map (Tk.up b) = sigS t (b + i) := by
  unfold sigS
  rw [from_g, from_g, ← Nat.add_assoc]
  have e : (i + 1 < (t.from b).n) ↔ (b + i + 1 < t.n) := by rw [from_n]; omega
  by_cases c1 : b + i + 1 < t.n ∧ twoB (t.g (b + i)) (t.g (b + i + 1)) = true
  · rw [if_pos c1, if_pos (by rw [e]; exact c1)]; rfl
  · rw [if_neg c1, if_neg (by rw [e]; exact c1)]
    by_cases c2 : sigB (t.g (b + i)) = true
    · rw [if_pos c2, if_pos c2]; rfl
    · rw [if_neg c2, if_neg c2]; rfl
theorem symS_from (t : Txt) (b i : Nat) (hb : b ≤ t.n) : (symS (t.from b) i).map (Tk.up b) = symS t (b + i) := by
  unfold symS
  rw [from_g]
  by_cases c1 : letB (t.g (b + i)) = true
  · rw [if_pos c1, if_pos c1]; exact namS_from t b i
  rw [if_neg c1, if_neg c1]
  by_cases c2 : digB (t.g (b + i)) = true
  · rw [if_pos c2, if_pos c2]; exact numS_from t b i hb
  rw [if_neg c2, if_neg c2]
  by_cases c3 : t.g (b + i) = 34
  · rw [if_pos c3, if_pos c3]; exact quoS_from t b i hb
  rw [if_neg c3, if_neg c3]
  exact sigS_from t b i hb

/-- Numbers that grow no more above a bound. -/
theorem sat_step (v b x M : Nat) (hb : 1 ≤ b) : min (b * min v M + x) M = min (v * b + x) M := by
  rw [Nat.mul_comm v b]
  by_cases h : v ≤ M
  · rw [Nat.min_eq_left h]
  · have h1 : M ≤ v := by omega
    rw [Nat.min_eq_right h1]
    have h2 : 1 * M ≤ b * M := Nat.mul_le_mul_right M hb
    have h3 : b * M ≤ b * v := Nat.mul_le_mul_left b h1
    omega
theorem valS_lt (t : Txt) (base i : Nat) : ∀ k, (∀ j, j < k → hexV (t.g (i + j)) < 16) → valS t 10 i k ≤ valS t 16 i k
  | 0, _ => Nat.le_refl _
  | k + 1, h => by have := valS_lt t base i k (fun j hj => h j (by omega)); unfold valS; omega
end Go.Proofs.YtmgopjbcdoddoaaGreatDoor
