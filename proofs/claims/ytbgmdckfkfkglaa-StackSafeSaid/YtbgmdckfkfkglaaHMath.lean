/- Code that is looked at ahead, as plain mathematics: which instruction is wrong, how many operands there are. No Go program is imported. -/
import Derived.Test.YtbgmdckfkfkglaaCMath
set_option linter.unusedSimpArgs false
set_option linter.unusedVariables false
namespace Go.Proofs.Ytbgmdckfkfkglaa.M

/-- Whether an instruction of a list of n may be. -/
def Cod.Right (n : Nat) (c : Cod) : Prop :=
  c.Good ∧ ((c.op = 25 ∨ c.op = 26 ∨ c.op = 27) → 0 ≤ c.k ∧ c.k < n) ∧ ((c.op = 28 ∨ c.op = 8) → 0 ≤ c.k ∧ c.k ≤ 1048576) ∧ (c.op = 30 → 1 ≤ c.k ∧ c.k ≤ 15)
instance (n : Nat) (c : Cod) : Decidable (c.Right n) := by unfold Cod.Right; exact inferInstance
/-- Whether the next instruction may follow. -/
def goesOn (op : Int) : Bool := !decide (op = 0 ∨ op = 25 ∨ op = 29 ∨ op = 30)
/-- Whether the i-th is wrong. -/
def badAt (L : List Cod) (i : Nat) : Bool := !decide ((L.getD i default).Right L.length) || (decide (i + 1 = L.length) && goesOn (L.getD i default).op)
/-- Which one is wrong; nothing: none. -/
def chk (L : List Cod) : Option Nat := if L.length = 0 then some 0 else (List.range L.length).find? (badAt L)

theorem find_range {p : Nat → Bool} : ∀ (n k : Nat), k < n → p k = true → (∀ j, j < k → p j = false) → (List.range n).find? p = some k := by
  intro n k hk hp hj
  rw [List.find?_eq_some_iff_getElem]
  refine ⟨hp, k, by simpa using hk, by simp, fun j hj2 => ?_⟩
  simp [hj j hj2]
theorem chk_some {L : List Cod} {k : Nat} (hk : k < L.length) (hb : badAt L k = true) (hj : ∀ j, j < k → badAt L j = false) : chk L = some k := by
  unfold chk
  rw [if_neg (by omega), find_range _ _ hk hb hj]
theorem chk_none {L : List Cod} (h0 : 0 < L.length) (hj : ∀ j, j < L.length → badAt L j = false) : chk L = none := by
  unfold chk
  rw [if_neg (by omega), List.find?_eq_none]
  intro x hx
  simp at hx
  simp [hj x hx]
theorem chk_nil {L : List Cod} (h0 : L.length = 0) : chk L = some 0 := by unfold chk; rw [if_pos h0]
theorem chk_lt {L : List Cod} {k : Nat} (h : chk L = some k) : k ≤ L.length := by
  unfold chk at h
  split at h
  · simp only [Option.some.injEq] at h; omega
  · have := List.mem_of_find?_eq_some h
    simp at this; omega
theorem of_chk {L : List Cod} (h : chk L = none) : 0 < L.length ∧ ∀ j, j < L.length → badAt L j = false := by
  unfold chk at h
  split at h
  · simp at h
  · rw [List.find?_eq_none] at h
    exact ⟨by omega, fun j hj => by simpa using h j (by simpa using hj)⟩

/-- How many operands an operation takes, leaves. -/
def takesV (op : Int) : Nat :=
  if op = 3 ∨ op = 26 ∨ op = 33 ∨ op = 6 ∨ op = 14 ∨ op = 18 ∨ op = 2 then 1
  else if op = 7 ∨ op = 8 ∨ op = 4 then 2
  else if 9 ≤ op ∧ op ≤ 24 then 2 else 0
def leavesV (op : Int) : Nat :=
  if op = 1 ∨ op = 5 ∨ op = 31 ∨ op = 32 ∨ op = 6 ∨ op = 14 ∨ op = 18 then 1
  else if op = 2 ∨ op = 4 then 2
  else if 9 ≤ op ∧ op ≤ 24 then 1 else 0
theorem takesV_le (op : Int) : takesV op ≤ 2 := by unfold takesV; (repeat' split) <;> omega
theorem leavesV_le (op : Int) : leavesV op ≤ 2 := by unfold leavesV; (repeat' split) <;> omega

/-- Which instructions may follow the i-th. -/
def waysV (L : List Cod) (i : Nat) : List Nat :=
  (if goesOn (L.getD i default).op then [i + 1] else []) ++ (if (L.getD i default).op = 25 ∨ (L.getD i default).op = 26 then [(L.getD i default).k.toNat] else [])

/-- An instruction is reached with that many operands. -/
inductive Reach (L : List Cod) : Nat → Nat → Prop
  | zero : Reach L 0 0
  | next {i h j : Nat} : Reach L i h → i < L.length → takesV (L.getD i default).op ≤ h → h - takesV (L.getD i default).op + leavesV (L.getD i default).op ≤ 1000 → j ∈ waysV L i →
      Reach L j (h - takesV (L.getD i default).op + leavesV (L.getD i default).op)
/-- .. and is all right there. -/
def Fine (L : List Cod) (i h : Nat) : Prop := takesV (L.getD i default).op ≤ h ∧ h - takesV (L.getD i default).op + leavesV (L.getD i default).op ≤ 1000
instance (L : List Cod) (i h : Nat) : Decidable (Fine L i h) := by unfold Fine; exact inferInstance
def after (L : List Cod) (i h : Nat) : Nat := h - takesV (L.getD i default).op + leavesV (L.getD i default).op
def Fault (L : List Cod) : Prop := (∃ i h, Reach L i h ∧ ¬ Fine L i h) ∨ ∃ i h k, Reach L i h ∧ Reach L i k ∧ h ≠ k

/-- What is told of a list's heights. -/
def Hgts (L : List Cod) (ok : Bool) (H : List Int) : Prop :=
  (ok = false ∧ H = [] ∧ (chk L ≠ none ∨ Fault L)) ∨
  (ok = true ∧ chk L = none ∧ ¬ Fault L ∧ H.length = L.length ∧ ∀ i, i < L.length → (H.getD i 0 = -1 ∧ ∀ h, ¬ Reach L i h) ∨ ∃ h : Nat, H.getD i 0 = h ∧ Reach L i h)

theorem way_lt {L : List Cod} (hc : chk L = none) {i j : Nat} (hi : i < L.length) (hj : j ∈ waysV L i) : j < L.length := by
  have hb := (of_chk hc).2 i hi
  unfold badAt at hb
  simp only [Bool.or_eq_false_iff, Bool.not_eq_false', Bool.and_eq_false_iff, decide_eq_true_eq, decide_eq_false_iff_not] at hb
  unfold waysV at hj
  rcases List.mem_append.1 hj with h | h
  · split at h
    · rename_i hg
      simp only [List.mem_singleton] at h
      rcases hb.2 with h1 | h1
      · omega
      · rw [hg] at h1; cases h1
    · simp at h
  · split at h
    · rename_i hg
      simp only [List.mem_singleton] at h
      have := hb.1.2.1 (by omega)
      omega
    · simp at h
theorem reach_lt {L : List Cod} (hc : chk L = none) {i h : Nat} (hr : Reach L i h) : i < L.length := by
  cases hr with
  | zero => exact (of_chk hc).1
  | next _ hi _ _ hj => exact way_lt hc hi hj
theorem reach_le {L : List Cod} {i h : Nat} (hr : Reach L i h) : h ≤ 1000 := by
  cases hr with
  | zero => omega
  | next _ _ _ hle _ => exact hle

/-- What is known, when all of it is done, is all. -/
theorem closed_all {L : List Cod} {K : Nat → Option Nat} (h0 : K 0 = some 0) (hcl : ∀ i h, K i = some h → Fine L i h ∧ ∀ j ∈ waysV L i, K j = some (after L i h)) {i h : Nat} (hr : Reach L i h) : K i = some h := by
  induction hr with
  | zero => exact h0
  | next _ _ _ _ hj ih => exact (hcl _ _ ih).2 _ hj
theorem closed_fine {L : List Cod} {K : Nat → Option Nat} (h0 : K 0 = some 0) (hcl : ∀ i h, K i = some h → Fine L i h ∧ ∀ j ∈ waysV L i, K j = some (after L i h)) : ¬ Fault L := by
  rintro (⟨i, h, hr, hf⟩ | ⟨i, h, k, h1, h2, hne⟩)
  · exact hf (hcl i h (closed_all h0 hcl hr)).1
  · have e1 := closed_all h0 hcl h1
    have e2 := closed_all h0 hcl h2
    rw [e1] at e2
    injection e2 with e2
    exact hne e2
theorem hgts_ok {L : List Cod} {K : Nat → Option Nat} {H : List Int} (hc : chk L = none) (h0 : K 0 = some 0) (hcl : ∀ i h, K i = some h → Fine L i h ∧ ∀ j ∈ waysV L i, K j = some (after L i h)) (hr : ∀ i h, K i = some h → Reach L i h)
    (hl : H.length = L.length) (hH : ∀ i, i < L.length → H.getD i 0 = (match K i with | some h => (h : Int) | none => -1)) : Hgts L true H := by
  refine Or.inr ⟨rfl, hc, closed_fine h0 hcl, hl, fun i hi => ?_⟩
  rw [hH i hi]
  cases hk : K i with
  | none => exact Or.inl ⟨rfl, fun h hh => by have := closed_all h0 hcl hh; rw [hk] at this; cases this⟩
  | some h => exact Or.inr ⟨h, rfl, hr i h hk⟩
theorem hgts_no {L : List Cod} (h : chk L ≠ none ∨ Fault L) : Hgts L false [] := Or.inl ⟨rfl, rfl, h⟩
/-- What is told is told the same. -/
theorem hgts_one {L : List Cod} {a b : Bool} {H J : List Int} (h : Hgts L a H) (k : Hgts L b J) : a = b ∧ H = J := by
  rcases h with ⟨rfl, rfl, h1⟩ | ⟨rfl, h1, h2, h3, h4⟩ <;> rcases k with ⟨rfl, rfl, k1⟩ | ⟨rfl, k1, k2, k3, k4⟩
  · exact ⟨rfl, rfl⟩
  · rcases h1 with h1 | h1
    · exact absurd k1 h1
    · exact absurd h1 k2
  · rcases k1 with k1 | k1
    · exact absurd h1 k1
    · exact absurd k1 h2
  · refine ⟨rfl, List.ext_getElem (by omega) fun i p q => ?_⟩
    have e1 : H.getD i 0 = H[i] := by simp [List.getD, p]
    have e2 : J.getD i 0 = J[i] := by simp [List.getD, q]
    rw [← e1, ← e2]
    rcases h4 i (by omega) with ⟨u, v⟩ | ⟨h, u, v⟩ <;> rcases k4 i (by omega) with ⟨u', v'⟩ | ⟨h', u', v'⟩
    · omega
    · exact absurd v' (v h')
    · exact absurd v (v' h)
    · have : h = h' := Classical.byContradiction fun hne => h2 (Or.inr ⟨i, h, h', v, v', hne⟩)
      omega
end Go.Proofs.Ytbgmdckfkfkglaa.M
