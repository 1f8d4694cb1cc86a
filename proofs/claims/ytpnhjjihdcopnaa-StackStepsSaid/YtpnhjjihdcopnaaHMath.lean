/- Code that is looked at ahead, as plain mathematics: which instruction is wrong, how many operands there are. No Go program is imported. -/
import Derived.Test.YtpnhjjihdcopnaaCMath
import Derived.Test.YtpnhjjihdcopnaaSNew
set_option linter.unusedSimpArgs false
set_option linter.unusedVariables false
namespace Go.Proofs.Ytpnhjjihdcopnaa.M

/-- Whether an instruction of a list of n may be. -/
def Cod.Right (n : Nat) (c : Cod) : Prop :=
  c.Good ∧ ((c.op = 25 ∨ c.op = 26 ∨ c.op = 27) → 0 ≤ c.k ∧ c.k < n) ∧ ((c.op = 28 ∨ c.op = 8) → 0 ≤ c.k ∧ c.k ≤ 1048576) ∧ (c.op = 30 → 1 ≤ c.k ∧ c.k ≤ 15)
instance (n : Nat) (c : Cod) : Decidable (c.Right n) := by unfold Cod.Right; exact inferInstance
/-- Whether the next instruction may follow. -/
def goesOn (op : Int) : Bool := !decide (op = 0 ∨ op = 25 ∨ op = 29 ∨ op = 30)
/-- Whether the i-th is wrong. -/
def badAt (L : List Cod) (i : Nat) : Bool := !decide ((L.getD i default).Right L.length) || (decide (i + 1 = L.length) && goesOn (L.getD i default).op)
/-- Which one is wrong; nothing: none. -/
def chk (L : List Cod) : Option Nat := if L.length = 0 then some 0 else (List.range L.length).find? (badAt L)

theorem find_range {p : Nat → Bool} : ∀ (n k : Nat), k < n → p k = true → (∀ j, j < k → p j = false) → (List.range n).find? p = some k := by
  intro n k hk hp hj
  rw [List.find?_eq_some_iff_getElem]
  refine ⟨hp, k, by simpa using hk, by simp, fun j hj2 => ?_⟩
  simp [hj j hj2]
theorem chk_some {L : List Cod} {k : Nat} (hk : k < L.length) (hb : badAt L k = true) (hj : ∀ j, j < k → badAt L j = false) : chk L = some k := by
  unfold chk
  rw [if_neg (by omega), find_range _ _ hk hb hj]
theorem chk_none {L : List Cod} (h0 : 0 < L.length) (hj : ∀ j, j < L.length → badAt L j = false) : chk L = none := by
  unfold chk
  rw [if_neg (by omega), List.find?_eq_none]
  intro x hx
  simp at hx
  simp [hj x hx]
theorem chk_nil {L : List Cod} (h0 : L.length = 0) : chk L = some 0 := by unfold chk; rw [if_pos h0]
theorem chk_lt {L : List Cod} {k : Nat} (h : chk L = some k) : k ≤ L.length := by
  unfold chk at h
  split at h
  · simp only [Option.some.injEq] at h; omega
  · have := List.mem_of_find?_eq_some h
    simp at this; omega
theorem of_chk {L : List Cod} (h : chk L = none) : 0 < L.length ∧ ∀ j, j < L.length → badAt L j = false := by
  unfold chk at h
  split at h
  · simp at h
  · rw [List.find?_eq_none] at h
    exact ⟨by omega, fun j hj => by simpa using h j (by simpa using hj)⟩

/-- How many operands an operation takes, leaves. -/
def takesV (op : Int) : Nat :=
  if op = 3 ∨ op = 26 ∨ op = 33 ∨ op = 6 ∨ op = 14 ∨ op = 18 ∨ op = 2 then 1
  else if op = 7 ∨ op = 8 ∨ op = 4 then 2
  else if 9 ≤ op ∧ op ≤ 24 then 2 else 0
def leavesV (op : Int) : Nat :=
  if op = 1 ∨ op = 5 ∨ op = 31 ∨ op = 32 ∨ op = 6 ∨ op = 14 ∨ op = 18 then 1
  else if op = 2 ∨ op = 4 then 2
  else if 9 ≤ op ∧ op ≤ 24 then 1 else 0
theorem takesV_le (op : Int) : takesV op ≤ 2 := by unfold takesV; (repeat' split) <;> omega
theorem leavesV_le (op : Int) : leavesV op ≤ 2 := by unfold leavesV; (repeat' split) <;> omega

/-- Which instructions may follow the i-th. -/
def waysV (L : List Cod) (i : Nat) : List Nat :=
  (if goesOn (L.getD i default).op then [i + 1] else []) ++ (if (L.getD i default).op = 25 ∨ (L.getD i default).op = 26 then [(L.getD i default).k.toNat] else [])

/-- An instruction is reached with that many operands. -/
inductive Reach (L : List Cod) : Nat → Nat → Prop
  | zero : Reach L 0 0
  | next {i h j : Nat} : Reach L i h → i < L.length → takesV (L.getD i default).op ≤ h → h - takesV (L.getD i default).op + leavesV (L.getD i default).op ≤ 1000 → j ∈ waysV L i →
      Reach L j (h - takesV (L.getD i default).op + leavesV (L.getD i default).op)
/-- .. and is all right there. -/
def Fine (L : List Cod) (i h : Nat) : Prop := takesV (L.getD i default).op ≤ h ∧ h - takesV (L.getD i default).op + leavesV (L.getD i default).op ≤ 1000
instance (L : List Cod) (i h : Nat) : Decidable (Fine L i h) := by unfold Fine; exact inferInstance
def after (L : List Cod) (i h : Nat) : Nat := h - takesV (L.getD i default).op + leavesV (L.getD i default).op
def Fault (L : List Cod) : Prop := (∃ i h, Reach L i h ∧ ¬ Fine L i h) ∨ ∃ i h k, Reach L i h ∧ Reach L i k ∧ h ≠ k

/-- What is told of a list's heights. -/
def Hgts (L : List Cod) (ok : Bool) (H : List Int) : Prop :=
  (ok = false ∧ H = [] ∧ (chk L ≠ none ∨ Fault L)) ∨
  (ok = true ∧ chk L = none ∧ ¬ Fault L ∧ H.length = L.length ∧ ∀ i, i < L.length → (H.getD i 0 = -1 ∧ ∀ h, ¬ Reach L i h) ∨ ∃ h : Nat, H.getD i 0 = h ∧ Reach L i h)

theorem way_lt {L : List Cod} (hc : chk L = none) {i j : Nat} (hi : i < L.length) (hj : j ∈ waysV L i) : j < L.length := by
  have hb := (of_chk hc).2 i hi
  unfold badAt at hb
  simp only [Bool.or_eq_false_iff, Bool.not_eq_false', Bool.and_eq_false_iff, decide_eq_true_eq, decide_eq_false_iff_not] at hb
  unfold waysV at hj
  rcases List.mem_append.1 hj with h | h
  · split at h
    · rename_i hg
      simp only [List.mem_singleton] at h
      rcases hb.2 with h1 | h1
      · omega
      · rw [hg] at h1; cases h1
    · simp at h
  · split at h
    · rename_i hg
      simp only [List.mem_singleton] at h
      have := hb.1.2.1 (by omega)
      omega
    · simp at h
theorem reach_lt {L : List Cod} (hc : chk L = none) {i h : Nat} (hr : Reach L i h) : i < L.length := by
  cases hr with
  | zero => exact (of_chk hc).1
  | next _ hi _ _ hj => exact way_lt hc hi hj
theorem reach_le {L : List Cod} {i h : Nat} (hr : Reach L i h) : h ≤ 1000 := by
  cases hr with
  | zero => omega
  | next _ _ _ hle _ => exact hle

/-- What is known, when all of it is done, is all. -/
theorem closed_all {L : List Cod} {K : Nat → Option Nat} (h0 : K 0 = some 0) (hcl : ∀ i h, K i = some h → Fine L i h ∧ ∀ j ∈ waysV L i, K j = some (after L i h)) {i h : Nat} (hr : Reach L i h) : K i = some h := by
  induction hr with
  | zero => exact h0
  | next _ _ _ _ hj ih => exact (hcl _ _ ih).2 _ hj
theorem closed_fine {L : List Cod} {K : Nat → Option Nat} (h0 : K 0 = some 0) (hcl : ∀ i h, K i = some h → Fine L i h ∧ ∀ j ∈ waysV L i, K j = some (after L i h)) : ¬ Fault L := by
  rintro (⟨i, h, hr, hf⟩ | ⟨i, h, k, h1, h2, hne⟩)
  · exact hf (hcl i h (closed_all h0 hcl hr)).1
  · have e1 := closed_all h0 hcl h1
    have e2 := closed_all h0 hcl h2
    rw [e1] at e2
    injection e2 with e2
    exact hne e2
theorem hgts_ok {L : List Cod} {K : Nat → Option Nat} {H : List Int} (hc : chk L = none) (h0 : K 0 = some 0) (hcl : ∀ i h, K i = some h → Fine L i h ∧ ∀ j ∈ waysV L i, K j = some (after L i h)) (hr : ∀ i h, K i = some h → Reach L i h)
    (hl : H.length = L.length) (hH : ∀ i, i < L.length → H.getD i 0 = (match K i with | some h => (h : Int) | none => -1)) : Hgts L true H := by
  refine Or.inr ⟨rfl, hc, closed_fine h0 hcl, hl, fun i hi => ?_⟩
  rw [hH i hi]
  cases hk : K i with
  | none => exact Or.inl ⟨rfl, fun h hh => by have := closed_all h0 hcl hh; rw [hk] at this; cases this⟩
  | some h => exact Or.inr ⟨h, rfl, hr i h hk⟩
theorem hgts_no {L : List Cod} (h : chk L ≠ none ∨ Fault L) : Hgts L false [] := Or.inl ⟨rfl, rfl, h⟩
/-- What is told is told the same. -/
theorem hgts_one {L : List Cod} {a b : Bool} {H J : List Int} (h : Hgts L a H) (k : Hgts L b J) : a = b ∧ H = J := by
  rcases h with ⟨rfl, rfl, h1⟩ | ⟨rfl, h1, h2, h3, h4⟩ <;> rcases k with ⟨rfl, rfl, k1⟩ | ⟨rfl, k1, k2, k3, k4⟩
  · exact ⟨rfl, rfl⟩
  · rcases h1 with h1 | h1
    · exact absurd k1 h1
    · exact absurd h1 k2
  · rcases k1 with k1 | k1
    · exact absurd h1 k1
    · exact absurd k1 h2
  · refine ⟨rfl, List.ext_getElem (by omega) fun i p q => ?_⟩
    have e1 : H.getD i 0 = H[i] := by simp [List.getD, p]
    have e2 : J.getD i 0 = J[i] := by simp [List.getD, q]
    rw [← e1, ← e2]
    rcases h4 i (by omega) with ⟨u, v⟩ | ⟨h, u, v⟩ <;> rcases k4 i (by omega) with ⟨u', v'⟩ | ⟨h', u', v'⟩
    · omega
    · exact absurd v' (v h')
    · exact absurd v (v' h)
    · have : h = h' := Classical.byContradiction fun hne => h2 (Or.inr ⟨i, h, h', v, v', hne⟩)
      omega
end Go.Proofs.Ytpnhjjihdcopnaa.M

/- Code whose heights are told has just so many operands at each step. No Go program is imported. -/
set_option linter.unusedSimpArgs false
set_option linter.unusedVariables false
namespace Go.Proofs.Ytpnhjjihdcopnaa.M
open Go.RowKit

theorem puts_len {s t : SS} {n : Nat} {l : List Int} (e : puts s n l = some t) : t.ops.length = s.ops.length - n + l.length ∧ s.ops.length - n + l.length ≤ 1000 ∧ t.pc = s.pc ∧ t.fin = s.fin := by
  unfold puts at e
  split at e
  · rename_i h
    injection e with e
    subst e
    refine ⟨?_, h, rfl, rfl⟩
    simp only [List.length_append, List.length_take]; omega
  · cases e
/-- What an instruction leaves, behind which the next one is. -/
structure Lens (s u : SS) (op : Int) : Prop where
  takes : takesV op ≤ s.ops.length
  len : u.ops.length = s.ops.length - takesV op + leavesV op
  le : u.ops.length ≤ 1000
  pc : u.pc = s.pc
  fin : u.fin = s.fin
theorem lens_of {s u : SS} {op : Int} {n m : Nat} (h1 : takesV op = n) (h2 : leavesV op = m) (hn : n ≤ s.ops.length) (e : u.ops.length = s.ops.length - n + m ∧ s.ops.length - n + m ≤ 1000 ∧ u.pc = s.pc ∧ u.fin = s.fin) : Lens s u op :=
  ⟨by rw [h1]; exact hn, by rw [h1, h2]; exact e.1, by rw [e.1]; exact e.2.1, e.2.2.1, e.2.2.2⟩
theorem two_lens {s u : SS} {c : Cod} {v : Int} (hn : ¬ s.ops.length < 2) (hr : reck c.op (opd s 1) (opd s 0) = some v) (e : puts s 2 [v] = some u) : Lens s u c.op := by
  have hop : 9 ≤ c.op ∧ c.op ≤ 24 ∧ c.op ≠ 14 ∧ c.op ≠ 18 := by
    refine Classical.byContradiction fun h => ?_
    have : reck c.op (opd s 1) (opd s 0) = none := by
      unfold reck
      rw [if_neg (by omega), if_neg (by omega), if_neg (by omega), if_neg (by omega), if_neg (by omega), if_neg (by omega), if_neg (by omega), if_neg (by omega), if_neg (by omega), if_neg (by omega), if_neg (by omega), if_neg (by omega), if_neg (by omega), if_neg (by omega)]
    rw [this] at hr
    cases hr
  obtain ⟨g1, g2, g3, g4⟩ := hop
  refine lens_of (n := 2) (m := 1) ?_ ?_ (by omega) (puts_len e)
  · unfold takesV; rw [if_neg (by omega), if_neg (by omega), if_pos ⟨g1, g2⟩]
  · unfold leavesV; rw [if_neg (by omega), if_neg (by omega), if_pos ⟨g1, g2⟩]
theorem change_lens {s u : SS} {c : Cod} (hl : s.ops.length ≤ 1000) (h : sChange s c = some u) : Lens s u c.op := by
  obtain ⟨op, k⟩ := c
  unfold sChange at h
  simp only at h ⊢
  split at h
  · rename_i g; subst g; exact lens_of (n := 0) (m := 1) (by decide) (by decide) (Nat.zero_le _) (puts_len h)
  split at h
  · rename_i g; subst g; exact lens_of (n := 0) (m := 1) (by decide) (by decide) (Nat.zero_le _) (puts_len h)
  split at h
  · rename_i g
    subst g
    unfold sEnter at h
    split at h
    · cases h
    · injection h with h
      subst h
      exact lens_of (n := 0) (m := 0) (by decide) (by decide) (Nat.zero_le _) ⟨rfl, hl, rfl, rfl⟩
  split at h
  · rename_i g
    subst g
    unfold sGetc at h
    split at h
    · exact lens_of (n := 0) (m := 1) (by decide) (by decide) (Nat.zero_le _) (puts_len h)
    · cases hp : puts s 0 [((s.inp.getD 0 0 : Nat) : Int)] with
      | none => rw [hp] at h; cases h
      | some t =>
        rw [hp] at h
        injection h with h
        subst h
        exact lens_of (n := 0) (m := 1) (by decide) (by decide) (Nat.zero_le _) (puts_len hp)
  split at h
  · rename_i g; subst g; exact lens_of (n := 0) (m := 1) (by decide) (by decide) (Nat.zero_le _) (puts_len h)
  split at h
  · rename_i g
    unfold sOne at h
    split at h
    · cases h
    rename_i h0
    have h1 : 1 ≤ s.ops.length := by omega
    split at h
    · rename_i g; subst g; exact lens_of (n := 1) (m := 0) (by decide) (by decide) h1 (puts_len h)
    split at h
    · rename_i g; subst g; exact lens_of (n := 1) (m := 2) (by decide) (by decide) h1 (puts_len h)
    split at h
    · rename_i g
      subst g
      split at h
      · exact lens_of (n := 1) (m := 1) (by decide) (by decide) h1 (puts_len h)
      · cases h
    split at h
    · rename_i g; subst g; exact lens_of (n := 1) (m := 1) (by decide) (by decide) h1 (puts_len h)
    split at h
    · rename_i g; subst g; exact lens_of (n := 1) (m := 1) (by decide) (by decide) h1 (puts_len h)
    have g33 : op = 33 := by omega
    subst g33
    have hp := puts_len h
    exact lens_of (n := 1) (m := 0) (by decide) (by decide) h1 hp
  · unfold sTwo at h
    simp only at h
    split at h
    · cases h
    rename_i h0
    have h2 : 2 ≤ s.ops.length := by omega
    split at h
    · rename_i g; subst g; exact lens_of (n := 2) (m := 2) (by decide) (by decide) h2 (puts_len h)
    split at h
    · rename_i g
      subst g
      split at h
      · have hp := puts_len h
        exact lens_of (n := 2) (m := 0) (by decide) (by decide) h2 hp
      · cases h
    split at h
    · rename_i g
      subst g
      split at h
      · have hp := puts_len h
        exact lens_of (n := 2) (m := 0) (by decide) (by decide) h2 hp
      · cases h
    cases hr : reck op (opd s 1) (opd s 0) with
    | none => rw [hr] at h; cases h
    | some v => rw [hr] at h; exact two_lens (c := ⟨op, k⟩) h0 hr h

/-- As long as it runs it is at an instruction that is reached with so many operands. -/
def Inv (L : List Cod) (s : SS) : Prop := s.fin = 0 → ∃ i : Nat, s.pc = i ∧ M.Reach L i s.ops.length
theorem inv_step {L : List Cod} {s : SS} (hL : chk L = none) (hc : ∀ c ∈ L, c.op ≠ 27 ∧ c.op ≠ 29) (hl : s.ops.length ≤ 1000) (h : Inv L s) : Inv L (sStep L s) := by
  intro hf
  by_cases h0 : s.fin = 0
  · obtain ⟨i, hpc, hr⟩ := h h0
    have hi := reach_lt hL hr
    obtain ⟨c, hcd⟩ : ∃ c, L[i]? = some c := ⟨_, List.getElem?_eq_getElem hi⟩
    have hg : L.getD i default = c := by rw [List.getD_eq_getElem?_getD, hcd]; rfl
    have hb := (of_chk hL).2 i hi
    unfold badAt at hb
    simp only [Bool.or_eq_false_iff, Bool.not_eq_false', decide_eq_true_eq] at hb
    have hR : c.Right L.length := by rw [← hg]; exact hb.1
    obtain ⟨n27, n29⟩ := hc c (List.mem_of_getElem? hcd)
    rw [sStep_at i c h0 hpc hcd hR.1] at hf ⊢
    cases hx : sExec s c with
    | none => rw [hx] at hf; exact absurd hf (by show (2 : Nat) ≠ 0; decide)
    | some t =>
      rw [hx] at hf
      have hf : t.fin = 0 := hf
      show ∃ i : Nat, t.pc = i ∧ M.Reach L i t.ops.length
      unfold sExec at hx
      by_cases ht : isTurn c.op = true
      · rw [if_pos ht] at hx
        unfold isTurn at ht
        have ht := of_decide_eq_true ht
        unfold sTurn at hx
        by_cases e0 : c.op = 0
        · rw [if_pos e0] at hx
          injection hx with hx
          subst hx
          exact absurd hf (by show (1 : Nat) ≠ 0; decide)
        rw [if_neg e0] at hx
        by_cases e30 : c.op = 30
        · rw [if_pos e30] at hx
          split at hx
          · cases hx
          · rename_i hk
            injection hx with hx
            subst hx
            have : (sEnded s c.k.toNat).fin = 2 := by unfold sEnded; simp only; rw [if_neg (by omega)]
            rw [this] at hf; cases hf
        rw [if_neg e30] at hx
        by_cases e25 : c.op = 25
        · rw [if_pos e25] at hx
          injection hx with hx
          subst hx
          have hk := hR.2.1 (Or.inl e25)
          refine ⟨c.k.toNat, by show c.k = _; omega, ?_⟩
          have t0 : takesV (L.getD i default).op = 0 := by rw [hg, e25]; decide
          have l0 : leavesV (L.getD i default).op = 0 := by rw [hg, e25]; decide
          have := Reach.next (j := c.k.toNat) hr hi (by rw [t0]; exact Nat.zero_le _) (by rw [t0, l0]; omega) (by unfold waysV; rw [hg, e25]; simp)
          rw [t0, l0] at this
          exact this
        rw [if_neg e25] at hx
        by_cases e26 : c.op = 26
        · rw [if_pos e26] at hx
          split at hx
          · cases hx
          · rename_i hn
            injection hx with hx
            subst hx
            have hk := hR.2.1 (Or.inr (Or.inl e26))
            have t0 : takesV (L.getD i default).op = 1 := by rw [hg, e26]; decide
            have l0 : leavesV (L.getD i default).op = 0 := by rw [hg, e26]; decide
            have hlen : (s.ops.take (s.ops.length - 1)).length = s.ops.length - 1 + 0 := by rw [List.length_take]; omega
            have hw : waysV L i = [i + 1, c.k.toNat] := by unfold waysV; rw [hg, e26]; simp [goesOn]
            have R := fun j hj => Reach.next (j := j) hr hi (by rw [t0]; omega) (by rw [t0, l0]; omega) hj
            rw [t0, l0, hw] at R
            by_cases ho : opd s 0 = 0
            · refine ⟨c.k.toNat, by show (if opd s 0 = 0 then c.k else s.pc + 1) = _; rw [if_pos ho]; omega, ?_⟩
              show M.Reach L _ (s.ops.take (s.ops.length - 1)).length
              rw [hlen]
              exact R _ (by simp)
            · refine ⟨i + 1, by show (if opd s 0 = 0 then c.k else s.pc + 1) = _; rw [if_neg ho, hpc]; omega, ?_⟩
              show M.Reach L _ (s.ops.take (s.ops.length - 1)).length
              rw [hlen]
              exact R _ (by simp)
        omega
      · rw [if_neg ht] at hx
        cases hy : sChange s c with
        | none => rw [hy] at hx; cases hx
        | some u =>
          rw [hy] at hx
          injection hx with hx
          subst hx
          have hlz := change_lens hl hy
          have hgo : goesOn c.op = true := by
            unfold goesOn
            unfold isTurn at ht
            simp only [decide_eq_true_eq] at ht
            simp only [Bool.not_eq_true', decide_eq_false_iff_not]
            omega
          refine ⟨i + 1, by show u.pc + 1 = _; rw [hlz.pc, hpc]; omega, ?_⟩
          have := Reach.next (j := i + 1) hr hi (by rw [hg]; exact hlz.takes) (by rw [hg, ← hlz.len]; exact hlz.le) (by unfold waysV; rw [hg, hgo]; simp)
          rw [hg, ← hlz.len] at this
          exact this
  · rw [sStep_fin _ _ h0] at hf
    exact absurd hf h0
/-- What is told of the instruction it is at. -/
theorem inv_told {L : List Cod} {H : List Int} {s : SS} (hH : Hgts L true H) (h : Inv L s) (hf : s.fin = 0) : ∃ i : Nat, s.pc = i ∧ i < L.length ∧ H.length = L.length ∧ H.getD i 0 = (s.ops.length : Int) := by
  rcases hH with ⟨h1, _⟩ | ⟨_, h1, h2, h3, h4⟩
  · cases h1
  obtain ⟨i, hp, hr⟩ := h hf
  have hi := reach_lt h1 hr
  refine ⟨i, hp, hi, h3, ?_⟩
  rcases h4 i hi with ⟨_, h5⟩ | ⟨k, h5, h6⟩
  · exact absurd hr (h5 _)
  · have : k = s.ops.length := Classical.byContradiction fun hne => h2 (Or.inr ⟨i, k, _, h6, hr, hne⟩)
    rw [h5, this]
end Go.Proofs.Ytpnhjjihdcopnaa.M

/- What each instruction does to a state, by its last operands. No Go program is imported. -/
set_option linter.unusedSimpArgs false
set_option linter.unusedVariables false
namespace Go.Proofs.Ytpnhjjihdcopnaa.M
open Go.RowKit

/-- Too few operands, or too many: nothing is done. -/
theorem exec_out {s : SS} {c : Cod} (hl : s.ops.length ≤ 1000) (h : ¬ (takesV c.op ≤ s.ops.length ∧ s.ops.length - takesV c.op + leavesV c.op ≤ 1000)) : sExec s c = none := by
  unfold sExec
  by_cases ht : isTurn c.op = true
  · rw [if_pos ht]
    unfold isTurn at ht
    have ht := of_decide_eq_true ht
    by_cases h26 : c.op = 26
    · have t1 : takesV c.op = 1 := by rw [h26]; decide
      have l1 : leavesV c.op = 0 := by rw [h26]; decide
      rw [t1, l1] at h
      have h0 : s.ops.length = 0 := by omega
      unfold sTurn
      rw [if_neg (by omega), if_neg (by omega), if_neg (by omega), if_pos h26, if_pos h0]
    · have t1 : takesV c.op = 0 := by rcases ht with h | h | h | h | h | h <;> (rw [h]; first | decide | exact absurd h h26)
      have l1 : leavesV c.op = 0 := by rcases ht with h | h | h | h | h | h <;> (rw [h]; first | decide | exact absurd h h26)
      rw [t1, l1] at h
      omega
  · rw [if_neg ht]
    cases hc : sChange s c with
    | none => rfl
    | some u =>
      have := change_lens hl hc
      exact absurd ⟨this.takes, by have h1 := this.len; have h2 := this.le; omega⟩ h
theorem puts_app {m : List Int} {T U l : List Int} {c : List (Nat × Nat)} {i o : List Nat} {f t : Nat} {p : Int} {e r : Nat} (n : Nat) (hn : U.length = n) (hl : T.length + l.length ≤ 1000) :
    puts ⟨m, T ++ U, c, i, o, f, t, p, e, r⟩ n l = some ⟨m, T ++ l, c, i, o, f, t, p, e, r⟩ := by
  unfold puts
  subst hn
  simp only [List.length_append, Nat.add_sub_cancel]
  rw [if_pos hl, List.take_left']
  rfl
theorem opd_a0 {m : List Int} {T : List Int} {a : Int} {c : List (Nat × Nat)} {i o : List Nat} {f t : Nat} {p : Int} {e r : Nat} : opd ⟨m, T ++ [a], c, i, o, f, t, p, e, r⟩ 0 = a := by
  unfold opd; simp [List.getD]
theorem opd_b0 {m : List Int} {T : List Int} {a b : Int} {c : List (Nat × Nat)} {i o : List Nat} {f t : Nat} {p : Int} {e r : Nat} : opd ⟨m, T ++ [a, b], c, i, o, f, t, p, e, r⟩ 0 = b := by
  unfold opd; simp [List.getD]
theorem opd_b1 {m : List Int} {T : List Int} {a b : Int} {c : List (Nat × Nat)} {i o : List Nat} {f t : Nat} {p : Int} {e r : Nat} : opd ⟨m, T ++ [a, b], c, i, o, f, t, p, e, r⟩ 1 = a := by
  unfold opd; simp [List.getD]
theorem len_ne0 (T : List Int) (a : Int) : ¬ (T ++ [a]).length = 0 := by simp
theorem len_nlt2 (T : List Int) (a b : Int) : ¬ (T ++ [a, b]).length < 2 := by simp

section
variable {m : List Int} {T : List Int} {a b : Int} {c : List (Nat × Nat)} {i o : List Nat} {f t : Nat} {p : Int} {e r : Nat} (k : Int)
theorem x_dup (hl : T.length + 2 ≤ 1000) : sExec ⟨m, T ++ [a], c, i, o, f, t, p, e, r⟩ ⟨2, k⟩ = some ⟨m, T ++ [a, a], c, i, o, f, t, p + 1, e, r⟩ := by
  have e1 : sExec ⟨m, T ++ [a], c, i, o, f, t, p, e, r⟩ ⟨2, k⟩ = (if (T ++ [a]).length = 0 then none else puts ⟨m, T ++ [a], c, i, o, f, t, p, e, r⟩ 1 [opd ⟨m, T ++ [a], c, i, o, f, t, p, e, r⟩ 0, opd ⟨m, T ++ [a], c, i, o, f, t, p, e, r⟩ 0]).map sNext := by kernel_rfl
  rw [e1, if_neg (len_ne0 T a), opd_a0, puts_app 1 rfl (by simpa using hl)]; rfl
theorem x_drop (hl : T.length ≤ 1000) : sExec ⟨m, T ++ [a], c, i, o, f, t, p, e, r⟩ ⟨3, k⟩ = some ⟨m, T ++ [], c, i, o, f, t, p + 1, e, r⟩ := by
  have e1 : sExec ⟨m, T ++ [a], c, i, o, f, t, p, e, r⟩ ⟨3, k⟩ = (if (T ++ [a]).length = 0 then none else puts ⟨m, T ++ [a], c, i, o, f, t, p, e, r⟩ 1 []).map sNext := by kernel_rfl
  rw [e1, if_neg (len_ne0 T a), puts_app 1 rfl (by simpa using hl)]; rfl
theorem x_load (hl : T.length + 1 ≤ 1000) : sExec ⟨m, T ++ [a], c, i, o, f, t, p, e, r⟩ ⟨6, k⟩ = if 0 ≤ a ∧ a < m.length then some ⟨m, T ++ [m.getD a.toNat 0], c, i, o, f, t, p + 1, e, r⟩ else none := by
  have e1 : sExec ⟨m, T ++ [a], c, i, o, f, t, p, e, r⟩ ⟨6, k⟩ = (if (T ++ [a]).length = 0 then none else if 0 ≤ opd ⟨m, T ++ [a], c, i, o, f, t, p, e, r⟩ 0 ∧ opd ⟨m, T ++ [a], c, i, o, f, t, p, e, r⟩ 0 < m.length then puts ⟨m, T ++ [a], c, i, o, f, t, p, e, r⟩ 1 [m.getD (opd ⟨m, T ++ [a], c, i, o, f, t, p, e, r⟩ 0).toNat 0] else none).map sNext := by kernel_rfl
  rw [e1, if_neg (len_ne0 T a), opd_a0, puts_app 1 rfl (by simpa using hl)]
  split <;> rfl
theorem x_neg (hl : T.length + 1 ≤ 1000) : sExec ⟨m, T ++ [a], c, i, o, f, t, p, e, r⟩ ⟨14, k⟩ = some ⟨m, T ++ [wrap32 (0 - a)], c, i, o, f, t, p + 1, e, r⟩ := by
  have e1 : sExec ⟨m, T ++ [a], c, i, o, f, t, p, e, r⟩ ⟨14, k⟩ = (if (T ++ [a]).length = 0 then none else puts ⟨m, T ++ [a], c, i, o, f, t, p, e, r⟩ 1 [wrap32 (0 - opd ⟨m, T ++ [a], c, i, o, f, t, p, e, r⟩ 0)]).map sNext := by kernel_rfl
  rw [e1, if_neg (len_ne0 T a), opd_a0, puts_app 1 rfl (by simpa using hl)]; rfl
theorem x_inv (hl : T.length + 1 ≤ 1000) : sExec ⟨m, T ++ [a], c, i, o, f, t, p, e, r⟩ ⟨18, k⟩ = some ⟨m, T ++ [bits .xor .i32 (-1) a], c, i, o, f, t, p + 1, e, r⟩ := by
  have e1 : sExec ⟨m, T ++ [a], c, i, o, f, t, p, e, r⟩ ⟨18, k⟩ = (if (T ++ [a]).length = 0 then none else puts ⟨m, T ++ [a], c, i, o, f, t, p, e, r⟩ 1 [bits .xor .i32 (-1) (opd ⟨m, T ++ [a], c, i, o, f, t, p, e, r⟩ 0)]).map sNext := by kernel_rfl
  rw [e1, if_neg (len_ne0 T a), opd_a0, puts_app 1 rfl (by simpa using hl)]; rfl
theorem x_putc (hl : T.length ≤ 1000) : sExec ⟨m, T ++ [a], c, i, o, f, t, p, e, r⟩ ⟨33, k⟩ = some ⟨m, T ++ [], c, i, o ++ [(a % 256).toNat], f, t, p + 1, e, r⟩ := by
  have e1 : sExec ⟨m, T ++ [a], c, i, o, f, t, p, e, r⟩ ⟨33, k⟩ = (if (T ++ [a]).length = 0 then none else puts ⟨m, T ++ [a], c, i, o ++ [(opd ⟨m, T ++ [a], c, i, o, f, t, p, e, r⟩ 0 % 256).toNat], f, t, p, e, r⟩ 1 []).map sNext := by kernel_rfl
  rw [e1, if_neg (len_ne0 T a), opd_a0, puts_app 1 rfl (by simpa using hl)]; rfl
theorem x_zero : sExec ⟨m, T ++ [a], c, i, o, f, t, p, e, r⟩ ⟨26, k⟩ = some ⟨m, T ++ [], c, i, o, f, t, if a = 0 then k else p + 1, e, r⟩ := by
  have e1 : sExec ⟨m, T ++ [a], c, i, o, f, t, p, e, r⟩ ⟨26, k⟩ = (if (T ++ [a]).length = 0 then none else some ⟨m, (T ++ [a]).take ((T ++ [a]).length - 1), c, i, o, f, t, if opd ⟨m, T ++ [a], c, i, o, f, t, p, e, r⟩ 0 = 0 then k else p + 1, e, r⟩) := by kernel_rfl
  rw [e1, if_neg (len_ne0 T a), opd_a0]
  simp
theorem x_swap (hl : T.length + 2 ≤ 1000) : sExec ⟨m, T ++ [a, b], c, i, o, f, t, p, e, r⟩ ⟨4, k⟩ = some ⟨m, T ++ [b, a], c, i, o, f, t, p + 1, e, r⟩ := by
  have e1 : sExec ⟨m, T ++ [a, b], c, i, o, f, t, p, e, r⟩ ⟨4, k⟩ = (if (T ++ [a, b]).length < 2 then none else puts ⟨m, T ++ [a, b], c, i, o, f, t, p, e, r⟩ 2 [opd ⟨m, T ++ [a, b], c, i, o, f, t, p, e, r⟩ 0, opd ⟨m, T ++ [a, b], c, i, o, f, t, p, e, r⟩ 1]).map sNext := by kernel_rfl
  rw [e1, if_neg (len_nlt2 T a b), opd_b0, opd_b1, puts_app 2 rfl (by simpa using hl)]; rfl
theorem x_store (hl : T.length ≤ 1000) : sExec ⟨m, T ++ [a, b], c, i, o, f, t, p, e, r⟩ ⟨7, k⟩ = if 0 ≤ a ∧ a < m.length then some ⟨m.set a.toNat b, T ++ [], c, i, o, f, t, p + 1, e, r⟩ else none := by
  have e1 : sExec ⟨m, T ++ [a, b], c, i, o, f, t, p, e, r⟩ ⟨7, k⟩ = (if (T ++ [a, b]).length < 2 then none else if 0 ≤ opd ⟨m, T ++ [a, b], c, i, o, f, t, p, e, r⟩ 1 ∧ opd ⟨m, T ++ [a, b], c, i, o, f, t, p, e, r⟩ 1 < m.length then puts ⟨m.set (opd ⟨m, T ++ [a, b], c, i, o, f, t, p, e, r⟩ 1).toNat (opd ⟨m, T ++ [a, b], c, i, o, f, t, p, e, r⟩ 0), T ++ [a, b], c, i, o, f, t, p, e, r⟩ 2 [] else none).map sNext := by kernel_rfl
  rw [e1, if_neg (len_nlt2 T a b), opd_b0, opd_b1, puts_app 2 rfl (by simpa using hl)]
  split <;> rfl
theorem x_move (hl : T.length ≤ 1000) : sExec ⟨m, T ++ [a, b], c, i, o, f, t, p, e, r⟩ ⟨8, k⟩ = if 0 ≤ k ∧ 0 ≤ a ∧ 0 ≤ b ∧ a + k ≤ m.length ∧ b + k ≤ m.length then some ⟨moved m a.toNat b.toNat k.toNat, T ++ [], c, i, o, f, t, p + 1, e, r⟩ else none := by
  have e1 : sExec ⟨m, T ++ [a, b], c, i, o, f, t, p, e, r⟩ ⟨8, k⟩ = (if (T ++ [a, b]).length < 2 then none else if 0 ≤ k ∧ 0 ≤ opd ⟨m, T ++ [a, b], c, i, o, f, t, p, e, r⟩ 1 ∧ 0 ≤ opd ⟨m, T ++ [a, b], c, i, o, f, t, p, e, r⟩ 0 ∧ opd ⟨m, T ++ [a, b], c, i, o, f, t, p, e, r⟩ 1 + k ≤ m.length ∧ opd ⟨m, T ++ [a, b], c, i, o, f, t, p, e, r⟩ 0 + k ≤ m.length then puts ⟨moved m (opd ⟨m, T ++ [a, b], c, i, o, f, t, p, e, r⟩ 1).toNat (opd ⟨m, T ++ [a, b], c, i, o, f, t, p, e, r⟩ 0).toNat k.toNat, T ++ [a, b], c, i, o, f, t, p, e, r⟩ 2 [] else none).map sNext := by kernel_rfl
  rw [e1, if_neg (len_nlt2 T a b), opd_b0, opd_b1, puts_app 2 rfl (by simpa using hl)]
  split <;> rfl
theorem x_two {op : Int} (h1 : 9 ≤ op) (h2 : op ≤ 24) (h14 : op ≠ 14) (h18 : op ≠ 18) (hl : T.length + 1 ≤ 1000) : sExec ⟨m, T ++ [a, b], c, i, o, f, t, p, e, r⟩ ⟨op, k⟩ = (reck op a b).map fun v => ⟨m, T ++ [v], c, i, o, f, t, p + 1, e, r⟩ := by
  have e1 : sExec ⟨m, T ++ [a, b], c, i, o, f, t, p, e, r⟩ ⟨op, k⟩ = (if (T ++ [a, b]).length < 2 then none else (reck op (opd ⟨m, T ++ [a, b], c, i, o, f, t, p, e, r⟩ 1) (opd ⟨m, T ++ [a, b], c, i, o, f, t, p, e, r⟩ 0)).bind fun v => puts ⟨m, T ++ [a, b], c, i, o, f, t, p, e, r⟩ 2 [v]).map sNext := by
    have ho : op = 9 ∨ op = 10 ∨ op = 11 ∨ op = 12 ∨ op = 13 ∨ op = 15 ∨ op = 16 ∨ op = 17 ∨ op = 19 ∨ op = 20 ∨ op = 21 ∨ op = 22 ∨ op = 23 ∨ op = 24 := by omega
    clear h1 h2 h14 h18 hl
    rcases ho with rfl | rfl | rfl | rfl | rfl | rfl | rfl | rfl | rfl | rfl | rfl | rfl | rfl | rfl <;> (show (_ : Option SS) = _; kernel_rfl)
  rw [e1, if_neg (len_nlt2 T a b), opd_b0, opd_b1]
  cases reck op a b with
  | none => rfl
  | some v =>
    show ((puts ⟨m, T ++ [a, b], c, i, o, f, t, p, e, r⟩ 2 [v]).map sNext) = _
    rw [puts_app 2 rfl (by simpa using hl)]; rfl
theorem x_getc0 (hl : T.length + 1 ≤ 1000) : sExec ⟨m, T, c, [], o, f, t, p, e, r⟩ ⟨31, k⟩ = some ⟨m, T ++ [0], c, [], o, f, t, p + 1, e, r⟩ := by
  have e1 : sExec ⟨m, T, c, [], o, f, t, p, e, r⟩ ⟨31, k⟩ = (puts ⟨m, T, c, [], o, f, t, p, e, r⟩ 0 [0]).map sNext := by kernel_rfl
  have h := puts_app (m := m) (T := T) (U := []) (l := [0]) (c := c) (i := []) (o := o) (f := f) (t := t) (p := p) (e := e) (r := r) 0 rfl (by simpa using hl)
  rw [List.append_nil] at h
  rw [e1, h]; rfl
theorem x_getc {x : Nat} {y : List Nat} (hl : T.length + 1 ≤ 1000) : sExec ⟨m, T, c, x :: y, o, f, t, p, e, r⟩ ⟨31, k⟩ = some ⟨m, T ++ [(x : Int)], c, y, o, f, t, p + 1, e, r⟩ := by
  have e1 : sExec ⟨m, T, c, x :: y, o, f, t, p, e, r⟩ ⟨31, k⟩ = (((puts ⟨m, T, c, x :: y, o, f, t, p, e, r⟩ 0 [(x : Int)])).map fun t => { t with inp := y }).map sNext := by kernel_rfl
  have h := puts_app (m := m) (T := T) (U := []) (l := [(x : Int)]) (c := c) (i := x :: y) (o := o) (f := f) (t := t) (p := p) (e := e) (r := r) 0 rfl (by simpa using hl)
  rw [List.append_nil] at h
  rw [e1, h]; rfl
theorem x_endc (hl : T.length + 1 ≤ 1000) : sExec ⟨m, T, c, i, o, f, t, p, e, r⟩ ⟨32, k⟩ = some ⟨m, T ++ [one (i.length == 0)], c, i, o, f, t, p + 1, e, r⟩ := by
  have e1 : sExec ⟨m, T, c, i, o, f, t, p, e, r⟩ ⟨32, k⟩ = (puts ⟨m, T, c, i, o, f, t, p, e, r⟩ 0 [one (i.length == 0)]).map sNext := by kernel_rfl
  have h := puts_app (m := m) (T := T) (U := []) (l := [one (i.length == 0)]) (c := c) (i := i) (o := o) (f := f) (t := t) (p := p) (e := e) (r := r) 0 rfl (by simpa using hl)
  rw [List.append_nil] at h
  rw [e1, h]; rfl
end
end Go.Proofs.Ytpnhjjihdcopnaa.M

