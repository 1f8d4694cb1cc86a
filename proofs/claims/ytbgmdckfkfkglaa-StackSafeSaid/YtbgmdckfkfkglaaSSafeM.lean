/- Code whose heights are told has just so many operands at each step. No Go program is imported. -/
import Derived.Test.YtbgmdckfkfkglaaSLaw
import Derived.Test.YtbgmdckfkfkglaaHMath
set_option linter.unusedSimpArgs false
set_option linter.unusedVariables false
namespace Go.Proofs.Ytbgmdckfkfkglaa.M
open Go.RowKit

theorem puts_len {s t : SS} {n : Nat} {l : List Int} (e : puts s n l = some t) : t.ops.length = s.ops.length - n + l.length ∧ s.ops.length - n + l.length ≤ 1000 ∧ t.pc = s.pc ∧ t.fin = s.fin := by
  unfold puts at e
  split at e
  · rename_i h
    injection e with e
    subst e
    refine ⟨?_, h, rfl, rfl⟩
    simp only [List.length_append, List.length_take]; omega
  · cases e
/-- What an instruction leaves, behind which the next one is. -/
structure Lens (s u : SS) (op : Int) : Prop where
  takes : takesV op ≤ s.ops.length
  len : u.ops.length = s.ops.length - takesV op + leavesV op
  le : u.ops.length ≤ 1000
  pc : u.pc = s.pc
  fin : u.fin = s.fin
theorem lens_of {s u : SS} {op : Int} {n m : Nat} (h1 : takesV op = n) (h2 : leavesV op = m) (hn : n ≤ s.ops.length) (e : u.ops.length = s.ops.length - n + m ∧ s.ops.length - n + m ≤ 1000 ∧ u.pc = s.pc ∧ u.fin = s.fin) : Lens s u op :=
  ⟨by rw [h1]; exact hn, by rw [h1, h2]; exact e.1, by rw [e.1]; exact e.2.1, e.2.2.1, e.2.2.2⟩
theorem two_lens {s u : SS} {c : Cod} {v : Int} (hn : ¬ s.ops.length < 2) (hr : reck c.op (opd s 1) (opd s 0) = some v) (e : puts s 2 [v] = some u) : Lens s u c.op := by
  have hop : 9 ≤ c.op ∧ c.op ≤ 24 ∧ c.op ≠ 14 ∧ c.op ≠ 18 := by
    refine Classical.byContradiction fun h => ?_
    have : reck c.op (opd s 1) (opd s 0) = none := by
      unfold reck
      rw [if_neg (by omega), if_neg (by omega), if_neg (by omega), if_neg (by omega), if_neg (by omega), if_neg (by omega), if_neg (by omega), if_neg (by omega), if_neg (by omega), if_neg (by omega), if_neg (by omega), if_neg (by omega), if_neg (by omega), if_neg (by omega)]
    rw [this] at hr
    cases hr
  obtain ⟨g1, g2, g3, g4⟩ := hop
  refine lens_of (n := 2) (m := 1) ?_ ?_ (by omega) (puts_len e)
  · unfold takesV; rw [if_neg (by omega), if_neg (by omega), if_pos ⟨g1, g2⟩]
  · unfold leavesV; rw [if_neg (by omega), if_neg (by omega), if_pos ⟨g1, g2⟩]
theorem change_lens {s u : SS} {c : Cod} (hl : s.ops.length ≤ 1000) (h : sChange s c = some u) : Lens s u c.op := by
  obtain ⟨op, k⟩ := c
  unfold sChange at h
  simp only at h ⊢
  split at h
  · rename_i g; subst g; exact lens_of (n := 0) (m := 1) (by decide) (by decide) (Nat.zero_le _) (puts_len h)
  split at h
  · rename_i g; subst g; exact lens_of (n := 0) (m := 1) (by decide) (by decide) (Nat.zero_le _) (puts_len h)
  split at h
  · rename_i g
    subst g
    unfold sEnter at h
    split at h
    · cases h
    · injection h with h
      subst h
      exact lens_of (n := 0) (m := 0) (by decide) (by decide) (Nat.zero_le _) ⟨rfl, hl, rfl, rfl⟩
  split at h
  · rename_i g
    subst g
    unfold sGetc at h
    split at h
    · exact lens_of (n := 0) (m := 1) (by decide) (by decide) (Nat.zero_le _) (puts_len h)
    · cases hp : puts s 0 [((s.inp.getD 0 0 : Nat) : Int)] with
      | none => rw [hp] at h; cases h
      | some t =>
        rw [hp] at h
        injection h with h
        subst h
        exact lens_of (n := 0) (m := 1) (by decide) (by decide) (Nat.zero_le _) (puts_len hp)
  split at h
  · rename_i g; subst g; exact lens_of (n := 0) (m := 1) (by decide) (by decide) (Nat.zero_le _) (puts_len h)
  split at h
  · rename_i g
    unfold sOne at h
    split at h
    · cases h
    rename_i h0
    have h1 : 1 ≤ s.ops.length := by omega
    split at h
    · rename_i g; subst g; exact lens_of (n := 1) (m := 0) (by decide) (by decide) h1 (puts_len h)
    split at h
    · rename_i g; subst g; exact lens_of (n := 1) (m := 2) (by decide) (by decide) h1 (puts_len h)
    split at h
    · rename_i g
      subst g
      split at h
      · exact lens_of (n := 1) (m := 1) (by decide) (by decide) h1 (puts_len h)
      · cases h
    split at h
    · rename_i g; subst g; exact lens_of (n := 1) (m := 1) (by decide) (by decide) h1 (puts_len h)
    split at h
    · rename_i g; subst g; exact lens_of (n := 1) (m := 1) (by decide) (by decide) h1 (puts_len h)
    have g33 : op = 33 := by omega
    subst g33
    have hp := puts_len h
    exact lens_of (n := 1) (m := 0) (by decide) (by decide) h1 hp
  · unfold sTwo at h
    simp only at h
    split at h
    · cases h
    rename_i h0
    have h2 : 2 ≤ s.ops.length := by omega
    split at h
    · rename_i g; subst g; exact lens_of (n := 2) (m := 2) (by decide) (by decide) h2 (puts_len h)
    split at h
    · rename_i g
      subst g
      split at h
      · have hp := puts_len h
        exact lens_of (n := 2) (m := 0) (by decide) (by decide) h2 hp
      · cases h
    split at h
    · rename_i g
      subst g
      split at h
      · have hp := puts_len h
        exact lens_of (n := 2) (m := 0) (by decide) (by decide) h2 hp
      · cases h
    cases hr : reck op (opd s 1) (opd s 0) with
    | none => rw [hr] at h; cases h
    | some v => rw [hr] at h; exact two_lens (c := ⟨op, k⟩) h0 hr h

/-- As long as it runs it is at an instruction that is reached with so many operands. -/
def Inv (L : List Cod) (s : SS) : Prop := s.fin = 0 → ∃ i : Nat, s.pc = i ∧ M.Reach L i s.ops.length
theorem inv_step {L : List Cod} {s : SS} (hL : chk L = none) (hc : ∀ c ∈ L, c.op ≠ 27 ∧ c.op ≠ 29) (hl : s.ops.length ≤ 1000) (h : Inv L s) : Inv L (sStep L s) := by
  intro hf
  by_cases h0 : s.fin = 0
  · obtain ⟨i, hpc, hr⟩ := h h0
    have hi := reach_lt hL hr
    obtain ⟨c, hcd⟩ : ∃ c, L[i]? = some c := ⟨_, List.getElem?_eq_getElem hi⟩
    have hg : L.getD i default = c := by rw [List.getD_eq_getElem?_getD, hcd]; rfl
    have hb := (of_chk hL).2 i hi
    unfold badAt at hb
    simp only [Bool.or_eq_false_iff, Bool.not_eq_false', decide_eq_true_eq] at hb
    have hR : c.Right L.length := by rw [← hg]; exact hb.1
    obtain ⟨n27, n29⟩ := hc c (List.mem_of_getElem? hcd)
    rw [sStep_at i c h0 hpc hcd hR.1] at hf ⊢
    cases hx : sExec s c with
    | none => rw [hx] at hf; exact absurd hf (by show (2 : Nat) ≠ 0; decide)
    | some t =>
      rw [hx] at hf
      have hf : t.fin = 0 := hf
      show ∃ i : Nat, t.pc = i ∧ M.Reach L i t.ops.length
      unfold sExec at hx
      by_cases ht : isTurn c.op = true
      · rw [if_pos ht] at hx
        unfold isTurn at ht
        have ht := of_decide_eq_true ht
        unfold sTurn at hx
        by_cases e0 : c.op = 0
        · rw [if_pos e0] at hx
          injection hx with hx
          subst hx
          exact absurd hf (by show (1 : Nat) ≠ 0; decide)
        rw [if_neg e0] at hx
        by_cases e30 : c.op = 30
        · rw [if_pos e30] at hx
          split at hx
          · cases hx
          · rename_i hk
            injection hx with hx
            subst hx
            have : (sEnded s c.k.toNat).fin = 2 := by unfold sEnded; simp only; rw [if_neg (by omega)]
            rw [this] at hf; cases hf
        rw [if_neg e30] at hx
        by_cases e25 : c.op = 25
        · rw [if_pos e25] at hx
          injection hx with hx
          subst hx
          have hk := hR.2.1 (Or.inl e25)
          refine ⟨c.k.toNat, by show c.k = _; omega, ?_⟩
          have t0 : takesV (L.getD i default).op = 0 := by rw [hg, e25]; decide
          have l0 : leavesV (L.getD i default).op = 0 := by rw [hg, e25]; decide
          have := Reach.next (j := c.k.toNat) hr hi (by rw [t0]; exact Nat.zero_le _) (by rw [t0, l0]; omega) (by unfold waysV; rw [hg, e25]; simp)
          rw [t0, l0] at this
          exact this
        rw [if_neg e25] at hx
        by_cases e26 : c.op = 26
        · rw [if_pos e26] at hx
          split at hx
          · cases hx
          · rename_i hn
            injection hx with hx
            subst hx
            have hk := hR.2.1 (Or.inr (Or.inl e26))
            have t0 : takesV (L.getD i default).op = 1 := by rw [hg, e26]; decide
            have l0 : leavesV (L.getD i default).op = 0 := by rw [hg, e26]; decide
            have hlen : (s.ops.take (s.ops.length - 1)).length = s.ops.length - 1 + 0 := by rw [List.length_take]; omega
            have hw : waysV L i = [i + 1, c.k.toNat] := by unfold waysV; rw [hg, e26]; simp [goesOn]
            have R := fun j hj => Reach.next (j := j) hr hi (by rw [t0]; omega) (by rw [t0, l0]; omega) hj
            rw [t0, l0, hw] at R
            by_cases ho : opd s 0 = 0
            · refine ⟨c.k.toNat, by show (if opd s 0 = 0 then c.k else s.pc + 1) = _; rw [if_pos ho]; omega, ?_⟩
              show M.Reach L _ (s.ops.take (s.ops.length - 1)).length
              rw [hlen]
              exact R _ (by simp)
            · refine ⟨i + 1, by show (if opd s 0 = 0 then c.k else s.pc + 1) = _; rw [if_neg ho, hpc]; omega, ?_⟩
              show M.Reach L _ (s.ops.take (s.ops.length - 1)).length
              rw [hlen]
              exact R _ (by simp)
        omega
      · rw [if_neg ht] at hx
        cases hy : sChange s c with
        | none => rw [hy] at hx; cases hx
        | some u =>
          rw [hy] at hx
          injection hx with hx
          subst hx
          have hlz := change_lens hl hy
          have hgo : goesOn c.op = true := by
            unfold goesOn
            unfold isTurn at ht
            simp only [decide_eq_true_eq] at ht
            simp only [Bool.not_eq_true', decide_eq_false_iff_not]
            omega
          refine ⟨i + 1, by show u.pc + 1 = _; rw [hlz.pc, hpc]; omega, ?_⟩
          have := Reach.next (j := i + 1) hr hi (by rw [hg]; exact hlz.takes) (by rw [hg, ← hlz.len]; exact hlz.le) (by unfold waysV; rw [hg, hgo]; simp)
          rw [hg, ← hlz.len] at this
          exact this
  · rw [sStep_fin _ _ h0] at hf
    exact absurd hf h0
/-- What is told of the instruction it is at. -/
theorem inv_told {L : List Cod} {H : List Int} {s : SS} (hH : Hgts L true H) (h : Inv L s) (hf : s.fin = 0) : ∃ i : Nat, s.pc = i ∧ i < L.length ∧ H.length = L.length ∧ H.getD i 0 = (s.ops.length : Int) := by
  rcases hH with ⟨h1, _⟩ | ⟨_, h1, h2, h3, h4⟩
  · cases h1
  obtain ⟨i, hp, hr⟩ := h hf
  have hi := reach_lt h1 hr
  refine ⟨i, hp, hi, h3, ?_⟩
  rcases h4 i hi with ⟨_, h5⟩ | ⟨k, h5, h6⟩
  · exact absurd hr (h5 _)
  · have : k = s.ops.length := Classical.byContradiction fun hne => h2 (Or.inr ⟨i, k, _, h6, hr, hne⟩)
    rw [h5, this]
end Go.Proofs.Ytbgmdckfkfkglaa.M
