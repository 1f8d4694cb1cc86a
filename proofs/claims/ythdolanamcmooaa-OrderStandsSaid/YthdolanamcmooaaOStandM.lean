/- Modules that need but those ahead of them: their order is as they stand. No Go program is imported. -/
import Derived.Test.YthdolanamcmooaaOMadeM
import Derived.Test.YthdolanamcmooaaNum
set_option linter.unusedSimpArgs false
set_option linter.unusedVariables false
namespace Go.Proofs.Ythdolanamcmooaa
open Go.RowKit M

/-- The numbers below k. -/
def uptoI : Nat → List Int
  | 0 => []
  | k + 1 => uptoI k ++ [(k : Int)]
theorem uptoI_len (k : Nat) : (uptoI k).length = k := by
  induction k with
  | zero => rfl
  | succ k ih => simp [uptoI, ih]
theorem uptoI_at : ∀ (k i : Nat), i < k → (uptoI k)[i]? = some (i : Int)
  | 0, i, h => by omega
  | k + 1, i, h => by
    have hl := uptoI_len k
    unfold uptoI
    by_cases e : i = k
    · subst e
      rw [List.getElem?_append_right (by omega), hl]; simp
    · rw [List.getElem?_append_left (by omega)]
      exact uptoI_at k i (by omega)
/-- k of n are done. -/
def DoneTo (n k : Nat) (st : List Int) : Prop := st.length = n ∧ (∀ i, i < k → st.getD i 0 = 2) ∧ ∀ i, k ≤ i → st.getD i 0 = 0
theorem visit_done (N : Nat → List Nat) (f : Nat) (st out : List Int) (i : Nat) (h : st.getD i 0 = 2) : visitF N (f + 1) st out i = (true, st, out) := by
  unfold visitF
  rw [if_pos (by rw [h]; decide), h]; rfl
theorem run_done (N : Nat → List Nat) (f : Nat) (st out : List Int) : ∀ (js : List Nat), (∀ j ∈ js, st.getD j 0 = 2) → runAll (visitF N (f + 1)) js st out = (true, st, out)
  | [], _ => rfl
  | j :: js, h => by
    rw [runAll_cons_true (visit_done N f st out j (h j (by simp)))]
    exact run_done N f st out js fun k hk => h k (by simp [hk])
theorem getD_set (st : List Int) (i j : Nat) (x : Int) (hi : i < st.length) : (st.set i x).getD j 0 = if i = j then x else st.getD j 0 := by
  simp only [List.getD_eq_getElem?_getD, List.getElem?_set]
  split
  · simp [hi]
  · rfl
theorem visit_next (N : Nat → List Nat) (n f k : Nat) (st : List Int) (hN : ∀ j ∈ N k, j < k) (hd : DoneTo n k st) (hk : k < n) : ∃ st', visitF N (f + 2) st (uptoI k) k = (true, st', uptoI (k + 1)) ∧ DoneTo n (k + 1) st' := by
  obtain ⟨h1, h2, h3⟩ := hd
  refine ⟨(st.set k 1).set k 2, ?_, by simp [h1], fun i hi => ?_, fun i hi => ?_⟩
  · unfold visitF
    rw [if_neg (by rw [h3 k (Nat.le_refl k)]; decide)]
    rw [run_done N f (st.set k 1) (uptoI k) (N k) (fun j hj => by
      have := hN j hj
      rw [getD_set st k j 1 (by omega), if_neg (by omega)]
      exact h2 j this)]
    rfl
  · rw [getD_set _ k i 2 (by simp; omega)]
    split
    · rfl
    · rw [getD_set _ k i 1 (by omega), if_neg (by omega)]
      exact h2 i (by omega)
  · rw [getD_set _ k i 2 (by simp; omega), if_neg (by omega), getD_set _ k i 1 (by omega), if_neg (by omega)]
    exact h3 i (by omega)
theorem run_upto (N : Nat → List Nat) (n f : Nat) (hN : ∀ i, i < n → ∀ j ∈ N i, j < i) : ∀ (m k : Nat) (st : List Int), k + m = n → DoneTo n k st → ∃ st', runAll (visitF N (f + 2)) (List.range' k m) st (uptoI k) = (true, st', uptoI n)
  | 0, k, st, h, hd => by
    have : k = n := by omega
    subst this
    exact ⟨st, rfl⟩
  | m + 1, k, st, h, hd => by
    obtain ⟨st', e, hd'⟩ := visit_next N n f k st (hN k (by omega)) hd (by omega)
    obtain ⟨st2, e2⟩ := run_upto N n f hN m (k + 1) st' (by omega) hd'
    refine ⟨st2, ?_⟩
    rw [List.range'_succ, runAll_cons_true e]
    exact e2
theorem all_upto (L : List Md) (hN : ∀ i, i < L.length → ∀ j ∈ needI L i, j < i) : (allF L).1 = true ∧ (allF L).2.2 = uptoI L.length := by
  unfold allF
  rcases hn : L.length with _ | n
  · exact ⟨rfl, rfl⟩
  · obtain ⟨st', e⟩ := run_upto (needI L) (n + 1) n (fun i hi => hN i (by omega)) (n + 1) 0 (List.replicate (n + 1) 0) (by omega) ⟨by simp, fun i hi => by omega, fun i _ => by
      simp only [List.getD_eq_getElem?_getD, List.getElem?_replicate]
      split <;> rfl⟩
    have e' : runAll (visitF (needI L) (n + 1 + 1)) (List.range' 0 (n + 1)) (List.replicate (n + 1) 0) [] = (true, st', uptoI (n + 1)) := e
    rw [List.range_eq_range', e']
    exact ⟨rfl, rfl⟩
theorem ord_upto (L : List Md) (l : List Int) (e : Int) (h16 : L.length ≤ 16) (h1 : ¬ twice L) (h2 : ¬ missing L) (hN : ∀ i, i < L.length → ∀ j ∈ needI L i, j < i) (h : OrdR L l e) : l = uptoI L.length ∧ e = 0 := by
  obtain ⟨a, b⟩ := all_upto L hN
  exact OrdR.unique h (Or.inr (Or.inr (Or.inr (Or.inr ⟨h16, h1, h2, a, b.symm, rfl⟩))))

theorem txM_inj {i j : Nat} (hi : i < 100) (hj : j < 100) (h : txM i = txM j) : i = j := by
  unfold txM at h
  injection h with h
  have h := congrArg (fun a => (a[1]?.getD 0).toNat) h
  simp at h
  omega
theorem txM_text (k : Nat) : isText (txM k) = false := by
  unfold isText
  have h1 : txM k ≠ inB := fun h => by
    unfold txM inB at h
    injection h with h
    have h := congrArg (fun a => (a[0]?.getD 0).toNat) h
    simp at h
  have h2 : txM k ≠ outB := fun h => by
    unfold txM outB at h
    injection h with h
    have h := congrArg (fun a => a.size) h
    simp at h
  simp [h1, h2]
theorem posB_names (L : List Md) (n : Nat) (hn : L.length = n) (hn16 : n ≤ 16) (hL : ∀ i, i < n → nameOf L i = txM i) (i : Nat) (hi : i < n) : posB (names L) (txM i) = i := by
  have at_ : ∀ j, j < n → (names L)[j]? = some (txM j) := fun j hj => by
    have h := hL j hj
    unfold nameOf at h
    unfold names
    rw [List.getElem?_map, List.getElem?_eq_getElem (by omega)]
    rw [List.getD_eq_getElem?_getD, List.getElem?_eq_getElem (by omega)] at h
    simpa using h
  have h2 := posB_ne (names L) (txM i)
  have hle : posB (names L) (txM i) ≤ i := by
    by_cases h3 : posB (names L) (txM i) ≤ i
    · exact h3
    · exact absurd (at_ i hi) (h2 i (by omega))
  have hlt : posB (names L) (txM i) < (names L).length := by rw [names_len]; omega
  have h4 := posB_at (names L) (txM i) hlt
  rw [at_ _ (by omega)] at h4
  injection h4 with h4
  exact txM_inj (by omega) (by omega) h4
/-- Masks whose bits are but of lower numbers. -/
def Lower (zs : List Nat) : Prop := ∀ i, zs.getD i 0 < 2 ^ i
theorem bit_low {z i j : Nat} (h : z < 2 ^ i) (hb : z / 2 ^ j % 2 = 1) : j < i := by
  by_cases g : j < i
  · exact g
  · have h1 : 2 ^ i ≤ 2 ^ j := Nat.pow_le_pow_right (by omega) (by omega)
    rw [Nat.div_eq_of_lt (by omega)] at hb
    omega
theorem outI_low {z i : Nat} (h : z < 2 ^ i) (hi : i ≤ 16) : outI z = [] := by
  unfold outI
  have h1 : 2 ^ i ≤ 2 ^ 16 := Nat.pow_le_pow_right (by omega) hi
  rw [if_neg (by rw [Nat.div_eq_of_lt (by omega)]; omega)]
theorem needs_low (n : Nat) (zs : List Nat) (hz : Lower zs) (i : Nat) (hi : i < 16) : ∀ s ∈ needsM (madeM false n (zs.getD i 0) i).2, ∃ j, j < i ∧ s = txM j := fun s hs => by
  unfold needsM at hs
  have h1 := (List.mem_filter.1 hs).1
  change s ∈ outI (zs.getD i 0) ++ bitsI (zs.getD i 0) (min (n + 1) 20) at h1
  rw [outI_low (hz i) (by omega), List.nil_append] at h1
  obtain ⟨j, _, e, hb⟩ := bitsI_mem _ _ _ h1
  exact ⟨j, bit_low (hz i) hb, e⟩
theorem made_names (n : Nat) (zs : List Nat) (i : Nat) (hi : i < n) : nameOf (madeK false n zs n) i = txM i := by
  unfold nameOf
  rw [List.getD_eq_getElem?_getD, madeK_at false n zs n i hi]
  rfl
theorem made_imps (n : Nat) (zs : List Nat) (i : Nat) (hi : i < n) : impsOf (madeK false n zs n) i = (madeM false n (zs.getD i 0) i).2 := by
  unfold impsOf
  rw [List.getD_eq_getElem?_getD, madeK_at false n zs n i hi]
  rfl
theorem made_upto (n : Nat) (zs : List Nat) (hn : n ≤ 16) (hz : Lower zs) (l : List Int) (e : Int) (h : OrdR (madeK false n zs n) l e) : l = uptoI n ∧ e = 0 := by
  have hl := madeK_len false n zs n
  have hp := posB_names (madeK false n zs n) n hl hn (made_names n zs)
  have h1 := ord_upto (madeK false n zs n) l e (by omega) (by
    rintro ⟨i, hi, hne⟩
    rw [made_names n zs i (by omega)] at hne
    exact hne (hp i (by omega))) (by
    rintro ⟨i, hi, s, hs, hne⟩
    rw [made_imps n zs i (by omega)] at hs
    obtain ⟨j, hj, rfl⟩ := needs_low n zs hz i (by omega) s hs
    rw [hp j (by omega), hl] at hne
    omega) (fun i hi j hj => by
    unfold needI at hj
    rw [made_imps n zs i (by omega)] at hj
    obtain ⟨s, hs, rfl⟩ := List.mem_map.1 hj
    obtain ⟨q, hq, rfl⟩ := needs_low n zs hz i (by omega) s hs
    rw [hp q (by omega)]
    exact hq) h
  rw [hl] at h1
  exact h1
theorem and_low (x k : Nat) (hx : x < 4294967296) (hk : k < 32) : bits BinOp.and IntKind.u32 (x : Int) ((2 ^ k - 1) % 4294967296) = ((x % 2 ^ k : Nat) : Int) := by
  have h1 : 2 ^ k < 4294967296 := by
    have := Nat.pow_lt_pow_right (a := 2) (by omega) hk; simpa using this
  have h0 : 0 < 2 ^ k := Nat.two_pow_pos k
  have h2 : ((2 : Int) ^ k - 1) % 4294967296 = ((2 ^ k - 1 : Nat) : Int) := by
    rw [pow_cast]
    omega
  rw [h2, bits_and_nat .u32 rfl _ _ hx (by show _ < 4294967296; omega), Nat.and_two_pow_sub_one_eq_mod]
end Go.Proofs.Ythdolanamcmooaa
