/- Blanks and comments between symbols, as mathematics (no Go): the symbols of a text whose symbols stand with other gaps between. -/
import Derived.Test.YtbpdhpfcknaaiaaDoorZMath
import Derived.Test.YtbpdhpfcknaaiaaDoorZTells
set_option linter.unusedSimpArgs false
set_option linter.unusedVariables false
namespace Go.Proofs.YtbpdhpfcknaaiaaDoor

def gapc (c : Nat) : Prop := c = 32 ∨ c = 10 ∨ c = 9 ∨ c = 40
theorem upto_is (p : Nat → Bool) (j e : Nat) : ∀ (d k : Nat), d = e - j → j ≤ e → (∀ i, j ≤ i → i < e → p i = true) → (e < j + k → p e = false) → e ≤ j + k → upto p k j = e := by
  intro d
  induction d generalizing j with
  | zero =>
    intro k hd hj hp hs he
    have : j = e := by omega
    subst this
    cases k with
    | zero => rfl
    | succ k => rw [upto, if_neg (by rw [hs (by omega)]; decide)]
  | succ d ih =>
    intro k hd hj hp hs he
    cases k with
    | zero => omega
    | succ k =>
      rw [upto, if_pos (hp j (Nat.le_refl _) (by omega))]
      exact ih (j + 1) k (by omega) (by omega) (fun i h1 h2 => hp i (by omega) h2) (fun h => hs (by omega)) (by omega)
theorem valS_same (t u : Txt) (b i j : Nat) : ∀ k, (∀ m, m < k → t.g (i + m) = u.g (j + m)) → valS t b i k = valS u b j k
  | 0, _ => rfl
  | k + 1, h => by rw [valS, valS, valS_same t u b i j k (fun m hm => h m (by omega)), h k (by omega)]
theorem plainS_same (t u : Txt) (i j : Nat) : ∀ k, (∀ m, m < k → t.g (i + m) = u.g (j + m)) → plainS t i k = plainS u j k
  | 0, _ => rfl
  | k + 1, h => by rw [plainS, plainS, plainS_same t u i j k (fun m hm => h m (by omega)), h k (by omega)]
/-- A symbol at another place. -/
def Tk.at (x : Tk) (q : Nat) : Tk := ⟨x.kind, q, q + (x.fin - x.pos), q + (x.a - x.pos), q + (x.b - x.pos), x.num⟩
theorem gap_wor {c : Nat} (h : gapc c) : worB c = false := by rcases h with rfl | rfl | rfl | rfl <;> decide
theorem gap_hex {c : Nat} (h : gapc c) : hexB c = false := by rcases h with rfl | rfl | rfl | rfl <;> decide
theorem gap_two {c d : Nat} (h : gapc d) : twoB c d = false := by rcases h with rfl | rfl | rfl | rfl <;> simp [twoB]
theorem upto_run (p : Nat → Bool) : ∀ (k j i : Nat), j ≤ i → i < upto p k j → p i = true := upto_in p
/-- The symbol at q is the symbol at i: the same bytes, and behind them a gap, or nothing. -/
theorem symS_at (X T : Txt) (i q : Nat) (hi : i < X.n) (x : Tk) (h : symS X i = .ok x) (hb : ∀ j, j < x.fin - i → T.g (q + j) = X.g (i + j)) (hn : q + (x.fin - i) ≤ T.n) (he : q + (x.fin - i) < T.n → gapc (T.g (q + (x.fin - i)))) :
    symS T q = .ok (x.at q) := by
  have hk := symS_ok X i hi x h
  have g0 : T.g q = X.g i := hb 0 (by omega)
  unfold symS at h ⊢
  rw [g0]
  by_cases c1 : letB (X.g i) = true
  · rw [if_pos c1] at h ⊢
    unfold namS at h
    split at h
    · cases h
    · rename_i hs
      injection h with h
      have hf : x.fin = worEnd X i := by rw [← h]
      rw [hf] at hb hn he hk
      have e : worEnd T q = q + (worEnd X i - i) := by
        obtain ⟨j, hj⟩ : ∃ j, worEnd X i = j := ⟨_, rfl⟩
        rw [hj] at hb hn he hk ⊢
        unfold worEnd
        refine upto_is _ _ _ _ _ rfl (by omega) (fun m h1 h2 => ?_) (fun h2 => gap_wor (he (by omega))) (by omega)
        have := hb (m - q) (by omega)
        rw [show q + (m - q) = m by omega] at this
        show worB (T.g m) = true
        rw [this]
        exact upto_run (fun j => worB (X.g j)) (X.n - i) i _ (by omega) (by unfold worEnd at hj; rw [hj]; omega)
      unfold namS
      rw [e, if_neg (by omega)]
      show Except.ok _ = Except.ok _
      congr 1
      rw [← h]
      unfold Tk.at
      simp only [Nat.sub_self, Nat.add_zero]
  · rw [if_neg c1] at h ⊢
    by_cases c2 : digB (X.g i) = true
    · rw [if_pos c2] at h ⊢
      have hp := hexEnd_pos X i hi c2
      have hl := hexEnd_le X i (by omega)
      obtain ⟨j, hj⟩ : ∃ j, hexEnd X i = j := ⟨_, rfl⟩
      have hrun : ∀ m, i ≤ m → m < j → hexB (X.g m) = true := fun m h1 h2 => upto_run (fun j => hexB (X.g j)) _ _ _ h1 (by unfold hexEnd at hj; rw [hj]; exact h2)
      have hjn : j < X.n → hexB (X.g j) = false := fun h2 => by
        have := upto_out (fun j => hexB (X.g j)) (X.n - i) i (by unfold hexEnd at hj; rw [hj]; omega)
        unfold hexEnd at hj
        rw [hj] at this
        exact this
      unfold numS at h ⊢
      simp only [hj] at h
      rw [hj] at hp hl
      -- where the run of digits ends in the other text
      have key : j ≤ x.fin → (x.fin = j ∨ (x.fin = j + 1 ∧ hexB (X.g j) = false)) → hexEnd T q = q + (j - i) := fun h1 h2 => by
        unfold hexEnd
        refine upto_is _ _ _ _ _ rfl (by omega) (fun m h3 h4 => ?_) (fun h3 => ?_) (by omega)
        · have := hb (m - q) (by omega)
          rw [show q + (m - q) = m by omega] at this
          show hexB (T.g m) = true
          rw [this]
          exact hrun _ (by omega) (by omega)
        · show hexB (T.g (q + (j - i))) = false
          rcases h2 with h2 | ⟨h2, h5⟩
          · rw [h2] at he
            exact gap_hex (he (by omega))
          · rw [hb (j - i) (by omega), show i + (j - i) = j by omega]
            exact h5
      have vs : ∀ b, j ≤ x.fin → valS T b q (j - i) = valS X b i (j - i) := fun b h1 => valS_same T X b q i (j - i) (fun m hm => hb m (by omega))
      have ps : j ≤ x.fin → plainS T q (j - i) = plainS X i (j - i) := fun h1 => plainS_same T X q i (j - i) (fun m hm => hb m (by omega))
      split at h
      · rename_i h3
        split at h
        · rename_i h4
          injection h with h
          have hf : x.fin = j + 1 := by rw [← h]
          have e := key (by omega) (Or.inr ⟨hf, by rw [h3.2]; decide⟩)
          have gj : T.g (q + (j - i)) = 72 := by rw [hb (j - i) (by omega), show i + (j - i) = j by omega]; exact h3.2
          simp only [e, show q + (j - i) - q = j - i by omega, vs 16 (by omega)]
          rw [if_pos ⟨by omega, gj⟩, if_pos h4]
          show Except.ok _ = Except.ok _
          congr 1
          rw [← h]
          unfold Tk.at
          simp only [Nat.sub_self, Nat.add_zero, Tk.mk.injEq, true_and, and_true]
          omega
        · cases h
      · rename_i h3
        split at h
        · rename_i h5
          split at h
          · rename_i h4
            injection h with h
            have hf : x.fin = j + 1 := by rw [← h]
            have e := key (by omega) (Or.inr ⟨hf, by rw [h5.2]; decide⟩)
            have gj : T.g (q + (j - i)) = 88 := by rw [hb (j - i) (by omega), show i + (j - i) = j by omega]; exact h5.2
            simp only [e, show q + (j - i) - q = j - i by omega, vs 16 (by omega)]
            rw [if_neg (by rw [gj]; omega), if_pos ⟨by omega, gj⟩, if_pos h4]
            show Except.ok _ = Except.ok _
            congr 1
            rw [← h]
            unfold Tk.at
            simp only [Nat.sub_self, Nat.add_zero, Tk.mk.injEq, true_and, and_true]
            omega
          · cases h
        · rename_i h5
          split at h
          · rename_i h4
            injection h with h
            have hf : x.fin = j := by rw [← h]
            have e := key (by omega) (Or.inl hf)
            rw [hf] at he
            have gn : ∀ c, c = 72 ∨ c = 88 → ¬ (q + (j - i) < T.n ∧ T.g (q + (j - i)) = c) := fun c hc ⟨h6, h7⟩ => by
              have h8 := he (by omega)
              rw [h7] at h8
              rcases hc with rfl | rfl <;> rcases h8 with h8 | h8 | h8 | h8 <;> omega
            simp only [e, show q + (j - i) - q = j - i by omega, vs 10 (by omega), ps (by omega)]
            rw [if_neg (gn 72 (Or.inl rfl)), if_neg (gn 88 (Or.inr rfl)), if_pos h4]
            show Except.ok _ = Except.ok _
            congr 1
            rw [← h]
            unfold Tk.at
            simp only [Nat.sub_self, Nat.add_zero]
          · cases h
    · rw [if_neg c2] at h ⊢
      by_cases c3 : X.g i = 34
      · rw [if_pos c3] at h ⊢
        unfold quoS at h ⊢
        obtain ⟨j, hj⟩ : ∃ j, strEnd X (i + 1) = j := ⟨_, rfl⟩
        have hj1 : i + 1 ≤ j := by rw [← hj]; exact upto_ge _ _ _
        simp only [hj] at h
        split at h
        · cases h
        · rename_i h3
          split at h
          · cases h
          · rename_i h4
            injection h with h
            have hf : x.fin = j + 1 := by rw [← h]
            have hr : ∀ m, i + 1 ≤ m → m < j → strB (X.g m) = true := fun m h1 h2 => upto_run (fun j => strB (X.g j)) _ _ _ h1 (by unfold strEnd at hj; rw [hj]; exact h2)
            have h5 : ¬ X.n ≤ j := fun h => h3 (Or.inl h)
            have h6 : X.g j = 34 := Decidable.byContradiction fun h => h3 (Or.inr h)
            have gj : T.g (q + (j - i)) = 34 := by rw [hb (j - i) (by omega), show i + (j - i) = j by omega]; exact h6
            have e : strEnd T (q + 1) = q + (j - i) := by
              unfold strEnd
              refine upto_is _ _ _ _ _ rfl (by omega) (fun m h7 h8 => ?_) (fun h7 => ?_) (by omega)
              · have := hb (m - q) (by omega)
                rw [show q + (m - q) = m by omega] at this
                show strB (T.g m) = true
                rw [this]
                exact hr _ (by omega) (by omega)
              · show strB (T.g (q + (j - i))) = false
                rw [gj]; decide
            simp only [e]
            rw [if_neg (by rw [gj]; omega), if_neg (by omega)]
            show Except.ok _ = Except.ok _
            congr 1
            rw [← h]
            unfold Tk.at
            simp only [Tk.mk.injEq, true_and, and_true]
            omega
      · rw [if_neg c3] at h ⊢
        unfold sigS at h ⊢
        rw [g0]
        split at h
        · rename_i h3
          injection h with h
          have hf : x.fin = i + 2 := by rw [← h]
          have g1 : T.g (q + 1) = X.g (i + 1) := hb 1 (by omega)
          rw [if_pos ⟨by omega, by rw [g1]; exact h3.2⟩]
          show Except.ok _ = Except.ok _
          congr 1
          rw [← h]
          unfold Tk.at
          simp only [Nat.sub_self, Nat.add_zero, Tk.mk.injEq, true_and, and_true]
          omega
        · rename_i h3
          split at h
          · rename_i h4
            injection h with h
            have hf : x.fin = i + 1 := by rw [← h]
            rw [hf, show q + (i + 1 - i) = q + 1 by omega] at he
            rw [if_neg (fun h5 => by rw [gap_two (he h5.1)] at h5; exact absurd h5.2 (by decide)), if_pos h4]
            show Except.ok _ = Except.ok _
            congr 1
            rw [← h]
            unfold Tk.at
            simp only [Nat.sub_self, Nat.add_zero, Tk.mk.injEq, true_and, and_true]
            omega
          · cases h
theorem skipS_stop (t : Txt) : ∀ k i, t.n ≤ i + k → (skipS t k i).2 = true → (skipS t k i).1 < t.n → blaB (t.g (skipS t k i).1) = false ∧ ¬ ((skipS t k i).1 + 1 < t.n ∧ t.g (skipS t k i).1 = 40 ∧ t.g ((skipS t k i).1 + 1) = 42)
  | 0, i, hk, h, h2 => by simp only [skipS] at h2; omega
  | k + 1, i, hk, h, h2 => by
    rw [skipS] at h h2 ⊢
    by_cases c1 : t.n ≤ i
    · rw [if_pos c1] at h h2 ⊢; simp only at h2; omega
    · rw [if_neg c1] at h h2 ⊢
      by_cases c2 : blaB (t.g i) = true
      · rw [if_pos c2] at h h2 ⊢; exact skipS_stop t k (i + 1) (by omega) h h2
      · rw [if_neg c2] at h h2 ⊢
        by_cases c3 : i + 1 < t.n ∧ t.g i = 40 ∧ t.g (i + 1) = 42
        · rw [if_pos c3] at h h2 ⊢
          cases hc : comE t 1 (i + 2) with
          | none => rw [hc] at h; simp at h
          | some j =>
            rw [hc] at h h2
            have := comE_gt t _ _ _ hc
            exact skipS_stop t k j (by omega) h h2
        · rw [if_neg c3] at h h2 ⊢
          exact ⟨by simpa using c2, c3⟩
theorem skipE_stop (t : Txt) (i : Nat) (h : (skipE t i).2 = true) (h2 : (skipE t i).1 < t.n) : blaB (t.g (skipE t i).1) = false ∧ ¬ ((skipE t i).1 + 1 < t.n ∧ t.g (skipE t i).1 = 40 ∧ t.g ((skipE t i).1 + 1) = 42) :=
  skipS_stop t _ i (by omega) h h2
theorem com_open {t : Txt} {d i : Nat} (h : i + 1 < t.n) (h1 : t.g i = 40) (h2 : t.g (i + 1) = 42) : comE t d i = comE t (d + 1) (i + 2) := by
  rw [comE_eq, if_neg (by omega), if_pos ⟨h1, h2⟩]
theorem com_shut {t : Txt} {d i : Nat} (h : i + 1 < t.n) (h1 : t.g i = 42) (h2 : t.g (i + 1) = 41) (hd : d ≠ 1) : comE t d i = comE t (d - 1) (i + 2) := by
  rw [comE_eq, if_neg (by omega), if_neg (by omega), if_pos ⟨h1, h2⟩, if_neg hd]
theorem com_last {t : Txt} {i : Nat} (h : i + 1 < t.n) (h1 : t.g i = 42) (h2 : t.g (i + 1) = 41) : comE t 1 i = some (i + 2) := by
  rw [comE_eq, if_neg (by omega), if_neg (by omega), if_pos ⟨h1, h2⟩, if_pos rfl]
theorem com_on {t : Txt} {d i : Nat} (h : i + 1 < t.n) (h1 : t.g i ≠ 40) (h2 : t.g i ≠ 42) : comE t d i = comE t d (i + 1) := by
  rw [comE_eq, if_neg (by omega), if_neg (fun h => h1 h.1), if_neg (fun h => h2 h.1)]
theorem skip_on {t : Txt} {i : Nat} (h : i < t.n) (h1 : blaB (t.g i) = true) : skipE t i = skipE t (i + 1) := by
  rw [skipE_eq, if_neg (by omega), if_pos h1]
theorem skip_com {t : Txt} {i j : Nat} (h : i + 1 < t.n) (h1 : t.g i = 40) (h2 : t.g (i + 1) = 42) (hc : comE t 1 (i + 2) = some j) : skipE t i = skipE t j := by
  rw [skipE_eq, if_neg (by omega), if_neg (by rw [h1]; decide), if_pos ⟨h, h1, h2⟩, hc]
theorem skip_here {t : Txt} {i : Nat} (h : i < t.n) (h1 : blaB (t.g i) = false) (h2 : ¬ (i + 1 < t.n ∧ t.g i = 40 ∧ t.g (i + 1) = 42)) : skipE t i = (i, true) := by
  rw [skipE_eq, if_neg (by omega), if_neg (by rw [h1]; decide), if_neg h2]
/-- The gaps. -/
def gapL : List (List Nat) := [[32], [10], [9, 32], [32, 40, 42, 32, 97, 32, 40, 42, 32, 98, 32, 42, 41, 32, 99, 32, 42, 41, 32], [40, 42, 42, 41], [32, 13, 10]]
def gapN (g : Nat) : Nat := ((gapL[g]?).getD []).length
def gapB (g j : Nat) : Nat := (((gapL[g]?).getD [])[j]?).getD 0
theorem gapN_pos (g : Nat) (h : g < 6) : 0 < gapN g ∧ gapN g ≤ 19 ∧ gapc (gapB g 0) := by
  rcases (by omega : g = 0 ∨ g = 1 ∨ g = 2 ∨ g = 3 ∨ g = 4 ∨ g = 5) with rfl | rfl | rfl | rfl | rfl | rfl
  all_goals refine ⟨by decide, by decide, ?_⟩
  · exact Or.inl rfl
  · exact Or.inr (Or.inl rfl)
  · exact Or.inr (Or.inr (Or.inl rfl))
  · exact Or.inl rfl
  · exact Or.inr (Or.inr (Or.inr rfl))
  · exact Or.inl rfl
theorem gap_0 (T : Txt) (p : Nat) (hb : ∀ j, j < gapN 0 → T.g (p + j) = gapB 0 j) (hn : p + gapN 0 < T.n) (h1 : blaB (T.g (p + gapN 0)) = false) (h2 : ¬ (p + gapN 0 + 1 < T.n ∧ T.g (p + gapN 0) = 40 ∧ T.g (p + gapN 0 + 1) = 42)) : skipE T p = (p + gapN 0, true) := by
  have hn : p + 1 < T.n := hn
  have h1 : blaB (T.g (p + 1)) = false := h1
  have g0 : T.g (p + 0) = 32 := hb 0 (by decide)
  rw [Nat.add_zero] at g0
  rw [skip_on (i := p) (by omega) (by rw [g0]; decide)]
  exact skip_here (i := p + 1) hn h1 h2
theorem gap_1 (T : Txt) (p : Nat) (hb : ∀ j, j < gapN 1 → T.g (p + j) = gapB 1 j) (hn : p + gapN 1 < T.n) (h1 : blaB (T.g (p + gapN 1)) = false) (h2 : ¬ (p + gapN 1 + 1 < T.n ∧ T.g (p + gapN 1) = 40 ∧ T.g (p + gapN 1 + 1) = 42)) : skipE T p = (p + gapN 1, true) := by
  have hn : p + 1 < T.n := hn
  have h1 : blaB (T.g (p + 1)) = false := h1
  have g0 : T.g (p + 0) = 10 := hb 0 (by decide)
  rw [Nat.add_zero] at g0
  rw [skip_on (i := p) (by omega) (by rw [g0]; decide)]
  exact skip_here (i := p + 1) hn h1 h2
theorem gap_2 (T : Txt) (p : Nat) (hb : ∀ j, j < gapN 2 → T.g (p + j) = gapB 2 j) (hn : p + gapN 2 < T.n) (h1 : blaB (T.g (p + gapN 2)) = false) (h2 : ¬ (p + gapN 2 + 1 < T.n ∧ T.g (p + gapN 2) = 40 ∧ T.g (p + gapN 2 + 1) = 42)) : skipE T p = (p + gapN 2, true) := by
  have hn : p + 2 < T.n := hn
  have h1 : blaB (T.g (p + 2)) = false := h1
  have g0 : T.g (p + 0) = 9 := hb 0 (by decide)
  have g1 : T.g (p + 1) = 32 := hb 1 (by decide)
  rw [Nat.add_zero] at g0
  rw [skip_on (i := p) (by omega) (by rw [g0]; decide)]
  rw [skip_on (i := (p + 1)) (by omega) (by rw [g1]; decide)]
  rw [show p + 1 + 1 = p + 2 from rfl]
  exact skip_here (i := p + 2) hn h1 h2
theorem gap_3 (T : Txt) (p : Nat) (hb : ∀ j, j < gapN 3 → T.g (p + j) = gapB 3 j) (hn : p + gapN 3 < T.n) (h1 : blaB (T.g (p + gapN 3)) = false) (h2 : ¬ (p + gapN 3 + 1 < T.n ∧ T.g (p + gapN 3) = 40 ∧ T.g (p + gapN 3 + 1) = 42)) : skipE T p = (p + gapN 3, true) := by
  have hn : p + 19 < T.n := hn
  have h1 : blaB (T.g (p + 19)) = false := h1
  have g0 : T.g (p + 0) = 32 := hb 0 (by decide)
  have g1 : T.g (p + 1) = 40 := hb 1 (by decide)
  have g2 : T.g (p + 2) = 42 := hb 2 (by decide)
  have g3 : T.g (p + 3) = 32 := hb 3 (by decide)
  have g4 : T.g (p + 4) = 97 := hb 4 (by decide)
  have g5 : T.g (p + 5) = 32 := hb 5 (by decide)
  have g6 : T.g (p + 6) = 40 := hb 6 (by decide)
  have g7 : T.g (p + 7) = 42 := hb 7 (by decide)
  have g8 : T.g (p + 8) = 32 := hb 8 (by decide)
  have g9 : T.g (p + 9) = 98 := hb 9 (by decide)
  have g10 : T.g (p + 10) = 32 := hb 10 (by decide)
  have g11 : T.g (p + 11) = 42 := hb 11 (by decide)
  have g12 : T.g (p + 12) = 41 := hb 12 (by decide)
  have g13 : T.g (p + 13) = 32 := hb 13 (by decide)
  have g14 : T.g (p + 14) = 99 := hb 14 (by decide)
  have g15 : T.g (p + 15) = 32 := hb 15 (by decide)
  have g16 : T.g (p + 16) = 42 := hb 16 (by decide)
  have g17 : T.g (p + 17) = 41 := hb 17 (by decide)
  have g18 : T.g (p + 18) = 32 := hb 18 (by decide)
  rw [Nat.add_zero] at g0
  rw [skip_on (i := p) (by omega) (by rw [g0]; decide)]
  have hc : comE T 1 (p + 3) = some (p + 18) := by
    rw [com_on (d := 1) (i := p + 3) (by omega) (by rw [g3]; decide) (by rw [g3]; decide)]
    show comE T 1 (p + 4) = _
    rw [com_on (d := 1) (i := p + 4) (by omega) (by rw [g4]; decide) (by rw [g4]; decide)]
    show comE T 1 (p + 5) = _
    rw [com_on (d := 1) (i := p + 5) (by omega) (by rw [g5]; decide) (by rw [g5]; decide)]
    show comE T 1 (p + 6) = _
    rw [com_open (d := 1) (i := p + 6) (by omega) g6 g7]
    show comE T 2 (p + 8) = _
    rw [com_on (d := 2) (i := p + 8) (by omega) (by rw [g8]; decide) (by rw [g8]; decide)]
    show comE T 2 (p + 9) = _
    rw [com_on (d := 2) (i := p + 9) (by omega) (by rw [g9]; decide) (by rw [g9]; decide)]
    show comE T 2 (p + 10) = _
    rw [com_on (d := 2) (i := p + 10) (by omega) (by rw [g10]; decide) (by rw [g10]; decide)]
    show comE T 2 (p + 11) = _
    rw [com_shut (d := 2) (i := p + 11) (by omega) g11 g12 (by decide)]
    show comE T 1 (p + 13) = _
    rw [com_on (d := 1) (i := p + 13) (by omega) (by rw [g13]; decide) (by rw [g13]; decide)]
    show comE T 1 (p + 14) = _
    rw [com_on (d := 1) (i := p + 14) (by omega) (by rw [g14]; decide) (by rw [g14]; decide)]
    show comE T 1 (p + 15) = _
    rw [com_on (d := 1) (i := p + 15) (by omega) (by rw [g15]; decide) (by rw [g15]; decide)]
    show comE T 1 (p + 16) = _
    exact com_last (i := p + 16) (by omega) g16 g17
  rw [skip_com (i := (p + 1)) (j := p + 18) (by omega) g1 g2 hc]
  rw [skip_on (i := (p + 18)) (by omega) (by rw [g18]; decide)]
  rw [show p + 18 + 1 = p + 19 from rfl]
  exact skip_here (i := p + 19) hn h1 h2
theorem gap_4 (T : Txt) (p : Nat) (hb : ∀ j, j < gapN 4 → T.g (p + j) = gapB 4 j) (hn : p + gapN 4 < T.n) (h1 : blaB (T.g (p + gapN 4)) = false) (h2 : ¬ (p + gapN 4 + 1 < T.n ∧ T.g (p + gapN 4) = 40 ∧ T.g (p + gapN 4 + 1) = 42)) : skipE T p = (p + gapN 4, true) := by
  have hn : p + 4 < T.n := hn
  have h1 : blaB (T.g (p + 4)) = false := h1
  have g0 : T.g (p + 0) = 40 := hb 0 (by decide)
  have g1 : T.g (p + 1) = 42 := hb 1 (by decide)
  have g2 : T.g (p + 2) = 42 := hb 2 (by decide)
  have g3 : T.g (p + 3) = 41 := hb 3 (by decide)
  rw [Nat.add_zero] at g0
  have hc : comE T 1 (p + 2) = some (p + 4) := by
    exact com_last (i := p + 2) (by omega) g2 g3
  rw [skip_com (i := p) (j := p + 4) (by omega) g0 g1 hc]
  exact skip_here (i := p + 4) hn h1 h2
theorem gap_5 (T : Txt) (p : Nat) (hb : ∀ j, j < gapN 5 → T.g (p + j) = gapB 5 j) (hn : p + gapN 5 < T.n) (h1 : blaB (T.g (p + gapN 5)) = false) (h2 : ¬ (p + gapN 5 + 1 < T.n ∧ T.g (p + gapN 5) = 40 ∧ T.g (p + gapN 5 + 1) = 42)) : skipE T p = (p + gapN 5, true) := by
  have hn : p + 3 < T.n := hn
  have h1 : blaB (T.g (p + 3)) = false := h1
  have g0 : T.g (p + 0) = 32 := hb 0 (by decide)
  have g1 : T.g (p + 1) = 13 := hb 1 (by decide)
  have g2 : T.g (p + 2) = 10 := hb 2 (by decide)
  rw [Nat.add_zero] at g0
  rw [skip_on (i := p) (by omega) (by rw [g0]; decide)]
  rw [skip_on (i := (p + 1)) (by omega) (by rw [g1]; decide)]
  rw [show p + 1 + 1 = p + 2 from rfl]
  rw [skip_on (i := (p + 2)) (by omega) (by rw [g2]; decide)]
  rw [show p + 2 + 1 = p + 3 from rfl]
  exact skip_here (i := p + 3) hn h1 h2
theorem gap_skip (g : Nat) (hg : g < 6) (T : Txt) (p : Nat) (hb : ∀ j, j < gapN g → T.g (p + j) = gapB g j) (hn : p + gapN g < T.n) (h1 : blaB (T.g (p + gapN g)) = false) (h2 : ¬ (p + gapN g + 1 < T.n ∧ T.g (p + gapN g) = 40 ∧ T.g (p + gapN g + 1) = 42)) : skipE T p = (p + gapN g, true) := by
  rcases (by omega : g = 0 ∨ g = 1 ∨ g = 2 ∨ g = 3 ∨ g = 4 ∨ g = 5) with rfl | rfl | rfl | rfl | rfl | rfl
  · exact gap_0 T p hb hn h1 h2
  · exact gap_1 T p hb hn h1 h2
  · exact gap_2 T p hb hn h1 h2
  · exact gap_3 T p hb hn h1 h2
  · exact gap_4 T p hb hn h1 h2
  · exact gap_5 T p hb hn h1 h2
/-- The text T from p on: each symbol of X behind its gap, and then nothing. -/
def Laid (T X : Txt) : Nat → List (Nat × Tk) → Prop
  | p, [] => p = T.n
  | p, (g, x) :: r => g < 6 ∧ (∀ j, j < gapN g → T.g (p + j) = gapB g j) ∧ (∀ j, j < x.fin - x.pos → T.g (p + gapN g + j) = X.g (x.pos + j)) ∧ Laid T X (p + gapN g + (x.fin - x.pos)) r
theorem Laid.le {T X : Txt} : ∀ {p : Nat} {r : List (Nat × Tk)}, Laid T X p r → p ≤ T.n
  | p, [], h => by have h : p = T.n := h; omega
  | p, (g, x) :: r, h => by have := Laid.le h.2.2.2; omega
theorem Laid.next {T X : Txt} {p : Nat} {r : List (Nat × Tk)} (h : Laid T X p r) (hp : p < T.n) : gapc (T.g p) := by
  cases r with
  | nil => have h : p = T.n := h; omega
  | cons y r =>
    obtain ⟨g, x⟩ := y
    have h2 := gapN_pos g h.1
    have := h.2.1 0 h2.1
    rw [Nat.add_zero] at this
    rw [this]
    exact h2.2.2
theorem scanE_some (t : Txt) (kw) (i : Nat) (hi : i ≤ t.n) (l : List Tk) (h : scanE t kw i = .ok l) : l ≠ [] := by
  rw [scanE_eq t kw i hi] at h
  split at h
  · cases h
  split at h
  · injection h with h; subst h; simp
  · split at h
    · cases h
    · split at h
      · cases h
      · injection h with h; subst h; simp
/-- What of a symbol is the same wherever it stands. -/
def AlikeTk (X T : Txt) (y z : Tk) : Prop := z.kind = y.kind ∧ z.num = y.num ∧ z.pos ≤ z.fin ∧ z.fin ≤ T.n ∧ z.fin - z.pos = y.fin - y.pos ∧ z.a ≤ z.b ∧ z.b ≤ T.n ∧ y.a ≤ y.b ∧ y.b ≤ X.n ∧ z.b - z.a = y.b - y.a ∧ ∀ j, j < y.b - y.a → T.g (z.a + j) = X.g (y.a + j)
theorem Tk.key_same (kw) (x : Tk) : (x.key kw).pos = x.pos ∧ (x.key kw).fin = x.fin ∧ (x.key kw).a = x.a ∧ (x.key kw).b = x.b ∧ (x.key kw).num = x.num := by
  unfold Tk.key; split <;> exact ⟨rfl, rfl, rfl, rfl, rfl⟩
theorem symS_in (t : Txt) (i : Nat) (x : Tk) (h : symS t i = .ok x) : i ≤ x.a ∧ x.b ≤ x.fin := by
  unfold symS namS numS quoS sigS at h
  simp only at h
  repeat' split at h
  all_goals first | (cases h; done) | (injection h with h; subst h; constructor <;> simp <;> first | omega | (have := upto_ge (fun j => strB (t.g j)) (t.n - (i + 1)) (i + 1); unfold strEnd; omega) | (have := upto_ge (fun j => hexB (t.g j)) (t.n - i) i; unfold hexEnd; omega))
theorem laid_scan {X T : Txt} {kwX kwT : Nat → Nat → Bool} (hkw : ∀ a b c, a ≤ b → b ≤ X.n → c + (b - a) ≤ T.n → (∀ j, j < b - a → T.g (c + j) = X.g (a + j)) → kwT c (c + (b - a)) = kwX a b) :
    ∀ (gs : List Nat) (A : List Tk) (i p : Nat), i ≤ X.n → scanE X kwX i = .ok A → gs.length + 1 = A.length → Laid T X p (gs.zip A) → ∃ B : List Tk, scanE T kwT p = .ok B ∧ B.length = A.length ∧ ∀ (k : Nat) (y z : Tk), A[k]? = some y → B[k]? = some z → AlikeTk X T y z
  | [], A, i, p, hi, hA, hl, hL => by
    have hp : p = T.n := hL
    subst hp
    rw [scanE_eq X kwX i hi] at hA
    split at hA
    · cases hA
    split at hA
    · injection hA with hA
      subst hA
      refine ⟨[⟨0, T.n, T.n, T.n, T.n, 0⟩], ?_, rfl, fun k y z h1 h2 => ?_⟩
      · rw [scanE_eq T kwT T.n (Nat.le_refl _)]
        have e : skipE T T.n = (T.n, true) := by rw [skipE_eq, if_pos (Nat.le_refl _)]
        rw [e, if_neg (by simp), if_pos (Nat.le_refl _)]
      · cases k with
        | zero =>
          simp only [List.getElem?_cons_zero, Option.some.injEq] at h1 h2
          subst h1; subst h2
          exact ⟨rfl, rfl, Nat.le_refl _, Nat.le_refl _, by simp, Nat.le_refl _, Nat.le_refl _, Nat.le_refl _, Nat.le_refl _, by simp, fun j hj => by simp at hj⟩
        | succ k => simp at h1
    · rename_i h3 h4
      have h6 := skipE_le X i hi
      cases hs : symS X (skipE X i).1 with
      | error e => rw [hs] at hA; cases hA
      | ok x =>
        have h5 := symS_ok X _ (by omega) x hs
        rw [hs] at hA
        simp only at hA
        cases hk : scanE X kwX x.fin with
        | error e => rw [hk] at hA; cases hA
        | ok l =>
          rw [hk] at hA
          injection hA with hA
          subst hA
          have := scanE_some X kwX x.fin (by omega) l hk
          simp only [List.length_nil, List.length_cons] at hl
          exact absurd (List.eq_nil_of_length_eq_zero (by omega)) this
  | g :: gs, A, i, p, hi, hA, hl, hL => by
    rw [scanE_eq X kwX i hi] at hA
    split at hA
    · cases hA
    rename_i h2
    split at hA
    · injection hA with hA
      subst hA
      simp at hl
    · rename_i h4
      have h6 := skipE_le X i hi
      have h2 : (skipE X i).2 = true := by simpa using h2
      obtain ⟨s1, s2⟩ := skipE_stop X i h2 (by omega)
      obtain ⟨m, hm⟩ : ∃ m, (skipE X i).1 = m := ⟨_, rfl⟩
      rw [hm] at hA h4 h6 s1 s2
      cases hs : symS X m with
      | error e => rw [hs] at hA; cases hA
      | ok x =>
        have h5 := symS_ok X m (by omega) x hs
        have h7 := symS_in X m x hs
        rw [hs] at hA
        simp only at hA
        cases hk : scanE X kwX x.fin with
        | error e => rw [hk] at hA; cases hA
        | ok l =>
          rw [hk] at hA
          injection hA with hA
          subst hA
          obtain ⟨e1, e2, e3, e4, e5⟩ := Tk.key_same kwX x
          obtain ⟨hg, hgb, htb, hrest⟩ := hL
          rw [e1, e2, h5.1] at htb hrest
          have hg1 := gapN_pos g hg
          have hle := hrest.le
          have hnx := fun h => hrest.next h
          obtain ⟨q, hq⟩ : ∃ q, p + gapN g = q := ⟨_, rfl⟩
          rw [hq] at htb hrest hle hnx
          have hsym := symS_at X T m q (by omega) x hs htb hle hnx
          have gq : T.g q = X.g m := htb 0 (by omega)
          have hstop : ¬ (q + 1 < T.n ∧ T.g q = 40 ∧ T.g (q + 1) = 42) := fun ⟨k1, k2, k3⟩ => by
            -- a sign of one byte, and what follows is no asterisk
            have hx : x.fin = m + 1 := by
              rw [gq] at k2
              unfold symS at hs
              rw [k2, if_neg (by decide), if_neg (by decide), if_neg (by decide)] at hs
              unfold sigS at hs
              rw [k2, if_neg (fun h => by simp [twoB] at h), if_pos (by decide)] at hs
              injection hs with hs
              rw [← hs]
            rw [hx, show q + (m + 1 - m) = q + 1 by omega] at hnx
            have h9 := hnx k1
            rw [k3] at h9
            rcases h9 with h9 | h9 | h9 | h9 <;> omega
          have hskip : skipE T p = (q, true) := by
            rw [← hq]
            exact gap_skip g hg T p hgb (by omega) (by rw [hq, gq]; exact s1) (by rw [hq]; exact hstop)
          obtain ⟨B, hB, hBl, hBa⟩ := laid_scan hkw gs l x.fin (q + (x.fin - m)) (by omega) hk (by simpa using hl) hrest
          refine ⟨(x.at q).key kwT :: B, ?_, by simp [hBl], fun k y z k1 k2 => ?_⟩
          · rw [scanE_eq T kwT p (by omega), hskip, if_neg (by simp), if_neg (by show ¬ T.n ≤ q; omega)]
            show (match symS T q with
              | .error e => Except.error (q, e)
              | .ok x => match scanE T kwT x.fin with
                | .error e => .error e
                | .ok l => .ok (x.key kwT :: l)) = _
            rw [hsym]
            show (match scanE T kwT (q + (x.fin - x.pos)) with
                | .error e => Except.error e
                | .ok l => .ok ((x.at q).key kwT :: l)) = _
            rw [h5.1, hB]
          · cases k with
            | succ k =>
              simp only [List.getElem?_cons_succ] at k1 k2
              exact hBa k y z k1 k2
            | zero =>
              simp only [List.getElem?_cons_zero, Option.some.injEq] at k1 k2
              subst k1; subst k2
              obtain ⟨f1, f2, f3, f4, f5⟩ := Tk.key_same kwT (x.at q)
              have ga : ∀ j, j < x.b - x.a → T.g (q + (x.a - m) + j) = X.g (x.a + j) := fun j hj => by
                have := htb (x.a - m + j) (by omega)
                rw [show q + (x.a - m + j) = q + (x.a - m) + j by omega, show m + (x.a - m + j) = x.a + j by omega] at this
                exact this
              have hkk : ((x.at q).key kwT).kind = (x.key kwX).kind := by
                unfold Tk.key
                have e := hkw x.a x.b (q + (x.a - m)) (by omega) (by omega) (by omega) ga
                have ea : (x.at q).a = q + (x.a - m) := by show q + (x.a - x.pos) = _; rw [h5.1]
                have eb : (x.at q).b = q + (x.a - m) + (x.b - x.a) := by show q + (x.b - x.pos) = _; rw [h5.1]; omega
                rw [ea, eb, e]
                have ek : (x.at q).kind = x.kind := rfl
                rw [ek]
                split <;> rfl
              refine ⟨hkk, by rw [f5, e5]; rfl, ?_, ?_, ?_, ?_, ?_, ?_, ?_, ?_, ?_⟩
              · rw [f1, f2]; show q ≤ q + (x.fin - x.pos); omega
              · rw [f2]; show q + (x.fin - x.pos) ≤ T.n; rw [h5.1]; exact hle
              · rw [f1, f2, e1, e2]; show q + (x.fin - x.pos) - q = _; omega
              · rw [f3, f4]; show q + (x.a - x.pos) ≤ q + (x.b - x.pos); omega
              · rw [f4]; show q + (x.b - x.pos) ≤ T.n; rw [h5.1]; omega
              · rw [e3, e4]; omega
              · rw [e4]; omega
              · rw [f3, f4, e3, e4]; show q + (x.b - x.pos) - (q + (x.a - x.pos)) = _; rw [h5.1]; omega
              · intro j hj
                rw [e3, e4] at hj
                rw [f3, e3]
                show T.g (q + (x.a - x.pos) + j) = _
                rw [h5.1]
                exact ga j hj
end Go.Proofs.YtbpdhpfcknaaiaaDoor

/- ScanBlanks: the walk. -/
set_option linter.unusedSimpArgs false
set_option linter.unusedVariables false
namespace Go.Proofs.YtbpdhpfcknaaiaaDoor
open Go.RowKit M

theorem bt_append (s t : ByteArray) (i : Nat) : bt (s ++ t) i = if i < s.size then bt s i else bt t (i - s.size) := by
  unfold bt
  rw [ByteArray.data_append, Array.toList_append]
  have hl := size_list s
  split
  · rename_i h
    rw [List.getElem?_append_left (by omega)]
  · rename_i h
    rw [List.getElem?_append_right (by omega), hl]
theorem bt_ext (s : ByteArray) (a b j : Nat) (hb : b ≤ s.size) (hj : j < b - a) : bt (s.extract a b) j = bt s (a + j) := by
  unfold bt
  rw [ext_list, List.getElem?_take, if_pos hj, List.getElem?_drop]
theorem ext_same (S X : ByteArray) (c a k : Nat) (hc : c + k ≤ S.size) (ha : a + k ≤ X.size) (h : ∀ j, j < k → bt S (c + j) = bt X (a + j)) : S.extract c (c + k) = X.extract a (a + k) := by
  apply ByteArray.ext
  apply Array.toList_inj.1
  rw [ext_list, ext_list]
  have h1 := size_list S
  have h2 := size_list X
  refine List.ext_getElem? fun j => ?_
  rw [List.getElem?_take, List.getElem?_take, show c + k - c = k by omega, show a + k - a = k by omega]
  by_cases hj : j < k
  · rw [if_pos hj, if_pos hj, List.getElem?_drop, List.getElem?_drop]
    have := h j hj
    unfold bt at this
    rw [List.getElem?_eq_getElem (by omega), List.getElem?_eq_getElem (by omega)] at this ⊢
    simp only [Option.getD_some] at this
    rw [UInt8.toNat_inj.1 this]
  · rw [if_neg hj, if_neg hj]
def gapTs : List ByteArray := [⟨#[32]⟩, ⟨#[10]⟩, ⟨#[9, 32]⟩, ⟨#[32, 40, 42, 32, 97, 32, 40, 42, 32, 98, 32, 42, 41, 32, 99, 32, 42, 41, 32]⟩, ⟨#[40, 42, 42, 41]⟩, ⟨#[32, 13, 10]⟩]
theorem gapT_ok (g : Nat) (hg : g < 6) : (gapTs.getD g ⟨#[]⟩).size = gapN g ∧ ∀ j, j < gapN g → bt (gapTs.getD g ⟨#[]⟩) j = gapB g j := by
  rcases (by omega : g = 0 ∨ g = 1 ∨ g = 2 ∨ g = 3 ∨ g = 4 ∨ g = 5) with rfl | rfl | rfl | rfl | rfl | rfl
  all_goals exact ⟨by decide, by decide⟩
def fB (X : ByteArray) (s : ByteArray) (y : Nat × Tk) : ByteArray := (s ++ gapTs.getD y.1 ⟨#[]⟩) ++ X.extract y.2.pos y.2.fin
def OkP (X : ByteArray) (ps : List (Nat × Tk)) : Prop := ∀ y ∈ ps, y.1 < 6 ∧ y.2.pos ≤ y.2.fin ∧ y.2.fin ≤ X.size
theorem fB_size (X s : ByteArray) (y : Nat × Tk) (h : y.1 < 6 ∧ y.2.pos ≤ y.2.fin ∧ y.2.fin ≤ X.size) : (fB X s y).size = s.size + gapN y.1 + (y.2.fin - y.2.pos) := by
  unfold fB
  rw [ByteArray.size_append, ByteArray.size_append, (gapT_ok y.1 h.1).1, cut_size _ _ _ h.2.2]
theorem fold_pre (X : ByteArray) : ∀ (ps : List (Nat × Tk)) (s : ByteArray), OkP X ps → s.size ≤ (ps.foldl (fB X) s).size ∧ ∀ i, i < s.size → bt (ps.foldl (fB X) s) i = bt s i
  | [], s, _ => ⟨Nat.le_refl _, fun _ _ => rfl⟩
  | y :: ps, s, h => by
    have hy := h y List.mem_cons_self
    have hz := fB_size X s y hy
    obtain ⟨h1, h2⟩ := fold_pre X ps (fB X s y) (fun z hz => h z (List.mem_cons_of_mem _ hz))
    refine ⟨by show s.size ≤ (ps.foldl (fB X) (fB X s y)).size; omega, fun i hi => ?_⟩
    show bt (ps.foldl (fB X) (fB X s y)) i = _
    rw [h2 i (by omega)]
    unfold fB
    rw [bt_append, if_pos (by rw [ByteArray.size_append]; omega), bt_append, if_pos hi]
theorem laid_fold (X : ByteArray) : ∀ (ps : List (Nat × Tk)) (s : ByteArray), OkP X ps → Laid (tx (ps.foldl (fB X) s)) (tx X) s.size ps
  | [], s, _ => rfl
  | (g, x) :: ps, s, h => by
    have hy := h (g, x) List.mem_cons_self
    have hz := fB_size X s (g, x) hy
    have hps : OkP X ps := fun z hz => h z (List.mem_cons_of_mem _ hz)
    obtain ⟨h1, h2⟩ := fold_pre X ps (fB X s (g, x)) hps
    have ih := laid_fold X ps (fB X s (g, x)) hps
    have gt := gapT_ok g hy.1
    have e : ((g, x) :: ps).foldl (fB X) s = ps.foldl (fB X) (fB X s (g, x)) := rfl
    rw [e]
    simp only at hy hz
    refine ⟨hy.1, fun j hj => ?_, fun j hj => ?_, ?_⟩
    · show bt (ps.foldl (fB X) (fB X s (g, x))) (s.size + j) = _
      rw [h2 _ (by omega)]
      unfold fB
      rw [bt_append, if_pos (by rw [ByteArray.size_append, gt.1]; omega), bt_append, if_neg (by omega), show s.size + j - s.size = j by omega]
      exact gt.2 j hj
    · show bt (ps.foldl (fB X) (fB X s (g, x))) (s.size + gapN g + j) = bt X (x.pos + j)
      rw [h2 _ (by omega)]
      unfold fB
      have hsz : (s ++ gapTs.getD g ⟨#[]⟩).size = s.size + gapN g := by rw [ByteArray.size_append, gt.1]
      rw [bt_append, if_neg (by show ¬ s.size + gapN g + j < (s ++ gapTs.getD g ⟨#[]⟩).size; rw [hsz]; omega)]
      show bt (X.extract x.pos x.fin) (s.size + gapN g + j - (s ++ gapTs.getD g ⟨#[]⟩).size) = _
      rw [hsz, show s.size + gapN g + j - (s.size + gapN g) = j by omega, bt_ext _ _ _ _ hy.2.2 hj]
    · rw [hz] at ih
      exact ih
/-- What the other text is told as. -/
theorem blank_scan (X : ByteArray) (A : List Tk) (gs : List Nat) (hA : allS X = .ok A) (hl : gs.length + 1 = A.length) (hok : OkP X (gs.zip A)) (S : ByteArray) (hS : S = (gs.zip A).foldl (fB X) ⟨#[]⟩) (hn : S.size ≤ 20000) :
    ∃ B : List Tk, allS S = .ok B ∧ B.length = A.length ∧ ∀ (k : Nat) (y z : Tk), A[k]? = some y → B[k]? = some z → AlikeTk (tx X) (tx S) y z := by
  have hL := laid_fold X (gs.zip A) ⟨#[]⟩ hok
  rw [← hS] at hL
  unfold allS at hA
  split at hA
  · cases hA
  · obtain ⟨B, h1, h2, h3⟩ := laid_scan (X := tx X) (T := tx S) (kwX := fun a b => kwB (X.extract a b)) (kwT := fun a b => kwB (S.extract a b)) (fun a b c hab hb hc h => by
      show kwB _ = kwB _
      have e := ext_same S X c a (b - a) hc (by show a + (b - a) ≤ X.size; have : b ≤ X.size := hb; omega) h
      rw [e, show a + (b - a) = b by omega]) gs A 0 0 (Nat.zero_le _) hA hl hL
    refine ⟨B, ?_, h2, h3⟩
    unfold allS
    rw [if_neg (by omega)]
    exact h1
theorem alike_text {X S : ByteArray} {y z : Tk} (h : AlikeTk (tx X) (tx S) y z) : S.extract z.a z.b = X.extract y.a y.b := by
  obtain ⟨_, _, _, _, _, h1, h2, h3, h4, h5, h6⟩ := h
  have h2 : z.b ≤ S.size := h2
  have h4 : y.b ≤ X.size := h4
  have e := ext_same S X z.a y.a (y.b - y.a) (by omega) (by omega) h6
  rw [show z.a + (y.b - y.a) = z.b by omega, show y.a + (y.b - y.a) = y.b by omega] at e
  exact e
theorem fold_size (X : ByteArray) (hX : X.size ≤ 20000) : ∀ (ps : List (Nat × Tk)) (s : ByteArray), OkP X ps → (ps.foldl (fB X) s).size ≤ s.size + ps.length * 20020
  | [], s, _ => by simp
  | y :: ps, s, h => by
    have hy := h y List.mem_cons_self
    have hz := fB_size X s y hy
    have hg := gapN_pos y.1 hy.1
    have ih := fold_size X hX ps (fB X s y) (fun z hz => h z (List.mem_cons_of_mem _ hz))
    show (ps.foldl (fB X) (fB X s y)).size ≤ s.size + (ps.length + 1) * 20020
    omega
theorem OkP.take {X : ByteArray} {ps : List (Nat × Tk)} (h : OkP X ps) (k : Nat) : OkP X (ps.take k) := fun y hy => h y (List.mem_of_mem_take hy)
theorem fold_step (X : ByteArray) (ps : List (Nat × Tk)) (k : Nat) (y : Nat × Tk) (h : ps[k]? = some y) : (ps.take (k + 1)).foldl (fB X) ⟨#[]⟩ = fB X ((ps.take k).foldl (fB X) ⟨#[]⟩) y := by
  rw [List.take_add_one, h, List.foldl_append]
  rfl
def gapsOf (GL : List Nat) (gn K : Nat) : List Nat := (List.range K).map (fun i => GL.getD (i % gn) 0 % 6)
theorem gapsOf_len (GL : List Nat) (gn K : Nat) : (gapsOf GL gn K).length = K := by unfold gapsOf; simp
theorem gapsOf_get (GL : List Nat) (gn K k : Nat) (h : k < K) : (gapsOf GL gn K)[k]? = some (GL.getD (k % gn) 0 % 6) := by
  unfold gapsOf
  rw [List.getElem?_map, List.getElem?_range h]
  rfl
set_option maxRecDepth 10000 in
set_option maxHeartbeats 6400000 in
theorem blanks_any (a : Option Addr) (n cap b : Nat) (zs : List Int) (ga : Option Addr) (gn gcap gb : Nat) (zg : List Int) (w : World) (hA : Asc w) (hr : InRow w a n cap b (zs.map (Value.int .u16))) (hf : ∀ z ∈ zs, (Lit.int .u16 z).wf = true)
    (hr2 : InRow w ga gn gcap gb (zg.map (Value.int .u8))) (hf2 : ∀ z ∈ zg, (Lit.int .u8 z).wf = true) :
    Calls Tryd.prog 4 #[.slice a n cap, .slice ga gn gcap] w fun e w' => e = .returned (.bool true) ∧ Only Nil w w' := by
  have cK := known11 w hA
  by_cases hbig : 20 < n ∨ 60 < gn ∨ gn = 0
  · clear hr hr2 hf hf2
    by_cases h1 : 20 < n
    · have t1 : (20 : Int) < (n : Int) := by omega
      clear hbig
      go_enter Tryd.func4, Tryd.ntmps4
      go_wp2_with fail
      refine cK.mono ?_
      rintro e w1 ⟨rfl, ho1⟩
      clear cK
      go_wp2_with fail
      go_ret
      exact ⟨rfl, ho1⟩
    · have t1 : ¬ (20 : Int) < (n : Int) := by omega
      by_cases h2 : 60 < gn
      · have t2 : (60 : Int) < (gn : Int) := by omega
        clear hbig
        go_enter Tryd.func4, Tryd.ntmps4
        go_wp2_with fail
        refine cK.mono ?_
        rintro e w1 ⟨rfl, ho1⟩
        clear cK
        go_wp2_with fail
        go_ret
        exact ⟨rfl, ho1⟩
      · have t2 : ¬ (60 : Int) < (gn : Int) := by omega
        have t3 : ((gn : Int) == 0) = true := by simp; omega
        clear hbig
        go_enter Tryd.func4, Tryd.ntmps4
        go_wp2_with fail
        refine cK.mono ?_
        rintro e w1 ⟨rfl, ho1⟩
        clear cK
        go_wp2_with fail
        go_ret
        exact ⟨rfl, ho1⟩
  · have t1 : ¬ (20 : Int) < (n : Int) := by omega
    have t2 : ¬ (60 : Int) < (gn : Int) := by omega
    have t3 : ((gn : Int) == 0) = false := by simp; omega
    have u2 : ¬ (gn : Int) = 0 := by omega
    have u3 : ¬ gn = 0 := by omega
    have HGN := Lib.hid (show 0 < gn ∧ gn ≤ 60 by omega)
    obtain ⟨S, hS, hM⟩ := main_of w a n cap b zs hr hf (by omega)
    obtain ⟨hz, hz1⟩ := main_size S hS
    obtain ⟨X, hX⟩ : ∃ X, (mainK ++ S) ++ mainE = X := ⟨_, rfl⟩
    rw [hX] at hM hz hz1
    obtain ⟨m, hm⟩ : ∃ m, X.size = m := ⟨_, rfl⟩
    rw [hm] at hz hz1
    have HM := Lib.hid hM
    have HA := Lib.hid hA
    have HC2 := Lib.hid (fun w => scanR_any X m hm (by omega) w)
    -- the gaps' numbers
    have hgl : zg.length = gn := by have := hr2.len; simpa using this
    have hgb : ∀ z ∈ zg, 0 ≤ z ∧ z ≤ 255 := fun z hz => bounds_u8 (hf2 z hz)
    obtain ⟨gao, gcap2, goff, ge, g0, g1, gc⟩ := hr2.src
    rw [List.length_map, hgl] at ge g0
    simp only [Value.slice.injEq, true_and] at ge
    obtain ⟨rfl, rfl⟩ := ge
    have gea := g0 (by omega)
    subst gea
    have HGC := Lib.hid (show ∀ j, j < gn → w.cell? ⟨gb, goff + j, none⟩ = some (.int .u8 (((zg.map Int.toNat).getD j 0 : Nat) : Int)) ∧ (zg.map Int.toNat).getD j 0 < 256 from fun j hj => by
      have hz : zg[j]? = some zg[j] := List.getElem?_eq_getElem (by omega)
      have h2 := gc j (.int .u8 zg[j]) (by rw [List.getElem?_map, hz]; rfl)
      have h3 := hgb zg[j] (List.getElem_mem (by omega))
      have e : (zg.map Int.toNat).getD j 0 = zg[j].toNat := by simp [List.getD, hz]
      rw [e, h2]
      exact ⟨by congr 2; omega, by omega⟩)
    obtain ⟨GL, hGL⟩ : ∃ GL, zg.map Int.toNat = GL := ⟨_, rfl⟩
    rw [hGL] at HGC
    clear hr hf hbig hS hM hX hA hr2 hf2 hgl hgb g0 g1 gc hGL
    cases hAX : allS X with
    | error pk =>
      obtain ⟨p, k⟩ := pk
      have hk := allS_err X _ hAX
      have hk0 : ((k : Int) == 0) = false := not_beq (by simp only at hk; omega)
      rw [hAX] at HC2
      clear hAX hk hz hz1
      go_enter Tryd.func4, Tryd.ntmps4
      go_wp2_with fail
      refine cK.mono ?_
      rintro e w1 ⟨rfl, ho1⟩
      clear cK
      go_wp2_with fail
      refine (HM.out _ ho1).mono ?_
      rintro e w2 ⟨rfl, ho2⟩
      go_wp2_with fail
      refine (HC2.out _).mono ?_
      rintro e w3 ⟨rfl, ho3⟩
      have HO := Lib.hid (Nil.trans (Nil.trans ho1 ho2) ho3)
      clear ho1 ho2 ho3
      go_wp2_with fail
      all_goals go_ret
      all_goals exact ⟨rfl, HO.out⟩
    | ok A =>
      obtain ⟨hsm, hin⟩ := allS_in X m hm A hAX
      have hLA := allS_ok X m hm A hAX
      have hne : A ≠ [] := by
        have h := hAX
        unfold allS at h
        rw [if_neg (by omega)] at h
        exact scanE_some _ _ 0 (Nat.zero_le _) A h
      obtain ⟨m1, hm1⟩ : ∃ m1, A.length = m1 := ⟨_, rfl⟩
      have hm0 : 0 < m1 := by rw [← hm1]; exact List.length_pos_iff.2 hne
      obtain ⟨K, hK⟩ : ∃ K, m1 - 1 = K := ⟨_, rfl⟩
      have wK : IntKind.i64.wrap ((m1 : Int) - 1) = (K : Int) := by rw [← hK, IntKind.wrap]; simp [IntKind.bits, IntKind.signed]; omega
      obtain ⟨ps, hps⟩ : ∃ ps, (gapsOf GL gn K).zip A = ps := ⟨_, rfl⟩
      have hok : OkP X ps := by
        intro y hy
        rw [← hps] at hy
        obtain ⟨i, hi, e⟩ := List.getElem_of_mem hy
        have h2 := List.getElem?_eq_getElem hi
        rw [e] at h2
        obtain ⟨h3, h4⟩ := List.getElem?_zip_eq_some.1 h2
        have hiK : i < K := by have := (List.getElem?_eq_some_iff.1 h3).1; rwa [gapsOf_len] at this
        rw [gapsOf_get _ _ _ _ hiK] at h3
        injection h3 with h3
        have h5 := hin y.2 (List.mem_of_getElem? h4)
        rw [hm]
        exact ⟨by rw [← h3]; exact Nat.mod_lt _ (by decide), h5⟩
      have HPG := Lib.hid (show ∀ (k : Nat) (x : Tk), k < K → A[k]? = some x → ps[k]? = some (GL.getD (k % gn) 0 % 6, x) from fun k x hk hx => by
        rw [← hps]
        exact List.getElem?_zip_eq_some.2 ⟨gapsOf_get _ _ _ _ hk, hx⟩)
      have hpl : ps.length = K := by rw [← hps, List.length_zip, gapsOf_len, hm1]; omega
      have HBS := Lib.hid (show ∀ T, T = ps.foldl (fB X) ⟨#[]⟩ → T.size ≤ 20000 → ∃ B : List Tk, allS T = .ok B ∧ B.length = m1 ∧ ∀ (k : Nat) (y z : Tk), A[k]? = some y → B[k]? = some z → AlikeTk (tx X) (tx T) y z from fun T hT h20 => by
        rw [← hm1]
        exact blank_scan X A (gapsOf GL gn K) hAX (by rw [gapsOf_len, hm1]; omega) (by rw [hps]; exact hok) T (by rw [hps]; exact hT) h20)
      have HOKP := Lib.hid hok
      have HPL := Lib.hid hpl
      have HIN := Lib.hid hin
      have HM1 := Lib.hid hm1
      have HSM := Lib.hid (show m ≤ 20000 ∧ m1 ≤ m + 1 ∧ K + 1 = m1 by omega)
      have HXM := Lib.hid hm
      rw [hAX] at HC2
      clear hAX hin hLA hne hm0 hK hps hok hpl hz hz1 hsm hm1 hm
      go_enter Tryd.func4, Tryd.ntmps4
      go_wp2_with fail
      refine cK.mono ?_
      rintro e w1 ⟨rfl, ho1⟩
      have H1 := Lib.hid ho1
      clear cK ho1
      go_wp2_with fail
      refine (HM.out _ H1.out).mono ?_
      rintro e w2 ⟨rfl, ho2⟩
      have H2 := Lib.hid (Nil.trans H1.out ho2)
      clear ho2
      have hXm := HXM.out
      go_wp2_with fail
      refine (HC2.out _).mono ?_
      rintro e w3 ⟨⟨tv, rfl, hown3⟩, ho3⟩
      have H3 := Lib.hid (Nil.trans H2.out ho3)
      obtain ⟨bk, hbk⟩ : ∃ z, tv.ownBlock.getD 0 = z := ⟨_, rfl⟩
      have hTS := TSrc.of_own hown3
      rw [hbk] at hTS
      obtain ⟨ao, cap3, off, e2, _, _, ha2, hT⟩ := hTS
      rw [HM1.out] at e2 ha2
      have ea := ha2 (by have := HSM.out; omega)
      subst ea
      clear hbk hown3
      subst e2
      have HT := Lib.hid hT
      clear HC2 ho3 ha2 hT
      go_wp2_with fail
      go_loopg [9, 10] K (fun gk s i wr => ∃ k : Nat, s = .string ((ps.take k).foldl (fB X) ⟨#[]⟩) ∧ i = .int .i64 (k : Int) ∧ k ≤ K ∧ gk = K - k ∧ Only Nil w3 wr)
      case atStart => exact ⟨0, rfl, rfl, Nat.zero_le _, rfl, Only.refl _ _⟩
      case round =>
        obtain ⟨k, rfl, rfl, hkK, hg, ho⟩ := hrel
        obtain ⟨wq, hwq⟩ : ∃ z, wr = z := ⟨_, rfl⟩
        rw [hwq] at ho ⊢
        have HG := Lib.hid hg
        have HOK := Lib.hid ho
        clear hwq hg ho
        have k0 : (0 : Int) ≤ (k : Int) := Int.natCast_nonneg _
        by_cases hk : k < K
        · have k1 : (k : Int) < (K : Int) := by omega
          have HK2 := Lib.hid (show k + 1 ≤ K by omega)
          have hsm := HSM.out
          obtain ⟨x, hx⟩ : ∃ x, A[k]? = some x := ⟨_, List.getElem?_eq_getElem (by rw [HM1.out]; omega)⟩
          have bx := HIN.out x (List.mem_of_getElem? hx)
          obtain ⟨X0, X1, X2, X3, X4⟩ := HT.out k x hx
          have hst := fold_step X ps k _ (HPG.out k x hk hx)
          have hsz := fold_size X (by rw [hXm]; omega) (ps.take k) ⟨#[]⟩ (HOKP.out.take k)
          have hs0 : (⟨#[]⟩ : ByteArray).size = 0 := rfl
          rw [List.length_take, HPL.out, hs0] at hsz
          obtain ⟨sk, hsk⟩ : ∃ z, (ps.take k).foldl (fB X) ⟨#[]⟩ = z := ⟨_, rfl⟩
          rw [hsk] at hst hsz ⊢
          obtain ⟨r, hrr⟩ : ∃ r, k % gn = r := ⟨_, rfl⟩
          have hrg : r < gn := by rw [← hrr]; exact Nat.mod_lt _ HGN.out.1
          have gcell := HGC.out r hrg
          rw [hrr] at hst
          obtain ⟨v, hv⟩ : ∃ v, GL.getD r 0 = v := ⟨_, rfl⟩
          rw [hv] at gcell hst
          obtain ⟨g, hgg⟩ : ∃ g, v % 6 = g := ⟨_, rfl⟩
          have hg6 : g < 6 := by rw [← hgg]; exact Nat.mod_lt _ (by decide)
          rw [hgg] at hst
          have hst : List.foldl (fB X) ⟨#[]⟩ (ps.take (k + 1)) = (sk ++ gapTs.getD g ⟨#[]⟩) ++ X.extract x.pos x.fin := hst
          have q1 : ((k : Int).tmod (gn : Int)) = (r : Int) := by rw [← hrr]; rfl
          have q2 : ((k : Int) % (gn : Int)) = (r : Int) := by rw [← hrr]; rfl
          have q3 : ((v : Int).tmod 6) = (g : Int) := by rw [← hgg]; rfl
          have q4 : ((v : Int) % 6) = (g : Int) := by rw [← hgg]; rfl
          have r0 : (0 : Int) ≤ (r : Int) := Int.natCast_nonneg _
          have r1 : (r : Int) < (gn : Int) := by omega
          have s0 : (0 : Int) ≤ (g : Int) := Int.natCast_nonneg _
          have s1 : (g : Int) < 6 := by omega
          obtain ⟨GT, hGT⟩ : ∃ z, gapTs.getD g ⟨#[]⟩ = z := ⟨_, rfl⟩
          have zGT : GT.size ≤ 19 := by rw [← hGT, (gapT_ok g hg6).1]; exact (gapN_pos g hg6).2.1
          have HGT := Lib.hid (show ((#[.string ⟨#[32]⟩, .string ⟨#[10]⟩, .string ⟨#[9, 32]⟩, .string ⟨#[32, 40, 42, 32, 97, 32, 40, 42, 32, 98, 32, 42, 41, 32, 99, 32, 42, 41, 32]⟩, .string ⟨#[40, 42, 42, 41]⟩, .string ⟨#[32, 13, 10]⟩] : Array Value))[g]? = some (.string GT) by rw [← hGT]; exact choice_cell gapTs g hg6)
          obtain ⟨xp, hxp⟩ : ∃ z, x.pos = z := ⟨_, rfl⟩
          obtain ⟨xf, hxf⟩ : ∃ z, x.fin = z := ⟨_, rfl⟩
          rw [hxp] at X1 hst bx
          rw [hxf] at X2 hst bx
          obtain ⟨SX, hSX⟩ : ∃ z, X.extract xp xf = z := ⟨_, rfl⟩
          have zSX : SX.size ≤ 20000 := by rw [← hSX, cut_size _ _ _ (by rw [hXm]; omega)]; omega
          rw [hGT, hSX] at hst
          have HSN := Lib.hid hst
          have cG : wq.cell? ⟨gb, goff + r, none⟩ = some (.int .u8 (v : Int)) := (Nil.trans H3.out HOK.out).cell gcell.1 (fun h => h)
          have cX1 : wq.cell? ⟨bk, off + k * 5 + 1, none⟩ = some (.int .i64 (xp : Int)) := HOK.out.cell X1 (fun h => h)
          have cX2 : wq.cell? ⟨bk, off + k * 5 + 2, none⟩ = some (.int .i64 (xf : Int)) := HOK.out.cell X2 (fun h => h)
          have v1 : (k : Int) < (m1 : Int) := by omega
          have v2 : k < m1 := by omega
          have x0 : (0 : Int) ≤ (xp : Int) := Int.natCast_nonneg _
          have x1 : (xp : Int) ≤ (xf : Int) := by omega
          have x2 : (xf : Int) ≤ (m : Int) := by omega
          have x3 : xp ≤ xf := bx.1
          have x4 : xf ≤ m := bx.2
          have hmin : min k K = k := Nat.min_eq_left (by omega)
          rw [hmin] at hsz
          have z1 : (sk ++ GT).size = sk.size + GT.size := ByteArray.size_append
          have kz1 : ¬ 9223372036854775807 < sk.size + GT.size := by omega
          have kz2 : ¬ 9223372036854775807 < sk.size + GT.size + SX.size := by omega
          have wi : IntKind.i64.wrap ((k : Int) + 1) = ((k + 1 : Nat) : Int) := by rw [IntKind.wrap]; simp [IntKind.bits, IntKind.signed]; omega
          clear hkK hk hsm hx X0 X1 X2 X3 X4 hst hsz hs0 hsk hrr hv hgg hGT zGT hxp hxf zSX bx gcell hmin
          go_upto_region 13 with fail
          have hq : Only Nil wq wq.drew := (Only.refl Nil wq).drew
          refine wp_region_T (fun w' => Only Nil wq w') [] (by kernel_rfl) ?_
          refine wpAnyT_sub (S' := fun w' => Only Nil wq.drew w') (fun _ h => Nil.trans hq h) ?_
          obtain ⟨wd, hwd⟩ : ∃ z, wq.drew = z := ⟨_, rfl⟩
          rw [hwd] at hq  ⊢
          clear hwd
          refine wpAnyT_take 0 (v := ?_) rfl (by kernel_rfl) (by kernel_rfl) (by kernel_rfl) (fun _ _ _ h => h) (by kernel_rfl) (by kernel_rfl) (Or.inl ⟨by kernel_rfl, ?_⟩) (Only.refl Nil _) ?_
          rotate_left
          · (intro w' hw'; go_simp; (try with_reducible rfl))
          refine wpAnyT_take 2 (v := ?_) rfl (by kernel_rfl) (by kernel_rfl) (by kernel_rfl) (fun _ _ _ h => h) (by kernel_rfl) (by kernel_rfl) (Or.inl ⟨by kernel_rfl, ?_⟩) (Only.refl Nil _) ?_
          rotate_left
          · (intro w' hw'; go_simp; (try with_reducible rfl))
          refine wpAnyT_take 3 (v := ?_) rfl (by kernel_rfl) (by kernel_rfl) (by kernel_rfl) (fun _ _ _ h => h) (by kernel_rfl) (by kernel_rfl) (Or.inl ⟨by kernel_rfl, ?_⟩) (Only.refl Nil _) ?_
          rotate_left
          · (intro w' hw'; go_simp; (try with_reducible rfl))
          refine wpAnyT_take 4 (v := ?_) rfl (by kernel_rfl) (by kernel_rfl) (by kernel_rfl) (fun _ _ _ h => h) (by kernel_rfl) (by kernel_rfl) (Or.inl ⟨by kernel_rfl, ?_⟩) (Only.refl Nil _) ?_
          rotate_left
          · (intro w' hw'; go_simp; (try with_reducible rfl))
          refine wpAnyT_take 5 (v := ?_) rfl (by kernel_rfl) (by kernel_rfl) (by kernel_rfl) (fun _ _ _ h => h) (by kernel_rfl) (by kernel_rfl) (Or.inl ⟨by kernel_rfl, ?_⟩) (Only.refl Nil _) ?_
          rotate_left
          · (intro w' hw'; go_simp; (try with_reducible rfl))
          refine wpAnyT_take 6 (v := ?_) rfl (by kernel_rfl) (by kernel_rfl) (by kernel_rfl) (fun _ _ _ h => h) (by kernel_rfl) (by kernel_rfl) (Or.inl ⟨by kernel_rfl, ?_⟩) (Only.refl Nil _) ?_
          rotate_left
          · (intro w' hw'; go_simp; (try with_reducible rfl))
          refine wpAnyT_take 7 (v := ?_) rfl (by kernel_rfl) (by kernel_rfl) (by kernel_rfl) (fun _ _ _ h => h) (by kernel_rfl) (by kernel_rfl) (Or.inl ⟨by kernel_rfl, ?_⟩) (Only.refl Nil _) ?_
          rotate_left
          · (intro w' hw'; go_simp; (try with_reducible rfl))
          refine wpAnyT_take 8 (v := ?_) rfl (by kernel_rfl) (by kernel_rfl) (by kernel_rfl) (fun _ _ _ h => h) (by kernel_rfl) (by kernel_rfl) (Or.inl ⟨by kernel_rfl, ?_⟩) (Only.refl Nil _) ?_
          rotate_left
          · (intro w' hw'; have e0 := M.Only.cell hw' (M.Only.cell hq cG (fun h => h)) (fun h => h); go_simp; (try with_reducible rfl))
          refine wpAnyT_take 9 (v := ?_) rfl (by kernel_rfl) (by kernel_rfl) (by kernel_rfl) (fun _ _ _ h => h) (by kernel_rfl) (by kernel_rfl) (Or.inl ⟨by kernel_rfl, ?_⟩) (Only.refl Nil _) ?_
          rotate_left
          · (intro w' hw'; go_simp; (try with_reducible rfl))
          refine wpAnyT_take 13 (v := ?_) rfl (by kernel_rfl) (by kernel_rfl) (by kernel_rfl) (fun _ _ _ h => h) (by kernel_rfl) (by kernel_rfl) (Or.inl ⟨by kernel_rfl, ?_⟩) (Only.refl Nil _) ?_
          rotate_left
          · (intro w' hw'; go_simp; (try with_reducible rfl))
          refine wpAnyT_take 14 (v := ?_) rfl (by kernel_rfl) (by kernel_rfl) (by kernel_rfl) (fun _ _ _ h => h) (by kernel_rfl) (by kernel_rfl) (Or.inl ⟨by kernel_rfl, ?_⟩) (Only.refl Nil _) ?_
          rotate_left
          · (intro w' hw'; go_simp; (try with_reducible rfl))
          refine wpAnyT_take 15 (v := ?_) rfl (by kernel_rfl) (by kernel_rfl) (by kernel_rfl) (fun _ _ _ h => h) (by kernel_rfl) (by kernel_rfl) (Or.inl ⟨by kernel_rfl, ?_⟩) (Only.refl Nil _) ?_
          rotate_left
          · (intro w' hw'; go_simp; (try with_reducible rfl))
          refine wpAnyT_take 16 (v := ?_) rfl (by kernel_rfl) (by kernel_rfl) (by kernel_rfl) (fun _ _ _ h => h) (by kernel_rfl) (by kernel_rfl) (Or.inl ⟨by kernel_rfl, ?_⟩) (Only.refl Nil _) ?_
          rotate_left
          · (intro w' hw'; go_simp; (try with_reducible rfl))
          refine wpAnyT_take 17 (v := ?_) rfl (by kernel_rfl) (by kernel_rfl) (by kernel_rfl) (fun _ _ _ h => h) (by kernel_rfl) (by kernel_rfl) (Or.inl ⟨by kernel_rfl, ?_⟩) (Only.refl Nil _) ?_
          rotate_left
          · (intro w' hw'; go_simp; (try with_reducible rfl))
          refine wpAnyT_take 18 (v := ?_) rfl (by kernel_rfl) (by kernel_rfl) (by kernel_rfl) (fun _ _ _ h => h) (by kernel_rfl) (by kernel_rfl) (Or.inl ⟨by kernel_rfl, ?_⟩) (Only.refl Nil _) ?_
          rotate_left
          · (intro w' hw'; have e0 := M.Only.cell hw' (M.Only.cell hq cX1 (fun h => h)) (fun h => h); go_simp; (try with_reducible rfl))
          refine wpAnyT_take 19 (v := ?_) rfl (by kernel_rfl) (by kernel_rfl) (by kernel_rfl) (fun _ _ _ h => h) (by kernel_rfl) (by kernel_rfl) (Or.inl ⟨by kernel_rfl, ?_⟩) (Only.refl Nil _) ?_
          rotate_left
          · (intro w' hw'; go_simp; (try with_reducible rfl))
          refine wpAnyT_take 20 (v := ?_) rfl (by kernel_rfl) (by kernel_rfl) (by kernel_rfl) (fun _ _ _ h => h) (by kernel_rfl) (by kernel_rfl) (Or.inl ⟨by kernel_rfl, ?_⟩) (Only.refl Nil _) ?_
          rotate_left
          · (intro w' hw'; go_simp; (try with_reducible rfl))
          refine wpAnyT_take 21 (v := ?_) rfl (by kernel_rfl) (by kernel_rfl) (by kernel_rfl) (fun _ _ _ h => h) (by kernel_rfl) (by kernel_rfl) (Or.inl ⟨by kernel_rfl, ?_⟩) (Only.refl Nil _) ?_
          rotate_left
          · (intro w' hw'; go_simp; (try with_reducible rfl))
          refine wpAnyT_take 22 (v := ?_) rfl (by kernel_rfl) (by kernel_rfl) (by kernel_rfl) (fun _ _ _ h => h) (by kernel_rfl) (by kernel_rfl) (Or.inl ⟨by kernel_rfl, ?_⟩) (Only.refl Nil _) ?_
          rotate_left
          · (intro w' hw'; go_simp; (try with_reducible rfl))
          refine wpAnyT_take 23 (v := ?_) rfl (by kernel_rfl) (by kernel_rfl) (by kernel_rfl) (fun _ _ _ h => h) (by kernel_rfl) (by kernel_rfl) (Or.inl ⟨by kernel_rfl, ?_⟩) (Only.refl Nil _) ?_
          rotate_left
          · (intro w' hw'; have e0 := M.Only.cell hw' (M.Only.cell hq cX2 (fun h => h)) (fun h => h); go_simp; (try with_reducible rfl))
          refine wpAnyT_take 24 (v := ?_) rfl (by kernel_rfl) (by kernel_rfl) (by kernel_rfl) (fun _ _ _ h => h) (by kernel_rfl) (by kernel_rfl) (Or.inl ⟨by kernel_rfl, ?_⟩) (Only.refl Nil _) ?_
          rotate_left
          · (intro w' hw'; go_simp; (try with_reducible rfl))
          refine wpAnyT_one (i := 1) rfl (by kernel_rfl) (fun K hK => ?_)
          go_simp
          refine hK.out _ _ (fun _ => (Only.refl Nil wd).alloc _) ?_
          clear hK K
          have q_a := Blk.new wd #[.string ⟨#[32]⟩, .string ⟨#[10]⟩, .string ⟨#[9, 32]⟩, .string ⟨#[32, 40, 42, 32, 97, 32, 40, 42, 32, 98, 32, 42, 41, 32, 99, 32, 42, 41, 32]⟩, .string ⟨#[40, 42, 42, 41]⟩, .string ⟨#[32, 13, 10]⟩] 9
          have ho1x := alloc0 wd (.cells #[.string ⟨#[32]⟩, .string ⟨#[10]⟩, .string ⟨#[9, 32]⟩, .string ⟨#[32, 40, 42, 32, 97, 32, 40, 42, 32, 98, 32, 42, 41, 32, 99, 32, 42, 41, 32]⟩, .string ⟨#[40, 42, 42, 41]⟩, .string ⟨#[32, 13, 10]⟩] 9)
          obtain ⟨b_a, hb_a⟩ : ∃ z, wd.heap.size = z := ⟨_, rfl⟩
          have g_a : wq.heap.size ≤ b_a := by rw [← hb_a]; exact hq.size
          have l_a : b_a < (wd.alloc (.cells #[.string ⟨#[32]⟩, .string ⟨#[10]⟩, .string ⟨#[9, 32]⟩, .string ⟨#[32, 40, 42, 32, 97, 32, 40, 42, 32, 98, 32, 42, 41, 32, 99, 32, 42, 41, 32]⟩, .string ⟨#[40, 42, 42, 41]⟩, .string ⟨#[32, 13, 10]⟩] 9)).heap.size := by rw [← hb_a]; simp
          obtain ⟨w1x, hw1x⟩ : ∃ z, wd.alloc (.cells #[.string ⟨#[32]⟩, .string ⟨#[10]⟩, .string ⟨#[9, 32]⟩, .string ⟨#[32, 40, 42, 32, 97, 32, 40, 42, 32, 98, 32, 42, 41, 32, 99, 32, 42, 41, 32]⟩, .string ⟨#[40, 42, 42, 41]⟩, .string ⟨#[32, 13, 10]⟩] 9) = z := ⟨_, rfl⟩
          rw [hb_a] at q_a ⊢
          rw [hw1x] at q_a ho1x l_a   ⊢
          clear hb_a hw1x
          refine wpAnyT_sub (S' := fun w' => Only Nil w1x w') (fun _ h => Nil.trans ho1x h) ?_
          replace hq := Nil.trans hq ho1x
          clear ho1x
          refine wpAnyT_take 10 (v := ?_) rfl (by kernel_rfl) (by kernel_rfl) (by kernel_rfl) (fun _ _ _ h => h) (by kernel_rfl) (by kernel_rfl) (Or.inl ⟨by kernel_rfl, ?_⟩) (Only.refl Nil _) ?_
          rotate_left
          · (intro w' hw'; go_simp; (try with_reducible rfl))
          refine wpAnyT_take 11 (v := ?_) rfl (by kernel_rfl) (by kernel_rfl) (by kernel_rfl) (fun _ _ _ h => h) (by kernel_rfl) (by kernel_rfl) (Or.inl ⟨by kernel_rfl, ?_⟩) (Only.refl Nil _) ?_
          rotate_left
          · (intro w' hw'; have e0 := ((q_a.kept hw' (fun h => h)).cell g).trans HGT.out; go_simp; (try with_reducible rfl))
          refine wpAnyT_take 12 (v := ?_) rfl (by kernel_rfl) (by kernel_rfl) (by kernel_rfl) (fun _ _ _ h => h) (by kernel_rfl) (by kernel_rfl) (Or.inl ⟨by kernel_rfl, ?_⟩) (Only.refl Nil _) ?_
          rotate_left
          · (intro w' hw'; go_simp; (try with_reducible rfl))
          refine wpAnyT_take 25 (v := ?_) rfl (by kernel_rfl) (by kernel_rfl) (by kernel_rfl) (fun _ _ _ h => h) (by kernel_rfl) (by kernel_rfl) (Or.inl ⟨by kernel_rfl, ?_⟩) (Only.refl Nil _) ?_
          rotate_left
          · (intro w' hw'; go_simp; (try with_reducible rfl))
          refine wpAnyT_take 26 (v := ?_) rfl (by kernel_rfl) (by kernel_rfl) (by kernel_rfl) (fun _ _ _ h => h) (by kernel_rfl) (by kernel_rfl) (Or.inl ⟨by kernel_rfl, ?_⟩) (Only.refl Nil _) ?_
          rotate_left
          · (intro w' hw'; go_simp; (try with_reducible rfl))
          refine wpAnyT_done (by kernel_rfl) ?_
          have HQ := Lib.hid (Nil.trans HOK.out hq)
          clear q_a g_a l_a hq cG cX1 cX2
          go_wp2_with fail
          go_roundg (K - (k + 1))
          case measure => have := HG.out; have := HK2.out; omega
          case rel => exact ⟨k + 1, by rw [HSN.out], rfl, HK2.out, rfl, HQ.out⟩
        · have k1 : ¬ (k : Int) < (K : Int) := by omega
          have k3 : decide (k < K) = false := by simp; omega
          have ek : k = K := by omega
          have htk : ps.take k = ps := List.take_of_length_le (by rw [HPL.out]; omega)
          rw [htk]
          obtain ⟨T, hT⟩ : ∃ T, ps.foldl (fB X) ⟨#[]⟩ = T := ⟨_, rfl⟩
          rw [hT]
          obtain ⟨N, hN⟩ : ∃ N, T.size = N := ⟨_, rfl⟩
          have HBT := Lib.hid (HBS.out T hT.symm)
          have HO3 := Lib.hid (Nil.trans H3.out HOK.out)
          clear htk hT hkK hk
          by_cases h20 : 20000 < N
          · have n1 : (20000 : Int) < (N : Int) := by omega
            clear h20
            go_wp2_with fail
            go_ret
            exact ⟨rfl, HO3.out⟩
          · have n1 : ¬ (20000 : Int) < (N : Int) := by omega
            obtain ⟨B, hB, hBl, hBa⟩ := HBT.out (by omega)
            have c3 := all_any T N hN (by omega) wq (HA.out.kept HO3.out)
            rw [hB] at c3
            have HC3 := Lib.hid c3
            have HBA := Lib.hid hBa
            have HBL := Lib.hid hBl
            clear h20 c3 hB hBl hBa
            go_wp2_with fail
            refine HC3.out.mono ?_
            rintro e w5 ⟨⟨tu, rfl, hown5⟩, ho5⟩
            have HO5 := Lib.hid (Nil.trans HO3.out ho5)
            have HO35 := Lib.hid (Nil.trans HOK.out ho5)
            obtain ⟨bl, hbl⟩ : ∃ z, tu.ownBlock.getD 0 = z := ⟨_, rfl⟩
            have hTS := TSrc.of_own hown5
            rw [hbl] at hTS
            obtain ⟨ao, cap5, off5, e2, _, _, ha2, hT5⟩ := hTS
            rw [HBL.out] at e2 ha2
            have ea := ha2 (by have := HSM.out; omega)
            subst ea
            clear hbl hown5
            subst e2
            have HT5 := Lib.hid hT5
            have nm1 : ((m1 : Int) != (m1 : Int)) = false := by simp
            clear HC3 ho5 ha2 hT5
            go_wp2_with fail
            go_loopg [13] m1 (fun gj i wr => ∃ j : Nat, i = .int .i64 (j : Int) ∧ j ≤ m1 ∧ gj = m1 - j ∧ Only Nil w5 wr)
            case atStart => exact ⟨0, rfl, Nat.zero_le _, rfl, Only.refl _ _⟩
            case round =>
              obtain ⟨j, rfl, hj, hgj, hoj⟩ := hrel
              obtain ⟨wy, hwy⟩ : ∃ z, wr = z := ⟨_, rfl⟩
              rw [hwy] at hoj ⊢
              have HGJ := Lib.hid hgj
              have HOJ := Lib.hid hoj
              clear hwy hgj hoj
              have j0 : (0 : Int) ≤ (j : Int) := Int.natCast_nonneg _
              by_cases hjm : j < m1
              · have j1 : (j : Int) < (m1 : Int) := by omega
                have HJ1 := Lib.hid (show j + 1 ≤ m1 by omega)
                have hsm := HSM.out
                obtain ⟨y, hy⟩ : ∃ y, A[j]? = some y := ⟨_, List.getElem?_eq_getElem (by rw [HM1.out]; omega)⟩
                obtain ⟨z, hz⟩ : ∃ z, B[j]? = some z := ⟨_, List.getElem?_eq_getElem (by rw [HBL.out]; omega)⟩
                have hal := HBA.out j y z hy hz
                have htx := alike_text hal
                have by2 := HIN.out y (List.mem_of_getElem? hy)
                obtain ⟨a1, a2, a3, a4, a5, _⟩ := hal
                have a4 : z.fin ≤ N := by rw [← hN]; exact a4
                obtain ⟨Y0, Y1, Y2, Y3, Y4⟩ := HT.out j y hy
                obtain ⟨Z0, Z1, Z2, Z3, Z4⟩ := HT5.out j z hz
                rw [a1] at Z0
                rw [a2] at Z4
                rw [htx] at Z3
                obtain ⟨kd, hkd⟩ : ∃ z, y.kind = z := ⟨_, rfl⟩
                obtain ⟨ss, hss⟩ : ∃ z, X.extract y.a y.b = z := ⟨_, rfl⟩
                obtain ⟨nn, hnn⟩ : ∃ z, y.num = z := ⟨_, rfl⟩
                obtain ⟨yp, hyp⟩ : ∃ z, y.pos = z := ⟨_, rfl⟩
                obtain ⟨yf, hyf⟩ : ∃ z, y.fin = z := ⟨_, rfl⟩
                obtain ⟨zp, hzp⟩ : ∃ q, z.pos = q := ⟨_, rfl⟩
                obtain ⟨zf, hzf⟩ : ∃ q, z.fin = q := ⟨_, rfl⟩
                rw [hkd] at Y0 Z0
                rw [hss] at Y3 Z3
                rw [hnn] at Y4 Z4
                rw [hyp] at Y1 a5 by2
                rw [hyf] at Y2 a5 by2
                rw [hzp] at Z1 a5 a3
                rw [hzf] at Z2 a5 a3 a4
                obtain ⟨dl, hdl⟩ : ∃ d, yf - yp = d := ⟨_, rfl⟩
                rw [hdl] at a5
                have wy1 : IntKind.i64.wrap ((yf : Int) - (yp : Int)) = (dl : Int) := by rw [IntKind.wrap]; simp [IntKind.bits, IntKind.signed]; omega
                have wz1 : IntKind.i64.wrap ((zf : Int) - (zp : Int)) = (dl : Int) := by rw [IntKind.wrap]; simp [IntKind.bits, IntKind.signed]; omega
                have b0 := (Nil.trans HO35.out HOJ.out).cell Y0 (fun h => h)
                have b1 := (Nil.trans HO35.out HOJ.out).cell Y1 (fun h => h)
                have b2 := (Nil.trans HO35.out HOJ.out).cell Y2 (fun h => h)
                have b3 := (Nil.trans HO35.out HOJ.out).cell Y3 (fun h => h)
                have b4 := (Nil.trans HO35.out HOJ.out).cell Y4 (fun h => h)
                have d0 := HOJ.out.cell Z0 (fun h => h)
                have d1 := HOJ.out.cell Z1 (fun h => h)
                have d2 := HOJ.out.cell Z2 (fun h => h)
                have d3 := HOJ.out.cell Z3 (fun h => h)
                have d4 := HOJ.out.cell Z4 (fun h => h)
                have v1 : ((kd : Int) != (kd : Int)) = false := by simp
                have v2 : (ss.toList == ss.toList) = true := by simp
                have v3 : ((nn : Int) != (nn : Int)) = false := by simp
                have v4 : ((dl : Int) != (dl : Int)) = false := by simp
                have wi : IntKind.i64.wrap ((j : Int) + 1) = ((j + 1 : Nat) : Int) := by rw [IntKind.wrap]; simp [IntKind.bits, IntKind.signed]; omega
                clear hj hsm hy hz htx by2 a1 a2 a3 a4 a5 Y0 Y1 Y2 Y3 Y4 Z0 Z1 Z2 Z3 Z4 hkd hss hnn hyp hyf hzp hzf hdl k1 k3 ek
                go_wp2_with fail
                go_quiet (fail)
                go_wp2_with fail
                go_roundg (m1 - (j + 1))
                case measure => have := HGJ.out; have := HJ1.out; omega
                case rel => exact ⟨j + 1, rfl, HJ1.out, rfl, HOJ.out.drewN _⟩
              · have j1 : ¬ (j : Int) < (m1 : Int) := by omega
                have j3 : decide (j < m1) = false := by simp; omega
                clear hj hjm
                go_wp2_with fail
                go_ret
                exact ⟨rfl, Nil.trans HO5.out HOJ.out⟩
end Go.Proofs.YtbpdhpfcknaaiaaDoor

