/- Identifiers: the document's Ident of any text. -/
import Derived.Test.YtmgopjbcdoddoaaGreatDoorIBoth
set_option linter.unusedSimpArgs false
set_option linter.unusedVariables false
namespace Go.Proofs.YtmgopjbcdoddoaaGreatDoor
open Go.RowKit M

theorem range_false (f : Nat → Bool) (n k : Nat) (hk : k < n) (h : f k = false) : (List.range n).all f = false := by
  rw [← Bool.not_eq_true, List.all_eq_true]
  intro q
  have := q k (List.mem_range.2 hk)
  rw [h] at this; cases this
theorem range_true (f : Nat → Bool) (n : Nat) (h : ∀ k, k < n → f k = true) : (List.range n).all f = true := by
  rw [List.all_eq_true]
  intro k hk
  exact h k (List.mem_range.1 hk)

set_option maxRecDepth 10000 in
set_option maxHeartbeats 6400000 in
theorem identR_any (s : ByteArray) (n : Nat) (hn : s.size = n) (hb : n ≤ 1000000) (w : World) :
    Calls Tryz.prog 6 #[.string s] w fun e w' => e = .returned (.bool (idD s)) ∧ Only Nil w w' := by
  by_cases h0 : n = 0
  · have hs : s = ⟨#[]⟩ := by
      apply ByteArray.ext; apply Array.toList_inj.1; apply List.eq_nil_of_length_eq_zero; rw [size_list, hn, h0]
    subst hs
    have hI : idD ⟨#[]⟩ = false := rfl
    rw [hI]
    clear hn hI
    go_enter Tryz.func6, Tryz.ntmps6
    go_wp2_with fail
    go_ret
    exact ⟨rfl, Only.refl _ _⟩
  have hn0 : 0 < n := by omega
  have hse : s.toList.isEmpty = false := by
    have h1 : s.toList.length = n := by rw [Lib.toList_data, size_list, hn]
    cases h2 : s.toList with
    | nil => rw [h2] at h1; simp at h1; omega
    | cons x l => rfl
  have hsn : ¬ s = ⟨#[]⟩ := fun e => h0 (by rw [← hn, e]; rfl)
  have hI := idD_of s n hn hn0
  obtain ⟨R, hR⟩ : ∃ R, idD s = R := ⟨_, rfl⟩
  rw [hR] at hI ⊢
  clear hR
  by_cases h32 : 32 < n
  · have q : (32 : Int) < (n : Int) := by omega
    rw [decide_eq_true h32, Bool.not_true, Bool.false_and] at hI
    subst hI
    go_enter Tryz.func6, Tryz.ntmps6
    go_wp2_with fail
    go_ret
    exact ⟨rfl, Only.refl _ _⟩
  have q32 : ¬ (32 : Int) < (n : Int) := by omega
  rw [decide_eq_false h32, Bool.not_false, Bool.true_and] at hI
  have cK := fun w => keywordR_any s w
  have cT := fun w => taken_any s w
  obtain ⟨d, hd⟩ : ∃ d, kwB s = d := ⟨_, rfl⟩
  obtain ⟨t, ht⟩ : ∃ t, tkB s = t := ⟨_, rfl⟩
  simp only [hd] at cK hI
  simp only [ht] at cT hI
  clear hd ht
  cases d
  case true =>
    rw [Bool.not_true, Bool.false_and] at hI
    subst hI
    go_enter Tryz.func6, Tryz.ntmps6
    go_wp2_with (go_at_call 11; refine (cK _).mono ?_; rintro e w1 ⟨rfl, ho⟩)
    go_ret
    exact ⟨rfl, ho⟩
  cases t
  case true =>
    rw [Bool.not_true, Bool.false_and, Bool.and_false] at hI
    subst hI
    go_enter Tryz.func6, Tryz.ntmps6
    go_wp2_with first | (go_at_call 11; refine (cK _).mono ?_; rintro e w1 ⟨rfl, ho⟩) | (go_at_call 12; refine (cT _).mono ?_; rintro e w2 ⟨rfl, rfl⟩)
    go_ret
    exact ⟨rfl, ho⟩
  rw [Bool.not_false, Bool.true_and, Bool.true_and] at hI
  have HI := Lib.hid hI
  clear hI h32
  go_enter Tryz.func6, Tryz.ntmps6
  go_wp2_with first | (go_at_call 11; refine (cK _).mono ?_; rintro e w1 ⟨rfl, ho⟩) | (go_at_call 12; refine (cT _).mono ?_; rintro e w2 ⟨rfl, rfl⟩)
  clear cK cT
  have HO := Lib.hid ho
  clear ho
  go_loopg [3] n (fun g i wr => wr = w1 ∧ ∃ (j : Nat), i = .int .i64 (j : Int) ∧ j ≤ n ∧ g = n - j ∧ ∀ k, k < j → fD s k = true)
  case atStart => exact ⟨rfl, 0, rfl, by omega, rfl, fun k hk => by omega⟩
  case round =>
    obtain ⟨rfl, j, rfl, hj, hg, hc⟩ := hrel
    have HG := Lib.hid hg
    have HC := Lib.hid hc
    clear hg hc
    have j0 : (0 : Int) ≤ (j : Int) := Int.natCast_nonneg _
    by_cases hj2 : j < n
    · have j1 : (j : Int) < (n : Int) := by omega
      have ix := fun w => ix_at s n j hn hj2 w
      have HF : Hid (fD s j = (letN (bt s j) || (decide (0 < j) && digN (bt s j)))) := Lib.hid rfl
      obtain ⟨c, hcc⟩ : ∃ c, bt s j = c := ⟨_, rfl⟩
      rw [hcc] at ix HF
      clear hcc
      have good : fD s j = true → Hid (∀ k, k < j + 1 → fD s k = true) := fun q => Lib.hid fun k hk => by
        by_cases e : k = j
        · subst e; exact q
        · exact HC.out k (by omega)
      have bad : fD s j = false → Hid (R = false) := fun q => Lib.hid (by rw [HI.out, range_false _ n j hj2 q])
      go_wp2_with fail
      all_goals try simp only [Bool.not_eq_false', Bool.not_eq_true', decide_eq_true_eq, decide_eq_false_iff_not] at *
      all_goals first
        | (exfalso; omega)
        | (have hR := (good (by rw [HF.out]; unfold letN digN; simp only [Bool.or_eq_true, Bool.and_eq_true, decide_eq_true_eq]; omega))
           go_roundg (n - (j + 1))
           case measure => have := HG.out; omega
           case rel => exact ⟨rfl, j + 1, by go_num, by omega, by omega, hR.out⟩)
        | (have hR := (bad (by rw [HF.out, ← Bool.not_eq_true]; unfold letN digN; simp only [Bool.or_eq_true, Bool.and_eq_true, decide_eq_true_eq]; omega)).out
           subst hR
           go_ret
           exact ⟨rfl, HO.out⟩)
    · have ej : j = n := by omega
      subst ej
      have hall := range_true _ j HC.out
      have hI := HI.out
      rw [hall] at hI
      subst hI
      go_wp2_with fail
      go_ret
      exact ⟨rfl, HO.out⟩
end Go.Proofs.YtmgopjbcdoddoaaGreatDoor
