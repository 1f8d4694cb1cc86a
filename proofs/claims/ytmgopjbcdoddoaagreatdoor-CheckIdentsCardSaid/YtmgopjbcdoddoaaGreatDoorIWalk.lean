/- Identifiers: recheck.Ident and the document's Ident of any text. -/
import Derived.Test.YtmgopjbcdoddoaaGreatDoorIBoth
set_option linter.unusedSimpArgs false
set_option linter.unusedVariables false
namespace Go.Proofs.YtmgopjbcdoddoaaGreatDoor
open Go.RowKit M

set_option maxRecDepth 10000 in
set_option maxHeartbeats 3200000 in
theorem identI_any (s : ByteArray) (n : Nat) (hn : s.size = n) (hb : n ≤ 1000000) (m : Int) (w : World) (hm : w.cell? ⟨0, 0, none⟩ = some (.int .i64 m)) :
    Calls Tryz.prog 5 #[.string s] w fun e w' => e = .returned (.bool (idI s)) ∧ w' = w := by
  by_cases h0 : n = 0
  · have hs : s = ⟨#[]⟩ := by
      apply ByteArray.ext; apply Array.toList_inj.1; apply List.eq_nil_of_length_eq_zero; rw [size_list, hn, h0]
    subst hs
    have hI : idI ⟨#[]⟩ = false := rfl
    rw [hI]
    clear hn hm hI
    go_enter Tryz.func5, Tryz.ntmps5
    go_wp2_with fail
    go_ret
    exact ⟨rfl, rfl⟩
  have hn0 : 0 < n := by omega
  have hse : s.toList.isEmpty = false := by
    have h1 : s.toList.length = n := by rw [Lib.toList_data, size_list, hn]
    cases h2 : s.toList with
    | nil => rw [h2] at h1; simp at h1; omega
    | cons x l => rfl
  have hsn : ¬ s = ⟨#[]⟩ := fun e => h0 (by rw [← hn, e]; rfl)
  have hI := idI_of s n hn hn0
  obtain ⟨R, hR⟩ : ∃ R, idI s = R := ⟨_, rfl⟩
  rw [hR] at hI ⊢
  clear hR
  by_cases h32 : 32 < n
  · have q : (32 : Int) < (n : Int) := by omega
    rw [decide_eq_true h32, Bool.not_true, Bool.false_and] at hI
    subst hI
    clear hm
    go_enter Tryz.func5, Tryz.ntmps5
    go_wp2_with fail
    go_ret
    exact ⟨rfl, rfl⟩
  have q32 : ¬ (32 : Int) < (n : Int) := by omega
  rw [decide_eq_false h32, Bool.not_false, Bool.true_and] at hI
  have ix0 := fun w => ix_lit s n 0 0 rfl hn hn0 w
  have cD0 := fun w => isDigitI_any (bt s 0) w
  obtain ⟨d, hd⟩ : ∃ d, digN (bt s 0) = d := ⟨_, rfl⟩
  rw [hd] at cD0 hI
  cases d
  case true =>
    rw [Bool.not_true, Bool.false_and] at hI
    subst hI
    clear hm hd
    go_enter Tryz.func5, Tryz.ntmps5
    go_wp2_with (go_at_call 8; refine (cD0 _).mono ?_; rintro e w1 ⟨rfl, rfl⟩)
    go_ret
    exact ⟨rfl, rfl⟩
  rw [Bool.not_false, Bool.true_and] at hI
  have HI := Lib.hid hI
  have HM := Lib.hid hm
  clear hI hm hd h32
  go_enter Tryz.func5, Tryz.ntmps5
  go_wp2_with (go_at_call 8; refine (cD0 _).mono ?_; rintro e w1 ⟨rfl, rfl⟩)
  clear ix0 cD0
  go_loopg [19] n (fun g i wr => wr = w ∧ ∃ (j : Nat), i = .int .i64 (j : Int) ∧ j ≤ n ∧ g = n - j ∧ ∀ k, k < j → okN (bt s k) = true)
  case atStart => exact ⟨rfl, 0, rfl, by omega, rfl, fun k hk => by omega⟩
  case round =>
    obtain ⟨rfl, j, rfl, hj, hg, hc⟩ := hrel
    have HG := Lib.hid hg
    have HC := Lib.hid hc
    clear hg hc
    have j0 : (0 : Int) ≤ (j : Int) := Int.natCast_nonneg _
    by_cases hj2 : j < n
    · have j1 : (j : Int) < (n : Int) := by omega
      have cD := fun w => isDigitI_any (bt s j) w
      have cL := fun w => isLetterI_any (bt s j) w
      have ix := fun w => ix_at s n j hn hj2 w
      obtain ⟨p, hp⟩ : ∃ p, digN (bt s j) = p := ⟨_, rfl⟩
      obtain ⟨q, hq⟩ : ∃ q, letN (bt s j) = q := ⟨_, rfl⟩
      have HP := Lib.hid hp
      have HQ := Lib.hid hq
      rw [hp] at cD
      rw [hq] at cL
      clear hp hq
      cases p
      · cases q
        · have hall := all_false okN s n j hn hj2 (by unfold okN; rw [HP.out, HQ.out]; rfl)
          have hI := HI.out
          rw [hall, Bool.false_and] at hI
          subst hI
          clear hall
          go_wp2_with first | (go_at_call 8; refine (cD _).mono ?_; rintro e w1 ⟨rfl, rfl⟩) | (go_at_call 9; refine (cL _).mono ?_; rintro e w1 ⟨rfl, rfl⟩)
          go_ret
          exact ⟨rfl, rfl⟩
        · go_wp2_with first | (go_at_call 8; refine (cD _).mono ?_; rintro e w1 ⟨rfl, rfl⟩) | (go_at_call 9; refine (cL _).mono ?_; rintro e w1 ⟨rfl, rfl⟩)
          go_roundg (n - (j + 1))
          case measure => have := HG.out; omega
          case rel =>
            refine ⟨rfl, j + 1, by go_num, by omega, by omega, fun k hk => ?_⟩
            by_cases e : k = j
            · subst e; unfold okN; rw [HP.out, HQ.out]; rfl
            · exact HC.out k (by omega)
      · go_wp2_with first | (go_at_call 8; refine (cD _).mono ?_; rintro e w1 ⟨rfl, rfl⟩) | (go_at_call 9; refine (cL _).mono ?_; rintro e w1 ⟨rfl, rfl⟩)
        go_roundg (n - (j + 1))
        case measure => have := HG.out; omega
        case rel =>
          refine ⟨rfl, j + 1, by go_num, by omega, by omega, fun k hk => ?_⟩
          by_cases e : k = j
          · subst e; unfold okN; rw [HP.out]; rfl
          · exact HC.out k (by omega)
    · have ej : j = n := by omega
      subst ej
      have hall := all_true okN s j hn HC.out
      have hI := HI.out
      rw [hall, Bool.true_and] at hI
      clear hall
      have hm := HM.out
      have c1 := Tryz.strings_Contains ⟨kwI.toArray⟩ (⟨#[32]⟩ ++ s ++ ⟨#[32]⟩) m wr (by decide +kernel) hm
      have c2 := Tryz.strings_Contains ⟨stI.toArray⟩ (⟨#[32]⟩ ++ s ++ ⟨#[32]⟩) m wr (by decide +kernel) hm
      have ew : ((⟨#[32]⟩ : ByteArray) ++ s ++ ⟨#[32]⟩).data.toList = 32 :: (s.data.toList ++ [32]) := by simp [ByteArray.data_append]
      rw [ew, show (⟨kwI.toArray⟩ : ByteArray).data.toList = kwI from rfl] at c1
      rw [ew, show (⟨stI.toArray⟩ : ByteArray).data.toList = stI from rfl] at c2
      obtain ⟨p, hp⟩ : ∃ p, Lib.contains kwI (32 :: (s.data.toList ++ [32])) = p := ⟨_, rfl⟩
      obtain ⟨q, hq⟩ : ∃ q, Lib.contains stI (32 :: (s.data.toList ++ [32])) = q := ⟨_, rfl⟩
      rw [hp] at c1 hI
      rw [hq] at c2 hI
      have C1 := Lib.hid c1
      have C2 := Lib.hid c2
      clear hp hq c1 c2 ew hm
      subst hI
      cases p <;> cases q
      all_goals
        go_wp2_with first | (refine C1.out.mono ?_; rintro e w1 ⟨rfl, rfl⟩) | (refine C2.out.mono ?_; rintro e w1 ⟨rfl, rfl⟩)
        go_ret
        exact ⟨rfl, rfl⟩
end Go.Proofs.YtmgopjbcdoddoaaGreatDoor
