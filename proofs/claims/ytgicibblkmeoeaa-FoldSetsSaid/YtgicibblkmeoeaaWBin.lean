/- The document's operators of two. -/
import Derived.Test.YtgicibblkmeoeaaProg
import Derived.Test.YtgicibblkmeoeaaWLeafR
import Derived.Test.YtgicibblkmeoeaaQSame
import Derived.Test.YtgicibblkmeoeaaACalls
import Derived.Test.YtgicibblkmeoeaaABits
import Derived.Test.YtgicibblkmeoeaaASpan
import Derived.Laws.BitsAllLaws
set_option linter.unusedSimpArgs false
set_option linter.unusedVariables false
namespace Go.Proofs.Ytgicibblkmeoeaa
open Go.RowKit M


theorem or_i (a b : Int) (ha : I32 a) (hb : I32 b) : bits .or .i32 a b = S (U a ||| U b) := by
  have := or_S _ _ (U_lt a) (U_lt b); rwa [S_U a ha, S_U b hb] at this
theorem and_i (a b : Int) (ha : I32 a) (hb : I32 b) : bits .and .i32 a b = S (U a &&& U b) := by
  have := and_S _ _ (U_lt a) (U_lt b); rwa [S_U a ha, S_U b hb] at this
theorem xor_i (a b : Int) (ha : I32 a) (hb : I32 b) : bits .xor .i32 a b = S (U a ^^^ U b) := by
  have := xor_S _ _ (U_lt a) (U_lt b); rwa [S_U a ha, S_U b hb] at this
theorem andNot_i (a b : Int) (ha : I32 a) (hb : I32 b) : bits .andNot .i32 a b = S (U a &&& (4294967295 - U b)) := by
  have := andNot_S _ _ (U_lt a) (U_lt b); rwa [S_U a ha, S_U b hb] at this
set_option maxHeartbeats 1600000 in
theorem binary_any (op f a b : Int) (w : World) (h : (9 ≤ op ∧ op ≤ 22) ∨ op = 29 ∨ op = 30 ∨ op = 31) (ha : I32 a) (hb : I32 b) :
    Calls Try.prog 118 #[.int .i64 op, .int .i64 f, .int .i32 a, .int .i32 b] w fun e w' => VEnd 0 (binM op f a b) e ∧ w = w' := by
  have hf : op = 9 ∨ op = 10 ∨ op = 11 ∨ op = 12 ∨ op = 13 ∨ op = 14 ∨ op = 15 ∨ op = 16 ∨ op = 17 ∨ op = 18 ∨ op = 19 ∨ op = 20 ∨ op = 21 ∨ op = 22 ∨ op = 29 ∨ op = 30 ∨ op = 31 := by omega
  have HA := Lib.hid ha
  have HB := Lib.hid hb
  clear h ha hb
  rcases hf with rfl | rfl | rfl | rfl | rfl | rfl | rfl | rfl | rfl | rfl | rfl | rfl | rfl | rfl | rfl | rfl | rfl
  · by_cases hf : f = 4
    · subst hf
      have E := Lib.hid (show binM 9 4 a b = some (S (setsM 9 (U a) (U b))) from rfl)
      have EV := Lib.hid (or_i a b HA.out HB.out)
      go_enter Try.func118, Try.ntmps118
      go_wp2
      go_ret2
      exact ⟨vend_some E.out EV.out, rfl⟩

    · have e1 : (f == 4) = false := by simpa using hf
      have EB := Lib.hid (show binM 9 f a b = twoM 9 a b by unfold binM; simp [hf])
      clear hf
      have E := Lib.hid (show twoM 9 a b = some (wrap32 (a + b)) from rfl)
      go_enter Try.func118, Try.ntmps118
      go_wp2
      go_ret2
      exact ⟨vend_some (EB.out.trans E.out) rfl, rfl⟩
  · by_cases hf : f = 4
    · subst hf
      have E := Lib.hid (show binM 10 4 a b = some (S (setsM 10 (U a) (U b))) from rfl)
      have EV := Lib.hid (andNot_i a b HA.out HB.out)
      go_enter Try.func118, Try.ntmps118
      go_wp2
      go_ret2
      exact ⟨vend_some E.out EV.out, rfl⟩

    · have e1 : (f == 4) = false := by simpa using hf
      have EB := Lib.hid (show binM 10 f a b = twoM 10 a b by unfold binM; simp [hf])
      clear hf
      have E := Lib.hid (show twoM 10 a b = some (wrap32 (a - b)) from rfl)
      go_enter Try.func118, Try.ntmps118
      go_wp2
      go_ret2
      exact ⟨vend_some (EB.out.trans E.out) rfl, rfl⟩
  · by_cases hf : f = 4
    · subst hf
      have E := Lib.hid (show binM 11 4 a b = some (S (setsM 11 (U a) (U b))) from rfl)
      have EV := Lib.hid (and_i a b HA.out HB.out)
      go_enter Try.func118, Try.ntmps118
      go_wp2
      go_ret2
      exact ⟨vend_some E.out EV.out, rfl⟩

    · have e1 : (f == 4) = false := by simpa using hf
      have EB := Lib.hid (show binM 11 f a b = twoM 11 a b by unfold binM; simp [hf])
      clear hf
      have E := Lib.hid (show twoM 11 a b = some (wrap32 (a * b)) from rfl)
      go_enter Try.func118, Try.ntmps118
      go_wp2
      go_ret2
      exact ⟨vend_some (EB.out.trans E.out) rfl, rfl⟩
  · by_cases hf : f = 4
    · subst hf
      have E := Lib.hid (show binM 12 4 a b = some (S (setsM 12 (U a) (U b))) from rfl)
      have EV := Lib.hid (xor_i a b HA.out HB.out)
      go_enter Try.func118, Try.ntmps118
      go_wp2
      go_ret2
      exact ⟨vend_some E.out EV.out, rfl⟩

    · have e1 : (f == 4) = false := by simpa using hf
      have EB := Lib.hid (show binM 12 f a b = twoM 12 a b by unfold binM; simp [hf])
      clear hf
      by_cases h1 : 1 ≤ b
      · have c := div_any1 a b w HA.out h1 HB.out.2
        have E := Lib.hid (show twoM 12 a b = some (a / b) by unfold twoM; simp [h1])
        clear h1
        go_enter Try.func118, Try.ntmps118
        go_wp2_with (go_at_call 154; refine c.mono ?_; rintro e w1 ⟨rfl, rfl⟩)
        go_ret2
        exact ⟨vend_some (EB.out.trans E.out) rfl, rfl⟩

      · have c := div_no1 a b w (by omega)
        have E := Lib.hid (show twoM 12 a b = none by unfold twoM; simp [h1])
        clear h1
        go_enter Try.func118, Try.ntmps118
        go_wp2_with (go_at_call 154; refine c.mono ?_; rintro e w1 ⟨rfl, rfl⟩)
        go_ret2
        exact ⟨vend_none (EB.out.trans E.out), rfl⟩

  ·
    have EB := Lib.hid (show binM 13 f a b = twoM 13 a b by unfold binM; simp)
    obtain ⟨bf, hbf⟩ : ∃ bf, (f == 4) = bf := ⟨_, rfl⟩
    by_cases h1 : 1 ≤ b
    · have c := mod_any1 a b w HA.out h1 HB.out.2
      have E := Lib.hid (show twoM 13 a b = some (a % b) by unfold twoM; simp [h1])
      clear h1
      go_enter Try.func118, Try.ntmps118
      go_wp2_with (go_at_call 155; refine c.mono ?_; rintro e w1 ⟨rfl, rfl⟩)
      go_ret2
      exact ⟨vend_some (EB.out.trans E.out) rfl, rfl⟩

    · have c := mod_no1 a b w (by omega)
      have E := Lib.hid (show twoM 13 a b = none by unfold twoM; simp [h1])
      clear h1
      go_enter Try.func118, Try.ntmps118
      go_wp2_with (go_at_call 155; refine c.mono ?_; rintro e w1 ⟨rfl, rfl⟩)
      go_ret2
      exact ⟨vend_none (EB.out.trans E.out), rfl⟩

  ·
    have EB := Lib.hid (show binM 14 f a b = twoM 14 a b by unfold binM; simp)
    obtain ⟨bf, hbf⟩ : ∃ bf, (f == 4) = bf := ⟨_, rfl⟩
    by_cases ha : a = 0
    · subst ha
      have E := Lib.hid (show twoM 14 0 b = some (flagM (b != 0)) from rfl)
      have d := flag_any (b != 0)
      obtain ⟨r, hr⟩ : ∃ r, (b != 0) = r := ⟨_, rfl⟩
      rw [hr] at d E
      go_enter Try.func118, Try.ntmps118
      go_wp2_with (go_at_call 156; refine (d w).mono ?_; rintro e w1 ⟨rfl, rfl⟩)
      go_ret2
      exact ⟨vend_some (EB.out.trans E.out) rfl, rfl⟩

    · have e1 := bne_of ha
      have E := Lib.hid (show twoM 14 a b = some (flagM (true)) by show some (flagM _) = _; simp [e1, holdsM])
      have d := flag_any (true)


      clear ha
      go_enter Try.func118, Try.ntmps118
      go_wp2_with (go_at_call 156; refine (d w).mono ?_; rintro e w1 ⟨rfl, rfl⟩)
      go_ret2
      exact ⟨vend_some (EB.out.trans E.out) rfl, rfl⟩

  ·
    have EB := Lib.hid (show binM 15 f a b = twoM 15 a b by unfold binM; simp)
    obtain ⟨bf, hbf⟩ : ∃ bf, (f == 4) = bf := ⟨_, rfl⟩
    by_cases ha : a = 0
    · subst ha
      have E := Lib.hid (show twoM 15 0 b = some (flagM (false)) from rfl)
      have d := flag_any (false)


      go_enter Try.func118, Try.ntmps118
      go_wp2_with (go_at_call 156; refine (d w).mono ?_; rintro e w1 ⟨rfl, rfl⟩)
      go_ret2
      exact ⟨vend_some (EB.out.trans E.out) rfl, rfl⟩

    · have e1 := bne_of ha
      have E := Lib.hid (show twoM 15 a b = some (flagM (b != 0)) by show some (flagM _) = _; simp [e1, holdsM])
      have d := flag_any (b != 0)
      obtain ⟨r, hr⟩ : ∃ r, (b != 0) = r := ⟨_, rfl⟩
      rw [hr] at d E
      clear ha
      go_enter Try.func118, Try.ntmps118
      go_wp2_with (go_at_call 156; refine (d w).mono ?_; rintro e w1 ⟨rfl, rfl⟩)
      go_ret2
      exact ⟨vend_some (EB.out.trans E.out) rfl, rfl⟩

  ·
    have EB := Lib.hid (show binM 16 f a b = twoM 16 a b by unfold binM; simp)
    obtain ⟨bf, hbf⟩ : ∃ bf, (f == 4) = bf := ⟨_, rfl⟩
    have E := Lib.hid (show twoM 16 a b = some (flagM (a == b)) from rfl)
    have d := flag_any (a == b)
    obtain ⟨r, hr⟩ : ∃ r, (a == b) = r := ⟨_, rfl⟩
    rw [hr] at d E
    go_enter Try.func118, Try.ntmps118
    go_wp2_with (go_at_call 156; refine (d w).mono ?_; rintro e w1 ⟨rfl, rfl⟩)
    go_ret2
    exact ⟨vend_some (EB.out.trans E.out) rfl, rfl⟩

  ·
    have EB := Lib.hid (show binM 17 f a b = twoM 17 a b by unfold binM; simp)
    obtain ⟨bf, hbf⟩ : ∃ bf, (f == 4) = bf := ⟨_, rfl⟩
    have E := Lib.hid (show twoM 17 a b = some (flagM (a != b)) from rfl)
    have d := flag_any (a != b)
    obtain ⟨r, hr⟩ : ∃ r, (a != b) = r := ⟨_, rfl⟩
    rw [hr] at d E
    go_enter Try.func118, Try.ntmps118
    go_wp2_with (go_at_call 156; refine (d w).mono ?_; rintro e w1 ⟨rfl, rfl⟩)
    go_ret2
    exact ⟨vend_some (EB.out.trans E.out) rfl, rfl⟩

  ·
    have EB := Lib.hid (show binM 18 f a b = twoM 18 a b by unfold binM; simp)
    obtain ⟨bf, hbf⟩ : ∃ bf, (f == 4) = bf := ⟨_, rfl⟩
    have E := Lib.hid (show twoM 18 a b = some (flagM (decide (a < b))) from rfl)
    have d := flag_any (decide (a < b))
    obtain ⟨r, hr⟩ : ∃ r, (decide (a < b)) = r := ⟨_, rfl⟩
    rw [hr] at d E
    go_enter Try.func118, Try.ntmps118
    go_wp2_with (go_at_call 156; refine (d w).mono ?_; rintro e w1 ⟨rfl, rfl⟩)
    go_ret2
    exact ⟨vend_some (EB.out.trans E.out) rfl, rfl⟩

  ·
    have EB := Lib.hid (show binM 19 f a b = twoM 19 a b by unfold binM; simp)
    obtain ⟨bf, hbf⟩ : ∃ bf, (f == 4) = bf := ⟨_, rfl⟩
    have E := Lib.hid (show twoM 19 a b = some (flagM (decide (a ≤ b))) from rfl)
    have d := flag_any (decide (a ≤ b))
    obtain ⟨r, hr⟩ : ∃ r, (decide (a ≤ b)) = r := ⟨_, rfl⟩
    rw [hr] at d E
    go_enter Try.func118, Try.ntmps118
    go_wp2_with (go_at_call 156; refine (d w).mono ?_; rintro e w1 ⟨rfl, rfl⟩)
    go_ret2
    exact ⟨vend_some (EB.out.trans E.out) rfl, rfl⟩

  ·
    have EB := Lib.hid (show binM 20 f a b = twoM 20 a b by unfold binM; simp)
    obtain ⟨bf, hbf⟩ : ∃ bf, (f == 4) = bf := ⟨_, rfl⟩
    have E := Lib.hid (show twoM 20 a b = some (flagM (decide (b < a))) from rfl)
    have d := flag_any (decide (b < a))
    obtain ⟨r, hr⟩ : ∃ r, (decide (b < a)) = r := ⟨_, rfl⟩
    rw [hr] at d E
    go_enter Try.func118, Try.ntmps118
    go_wp2_with (go_at_call 156; refine (d w).mono ?_; rintro e w1 ⟨rfl, rfl⟩)
    go_ret2
    exact ⟨vend_some (EB.out.trans E.out) rfl, rfl⟩

  ·
    have EB := Lib.hid (show binM 21 f a b = twoM 21 a b by unfold binM; simp)
    obtain ⟨bf, hbf⟩ : ∃ bf, (f == 4) = bf := ⟨_, rfl⟩
    have E := Lib.hid (show twoM 21 a b = some (flagM (decide (b ≤ a))) from rfl)
    have d := flag_any (decide (b ≤ a))
    obtain ⟨r, hr⟩ : ∃ r, (decide (b ≤ a)) = r := ⟨_, rfl⟩
    rw [hr] at d E
    go_enter Try.func118, Try.ntmps118
    go_wp2_with (go_at_call 156; refine (d w).mono ?_; rintro e w1 ⟨rfl, rfl⟩)
    go_ret2
    exact ⟨vend_some (EB.out.trans E.out) rfl, rfl⟩

  ·
    have EB := Lib.hid (show binM 22 f a b = twoM 22 a b by unfold binM; simp)
    obtain ⟨bf, hbf⟩ : ∃ bf, (f == 4) = bf := ⟨_, rfl⟩
    by_cases hb : 0 ≤ a ∧ a < 32
    · obtain ⟨n, rfl⟩ := Int.eq_ofNat_of_zero_le hb.1
      have hn : n < 32 := by omega
      have hn2 : (n : Int) < 32 := hb.2
      have c := fun w => has_any1 n b w hn HB.out
      have d := flag_any ((U b).testBit n)
      have E := Lib.hid (show twoM 22 (n : Int) b = some (flagM ((U b).testBit n)) by show some (flagM _) = _; simp [holdsM, hn2])
      clear hb hn hn2
      go_enter Try.func118, Try.ntmps118
      go_wp2_with (first | (go_at_call 157; refine (c _).mono ?_; rintro e w1 ⟨rfl, rfl⟩) | (go_at_call 156; refine (d _).mono ?_; rintro e w1 ⟨rfl, rfl⟩))
      go_ret2
      exact ⟨vend_some (EB.out.trans E.out) rfl, rfl⟩

    · have c := fun w => has_no1 a b w hb
      have d := flag_any false
      have E := Lib.hid (show twoM 22 a b = some (flagM false) by show some (flagM _) = _; simp [holdsM, hb])
      clear hb
      go_enter Try.func118, Try.ntmps118
      go_wp2_with (first | (go_at_call 157; refine (c _).mono ?_; rintro e w1 ⟨rfl, rfl⟩) | (go_at_call 156; refine (d _).mono ?_; rintro e w1 ⟨rfl, rfl⟩))
      go_ret2
      exact ⟨vend_some (EB.out.trans E.out) rfl, rfl⟩

  ·
    have EB := Lib.hid (show binM 29 f a b = twoM 29 a b by unfold binM; simp)
    obtain ⟨bf, hbf⟩ : ∃ bf, (f == 4) = bf := ⟨_, rfl⟩
    have c := lsl_any1 a b w
    have E := Lib.hid (show twoM 29 a b = some (lslV a (K b)) from rfl)
    go_enter Try.func118, Try.ntmps118
    go_wp2_with (go_at_call 158; refine c.mono ?_; rintro e w1 ⟨rfl, rfl⟩)
    go_ret2
    exact ⟨vend_some (EB.out.trans E.out) rfl, rfl⟩

  ·
    have EB := Lib.hid (show binM 30 f a b = twoM 30 a b by unfold binM; simp)
    obtain ⟨bf, hbf⟩ : ∃ bf, (f == 4) = bf := ⟨_, rfl⟩
    have c := asr_any1 a b w
    have E := Lib.hid (show twoM 30 a b = some (a / 2 ^ K b) from rfl)
    go_enter Try.func118, Try.ntmps118
    go_wp2_with (go_at_call 159; refine c.mono ?_; rintro e w1 ⟨rfl, rfl⟩)
    go_ret2
    exact ⟨vend_some (EB.out.trans E.out) rfl, rfl⟩

  ·
    have EB := Lib.hid (show binM 31 f a b = twoM 31 a b by unfold binM; simp)
    obtain ⟨bf, hbf⟩ : ∃ bf, (f == 4) = bf := ⟨_, rfl⟩
    have c := ror_any1 a b w
    have E := Lib.hid (show twoM 31 a b = some (S (rorN (U a) (K b))) from rfl)
    go_enter Try.func118, Try.ntmps118
    go_wp2_with (go_at_call 160; refine c.mono ?_; rintro e w1 ⟨rfl, rfl⟩)
    go_ret2
    exact ⟨vend_some (EB.out.trans E.out) rfl, rfl⟩

end Go.Proofs.Ytgicibblkmeoeaa
