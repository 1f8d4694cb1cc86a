/- The program's leaves of reckoning. -/
import Derived.Test.YtgicibblkmeoeaaProg
import Derived.Test.YtgicibblkmeoeaaWBase
import Derived.Test.YtgicibblkmeoeaaQSame
import Derived.Test.YtgicibblkmeoeaaACalls
import Derived.Test.YtgicibblkmeoeaaABits
import Derived.Test.YtgicibblkmeoeaaASpan
import Derived.Laws.BitsAllLaws
set_option linter.unusedSimpArgs false
set_option linter.unusedVariables false
namespace Go.Proofs.Ytgicibblkmeoeaa
open Go.RowKit M


theorem isP_any (op f n i : Int) (nm st : ByteArray) (ov xv : Value) (w : World) :
    Calls Try.prog 23 #[.agg #[.int .i64 op, .int .i64 f, .int .i64 n, .string nm, ov, .int .i32 i, .string st, xv]] w fun e w' => e = .returned (.bool (isCB op f)) ∧ Only Nil w w' := by
  obtain ⟨r, hr⟩ : ∃ r, isCB op f = r := ⟨_, rfl⟩
  rw [hr]
  unfold isCB at hr
  by_cases h0 : op = 0
  · subst h0
    have hf : (f = 1 ∨ f = 2 ∨ f = 3 ∨ f = 4) ∨ ((f == 1) = false ∧ (f == 2) = false ∧ (f == 3) = false ∧ (f == 4) = false) := by simp; omega
    rcases hf with (rfl | rfl | rfl | rfl) | ⟨h1, h2, h3, h4⟩
    rotate_left 4
    · rw [h1, h2, h3, h4] at hr
      have hr2 : false = r := hr
      subst hr2
      clear hr
      go_enter Try.func23, Try.ntmps23
      go_wp2
      go_ret
      exact ⟨rfl, alloc_nil _ _⟩
    all_goals (simp at hr; subst hr)
    all_goals
      go_enter Try.func23, Try.ntmps23
      go_wp2
      go_ret
      exact ⟨rfl, alloc_nil _ _⟩
  · have h1 := bne_of h0
    have h2 : (op == 0) = false := by simpa using h0
    rw [h2] at hr
    subst hr
    clear h0 h2
    go_enter Try.func23, Try.ntmps23
    go_wp2
    go_ret
    exact ⟨rfl, alloc_nil _ _⟩
theorem truth_any (b : Bool) (w : World) : Calls Try.prog 143 #[.bool b] w fun e w' => e = .returned (.int .i32 (flagM b)) ∧ w = w' := by
  cases b
  · go_enter Try.func143, Try.ntmps143
    go_wp2
    go_ret
    exact ⟨rfl, rfl⟩
  · go_enter Try.func143, Try.ntmps143
    go_wp2
    go_ret
    exact ⟨rfl, rfl⟩
theorem isOfSets_any (op : Int) (w : World) (h : 9 ≤ op) : Calls Try.prog 112 #[.int .i64 op] w fun e w' => e = .returned (.bool (decide (9 ≤ op ∧ op ≤ 12))) ∧ w = w' := by
  have hf : (op = 9 ∨ op = 10 ∨ op = 11 ∨ op = 12) ∨ ((op == 9) = false ∧ (op == 10) = false ∧ (op == 11) = false ∧ (op == 12) = false ∧ 12 < op) := by simp; omega
  rcases hf with (rfl | rfl | rfl | rfl) | ⟨h1, h2, h3, h4, h5⟩
  all_goals try
    (go_enter Try.func112, Try.ntmps112
     go_wp2
     go_ret
     exact ⟨rfl, rfl⟩)
  have hd : decide (9 ≤ op ∧ op ≤ 12) = false := by simp; omega
  have HD := Lib.hid hd
  clear hd h h5
  go_enter Try.func112, Try.ntmps112
  go_wp2
  go_ret
  exact ⟨retB HD.out, rfl⟩
theorem ofSets_any (op : Int) (u v : Nat) (w : World) (h : 9 ≤ op ∧ op ≤ 12) (hu : u < 4294967296) (hv : v < 4294967296) :
    Calls Try.prog 113 #[.int .i64 op, .int .u32 (u : Int), .int .u32 (v : Int)] w fun e w' => e = .returned (.int .u32 (setsM op u v : Int)) ∧ w = w' := by
  have hf : op = 9 ∨ op = 10 ∨ op = 11 ∨ op = 12 := by omega
  have e1 := Lib.hid (u32_or_nat u v hu hv)
  have e2 := Lib.hid (u32_andNot_nat u v hu hv)
  have e3 := Lib.hid (u32_and_nat u v hu hv)
  have e4 := Lib.hid (u32_xor_nat u v hu hv)
  clear h hu hv
  rcases hf with rfl | rfl | rfl | rfl
  · go_enter Try.func113, Try.ntmps113
    go_wp2
    go_ret
    exact ⟨ret_of e1.out, rfl⟩
  · go_enter Try.func113, Try.ntmps113
    go_wp2
    go_ret
    exact ⟨ret_of e2.out, rfl⟩
  · go_enter Try.func113, Try.ntmps113
    go_wp2
    go_ret
    exact ⟨ret_of e3.out, rfl⟩
  · go_enter Try.func113, Try.ntmps113
    go_wp2
    go_ret
    exact ⟨ret_of e4.out, rfl⟩

theorem holds_any (op a b : Int) (w : World) (h : 14 ≤ op ∧ op ≤ 22) : Calls Try.prog 152 #[.int .i64 op, .int .i32 a, .int .i32 b] w fun e w' => e = .returned (.bool (holdsM op a b)) ∧ w = w' := by
  have hf : op = 14 ∨ op = 15 ∨ op = 16 ∨ op = 17 ∨ op = 18 ∨ op = 19 ∨ op = 20 ∨ op = 21 ∨ op = 22 := by omega
  clear h
  rcases hf with rfl | rfl | rfl | rfl | rfl | rfl | rfl | rfl | rfl
  · by_cases ha : a = 0
    · subst ha
      go_enter Try.func152, Try.ntmps152
      go_wp2
      go_ret
      exact ⟨rfl, rfl⟩
    · have e1 := bne_of ha
      have E := Lib.hid (show holdsM 14 a b = true by unfold holdsM; simp [e1])
      clear ha
      go_enter Try.func152, Try.ntmps152
      go_wp2
      go_ret
      exact ⟨retB E.out, rfl⟩
  · by_cases ha : a = 0
    · subst ha
      go_enter Try.func152, Try.ntmps152
      go_wp2
      go_ret
      exact ⟨rfl, rfl⟩
    · have e1 := bne_of ha
      have E := Lib.hid (show holdsM 15 a b = (b != 0) by unfold holdsM; simp [e1])
      clear ha
      go_enter Try.func152, Try.ntmps152
      go_wp2
      go_ret
      exact ⟨retB E.out, rfl⟩
  · go_enter Try.func152, Try.ntmps152
    go_wp2
    go_ret
    exact ⟨rfl, rfl⟩
  · go_enter Try.func152, Try.ntmps152
    go_wp2
    go_ret
    exact ⟨rfl, rfl⟩
  · go_enter Try.func152, Try.ntmps152
    go_wp2
    go_ret
    exact ⟨rfl, rfl⟩
  · go_enter Try.func152, Try.ntmps152
    go_wp2
    go_ret
    exact ⟨rfl, rfl⟩
  · go_enter Try.func152, Try.ntmps152
    go_wp2
    go_ret
    exact ⟨rfl, rfl⟩
  · go_enter Try.func152, Try.ntmps152
    go_wp2
    go_ret
    exact ⟨rfl, rfl⟩
  · by_cases hb : 0 ≤ a ∧ a < 32
    · obtain ⟨n, rfl⟩ := Int.eq_ofNat_of_zero_le hb.1
      have hn : n < 32 := by omega
      have hn2 : (n : Int) < 32 := hb.2
      have c := has_any n b w hn
      have E := Lib.hid (show holdsM 22 (n : Int) b = (U b).testBit n by unfold holdsM; simp [hn2])
      clear hb hn hn2
      go_enter Try.func152, Try.ntmps152
      go_wp2_with (go_at_call 170; refine c.mono ?_; rintro e w1 ⟨rfl, rfl⟩)
      go_ret
      exact ⟨retB E.out, rfl⟩
    · have c := has_no a b w hb
      have E := Lib.hid (show holdsM 22 a b = false by unfold holdsM; simp [hb])
      clear hb
      go_enter Try.func152, Try.ntmps152
      go_wp2_with (go_at_call 170; refine c.mono ?_; rintro e w1 ⟨rfl, rfl⟩)
      go_ret
      exact ⟨retB E.out, rfl⟩

theorem ofTwo_any (op a b : Int) (w : World) (h : (9 ≤ op ∧ op ≤ 22) ∨ op = 29 ∨ op = 30 ∨ op = 31) (ha : I32 a) (hb : I32 b) : Calls Try.prog 114 #[.int .i64 op, .int .i32 a, .int .i32 b] w fun e w' => VEnd 0 (twoM op a b) e ∧ w = w' := by
  have hf : op = 9 ∨ op = 10 ∨ op = 11 ∨ op = 12 ∨ op = 13 ∨ op = 29 ∨ op = 30 ∨ op = 31 ∨ (14 ≤ op ∧ op ≤ 22) := by omega
  clear h
  rcases hf with rfl | rfl | rfl | rfl | rfl | rfl | rfl | rfl | h
  · have c := add_any a b w ha hb
    have E := Lib.hid (show twoM 9 a b = some (wrap32 (a + b)) from rfl)
    clear ha hb
    go_enter Try.func114, Try.ntmps114
    go_wp2_with (go_at_call 145; refine c.mono ?_; rintro e w1 ⟨rfl, rfl⟩)
    go_ret2
    exact ⟨vend_some E.out rfl, rfl⟩
  · have c := sub_any a b w ha hb
    have E := Lib.hid (show twoM 10 a b = some (wrap32 (a - b)) from rfl)
    clear ha hb
    go_enter Try.func114, Try.ntmps114
    go_wp2_with (go_at_call 144; refine c.mono ?_; rintro e w1 ⟨rfl, rfl⟩)
    go_ret2
    exact ⟨vend_some E.out rfl, rfl⟩
  · have c := mul_any a b w ha hb
    have E := Lib.hid (show twoM 11 a b = some (wrap32 (a * b)) from rfl)
    clear ha hb
    go_enter Try.func114, Try.ntmps114
    go_wp2_with (go_at_call 146; refine c.mono ?_; rintro e w1 ⟨rfl, rfl⟩)
    go_ret2
    exact ⟨vend_some E.out rfl, rfl⟩
  · by_cases h1 : 1 ≤ b
    · have c := div_any a b w ha h1 hb.2
      have E := Lib.hid (show twoM 12 a b = some (a / b) by unfold twoM; simp [h1])
      clear ha hb h1
      go_enter Try.func114, Try.ntmps114
      go_wp2_with (go_at_call 147; refine c.mono ?_; rintro e w1 ⟨rfl, rfl⟩)
      go_ret2
      exact ⟨vend_some E.out rfl, rfl⟩
    · have c := div_no a b w (by omega)
      have E := Lib.hid (show twoM 12 a b = none by unfold twoM; simp [h1])
      clear ha hb h1
      go_enter Try.func114, Try.ntmps114
      go_wp2_with (go_at_call 147; refine c.mono ?_; rintro e w1 ⟨rfl, rfl⟩)
      go_ret2
      exact ⟨vend_none E.out, rfl⟩
  · by_cases h1 : 1 ≤ b
    · have c := mod_any a b w ha h1 hb.2
      have E := Lib.hid (show twoM 13 a b = some (a % b) by unfold twoM; simp [h1])
      clear ha hb h1
      go_enter Try.func114, Try.ntmps114
      go_wp2_with (go_at_call 148; refine c.mono ?_; rintro e w1 ⟨rfl, rfl⟩)
      go_ret2
      exact ⟨vend_some E.out rfl, rfl⟩
    · have c := mod_no a b w (by omega)
      have E := Lib.hid (show twoM 13 a b = none by unfold twoM; simp [h1])
      clear ha hb h1
      go_enter Try.func114, Try.ntmps114
      go_wp2_with (go_at_call 148; refine c.mono ?_; rintro e w1 ⟨rfl, rfl⟩)
      go_ret2
      exact ⟨vend_none E.out, rfl⟩
  · have c := lsl_any a b w
    have E := Lib.hid (show twoM 29 a b = some (lslV a (K b)) from rfl)
    clear ha hb
    go_enter Try.func114, Try.ntmps114
    go_wp2_with (go_at_call 149; refine c.mono ?_; rintro e w1 ⟨rfl, rfl⟩)
    go_ret2
    exact ⟨vend_some E.out rfl, rfl⟩
  · have c := asr_any a b w
    have E := Lib.hid (show twoM 30 a b = some (a / 2 ^ K b) from rfl)
    clear ha hb
    go_enter Try.func114, Try.ntmps114
    go_wp2_with (go_at_call 150; refine c.mono ?_; rintro e w1 ⟨rfl, rfl⟩)
    go_ret2
    exact ⟨vend_some E.out rfl, rfl⟩
  · have c := ror_any a b w
    have E := Lib.hid (show twoM 31 a b = some (S (rorN (U a) (K b))) from rfl)
    clear ha hb
    go_enter Try.func114, Try.ntmps114
    go_wp2_with (go_at_call 151; refine c.mono ?_; rintro e w1 ⟨rfl, rfl⟩)
    go_ret2
    exact ⟨vend_some E.out rfl, rfl⟩
  · have c := fun w => holds_any op a b w h
    have d := fun w => truth_any (holdsM op a b) w
    have E := Lib.hid (show twoM op a b = some (flagM (holdsM op a b)) by unfold twoM; rw [if_neg (by omega), if_neg (by omega), if_neg (by omega), if_neg (by omega), if_neg (by omega), if_neg (by omega), if_neg (by omega), if_neg (by omega)])
    have g1 : (op == 9) = false := by simp; omega
    have g2 : (op == 10) = false := by simp; omega
    have g3 : (op == 11) = false := by simp; omega
    have g4 : (op == 12) = false := by simp; omega
    have g5 : (op == 13) = false := by simp; omega
    have g6 : (op == 29) = false := by simp; omega
    have g7 : (op == 30) = false := by simp; omega
    have g8 : (op == 31) = false := by simp; omega
    obtain ⟨r, hr⟩ : ∃ r, holdsM op a b = r := ⟨_, rfl⟩
    rw [hr] at c d E
    clear ha hb h hr
    go_enter Try.func114, Try.ntmps114
    go_wp2_with (first | (go_at_call 152; refine (c w).mono ?_; rintro e w1 ⟨rfl, rfl⟩) | (go_at_call 143; refine (d w).mono ?_; rintro e w1 ⟨rfl, rfl⟩))
    go_ret2
    exact ⟨vend_some E.out rfl, rfl⟩

set_option maxHeartbeats 800000 in
theorem ofOne_any (o op f n i : Int) (nm st : ByteArray) (ov xv : Value) (w : World) (h : o = 7 ∨ o = 8 ∨ o = 27 ∨ o = 28 ∨ o = 32 ∨ o = 33) (hi : I32 i) :
    Calls Try.prog 111 #[.int .i64 o, .agg #[.int .i64 op, .int .i64 f, .int .i64 n, .string nm, ov, .int .i32 i, .string st, xv]] w fun e w' => VEnd 0 (oneM o f i) e ∧ Only Nil w w' := by
  have CS := fun w => sub_any 0 i w (by unfold I32; omega) hi
  have HI := Lib.hid hi
  unfold I32 at hi
  rcases h with rfl | rfl | rfl | rfl | rfl | rfl
  · by_cases hf : f = 4
    · subst hf
      go_enter Try.func111, Try.ntmps111
      go_wp2
      go_ret2
      exact ⟨vend_some (v' := S (4294967295 - U i)) rfl (compl_u i), alloc_nil _ _⟩
    · have e1 : (f == 4) = false := by simpa using hf
      have E := Lib.hid (show oneM 7 f i = some (wrap32 (-i)) by unfold oneM; simp [hf])
      clear hf
      go_enter Try.func111, Try.ntmps111
      go_wp2_with (go_at_call 144; refine (CS _).mono ?_; rintro e w1 ⟨rfl, rfl⟩)
      go_ret2
      exact ⟨vend_some E.out rfl, alloc_nil _ _⟩
  · have CT := fun w => truth_any (i == 0) w
    obtain ⟨r, hr⟩ : ∃ r, (i == 0) = r := ⟨_, rfl⟩
    have E := Lib.hid (show oneM 8 f i = some (flagM r) by unfold oneM; simp [hr])
    rw [hr] at CT
    clear hi
    go_enter Try.func111, Try.ntmps111
    go_wp2_with (go_at_call 143; refine (CT _).mono ?_; rintro e w1 ⟨rfl, rfl⟩)
    go_ret2
    exact ⟨vend_some E.out rfl, alloc_nil _ _⟩
  · by_cases h0 : i < 0
    · have E := Lib.hid (show oneM 27 f i = some (wrap32 (-i)) by unfold oneM; simp [h0])
      go_enter Try.func111, Try.ntmps111
      go_wp2_with (go_at_call 144; refine (CS _).mono ?_; rintro e w1 ⟨rfl, rfl⟩)
      go_ret2
      exact ⟨vend_some E.out rfl, alloc_nil _ _⟩
    · have E := Lib.hid (show oneM 27 f i = some i by unfold oneM; simp [h0])
      go_enter Try.func111, Try.ntmps111
      go_wp2
      go_ret2
      exact ⟨vend_some E.out rfl, alloc_nil _ _⟩
  · clear hi
    go_enter Try.func111, Try.ntmps111
    go_wp2
    go_ret2
    exact ⟨vend_some (v' := ((U i % 2 : Nat) : Int)) rfl (odd_u i), alloc_nil _ _⟩
  · clear hi
    go_enter Try.func111, Try.ntmps111
    go_wp2
    go_ret2
    exact ⟨vend_some rfl rfl, alloc_nil _ _⟩
  · by_cases h0 : i < 0
    · have E := Lib.hid (show oneM 33 f i = none by unfold oneM; simp; omega)
      go_enter Try.func111, Try.ntmps111
      go_wp2
      go_ret2
      exact ⟨vend_none E.out, alloc_nil _ _⟩
    · by_cases h1 : 255 < i
      · have E := Lib.hid (show oneM 33 f i = none by unfold oneM; simp; omega)
        go_enter Try.func111, Try.ntmps111
        go_wp2
        go_ret2
        exact ⟨vend_none E.out, alloc_nil _ _⟩
      · have E := Lib.hid (show oneM 33 f i = some i by unfold oneM; simp; omega)
        go_enter Try.func111, Try.ntmps111
        go_wp2
        go_ret2
        exact ⟨vend_some E.out rfl, alloc_nil _ _⟩
end Go.Proofs.Ytgicibblkmeoeaa
