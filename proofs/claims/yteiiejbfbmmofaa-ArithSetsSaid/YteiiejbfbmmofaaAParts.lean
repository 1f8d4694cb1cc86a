/- The walks of the laws ArithParts and ArithRounds. -/
import Derived.Test.YteiiejbfbmmofaaAInts
namespace Go.Proofs.Yteiiejbfbmmofaa
open Go.RowKit M

theorem spanV_none (a b : Nat) (h : b < a) : spanV a b = 0 := by unfold spanV; rw [if_neg (by omega)]
theorem spanV_bit' (a b i : Nat) (hb : b < 32) (hi : i < 32) : (spanV a b).testBit i = (decide (a ≤ i) && decide (i ≤ b)) := by
  by_cases ha : a < 32
  · exact spanV_bit a b i ha hb hi
  · rw [spanV_none a b (by omega), Nat.zero_testBit]; simp; omega
theorem parts_or (x z y : Nat) (h1 : x ≤ z) (h2 : z ≤ y) (hy : y < 32) : spanV x z ||| spanV (z + 1) y = spanV x y := by
  refine eq_of_bits (Nat.or_lt_two_pow (n := 32) (spanV_lt _ _ (by omega)) (spanV_lt _ _ hy)) (spanV_lt _ _ hy) fun i hi => ?_
  rw [Nat.testBit_or, spanV_bit' _ _ _ (by omega) hi, spanV_bit' _ _ _ hy hi, spanV_bit' _ _ _ hy hi, Bool.eq_iff_iff]
  simp; omega
theorem parts_and (x z y : Nat) (h2 : z ≤ y) (hy : y < 32) : spanV x z &&& spanV (z + 1) y = 0 := by
  refine eq_of_bits (Nat.and_lt_two_pow (n := 32) _ (spanV_lt _ _ hy)) (by decide) fun i hi => ?_
  rw [Nat.testBit_and, spanV_bit' _ _ _ (by omega) hi, spanV_bit' _ _ _ hy hi, Nat.zero_testBit]
  simp; omega

set_option maxRecDepth 10000 in
set_option maxHeartbeats 1600000 in
theorem parts_any (a b c : Nat) (w : World) (ha : a < 256) (hb : b < 256) (hc : c < 256) :
    Calls Try.prog 6 #[.int .u8 a, .int .u8 b, .int .u8 c] w fun e w' => e = .returned (.bool true) ∧ w = w' := by
  obtain ⟨x0, hx0⟩ : ∃ x, a % 32 = x := ⟨_, rfl⟩
  obtain ⟨y0, hy0⟩ : ∃ x, b % 32 = x := ⟨_, rfl⟩
  obtain ⟨z0, hz0⟩ : ∃ x, c % 32 = x := ⟨_, rfl⟩
  have ex : (a : Int) % 32 = (x0 : Int) := by omega
  have ey : (b : Int) % 32 = (y0 : Int) := by omega
  have ez : (c : Int) % 32 = (z0 : Int) := by omega
  have hx : x0 < 32 := by omega
  have hy : y0 < 32 := by omega
  have hz : z0 < 32 := by omega
  clear hx0 hy0 hz0
  go_enter Try.func6, Try.ntmps6
  go_upto_if 31 with (go_at_call 9; refine (known_any w).mono ?_; rintro e w1 ⟨rfl, rfl⟩)
  go_cut [7, 8] (fun s7 s8 wx => w = wx ∧ ∃ x y : Nat, s7 = .int .i32 x ∧ s8 = .int .i32 y ∧ x ≤ y ∧ y < 32)
  case first =>
    by_cases h : y0 < x0
    · go_upto_region 6 with fail
      go_meet
      exact ⟨rfl, y0, x0, rfl, rfl, by omega, hx⟩
    · go_upto_region 6 with fail
      go_meet
      exact ⟨rfl, x0, y0, rfl, rfl, by omega, hy⟩
  case rest =>
    obtain ⟨rfl, x, y, rfl, rfl, hxy, hy32⟩ := hcut
    go_upto_region 6 with fail
    go_cut [41] (fun s41 wx => w = wx ∧ s41 = .bool (decide (z0 < x ∨ y ≤ z0)))
    case first =>
      by_cases h1 : z0 < x
      · have HD := Lib.hid (show decide (z0 < x ∨ y ≤ z0) = true by simp; omega)
        go_wp2_with fail
        go_meet
        exact ⟨rfl, by rw [HD.out]⟩
      · by_cases h2 : y ≤ z0
        · have HD := Lib.hid (show decide (z0 < x ∨ y ≤ z0) = true by simp; omega)
          have h1' : decide ((z0 : Int) < (x : Int)) = false := by simp; omega
          have h2' : decide ((y : Int) ≤ (z0 : Int)) = true := by simp; omega
          go_wp2_with fail
          go_meet
          exact ⟨rfl, by rw [HD.out]⟩
        · have HD := Lib.hid (show decide (z0 < x ∨ y ≤ z0) = false by simp; omega)
          have h1' : decide ((z0 : Int) < (x : Int)) = false := by simp; omega
          have h2' : decide ((y : Int) ≤ (z0 : Int)) = false := by simp; omega
          go_wp2_with fail
          go_meet
          exact ⟨rfl, by rw [HD.out]⟩
    case rest =>
    obtain ⟨rfl, rfl⟩ := hcut
    go_upto_if 41 with fail
    go_cut [9] (fun s9 wx => w = wx ∧ ∃ z : Nat, s9 = .int .i32 z ∧ x ≤ z ∧ z ≤ y)
    case first =>
      by_cases h : z0 < x ∨ y ≤ z0
      · have hd : decide (z0 < x ∨ y ≤ z0) = true := by simpa using h
        rw [hd]
        clear h
        go_wp2_with fail
        go_meet
        exact ⟨rfl, x, rfl, Nat.le_refl _, hxy⟩
      · have hd : decide (z0 < x ∨ y ≤ z0) = false := by simpa using h
        have HD := Lib.hid h
        rw [hd]
        clear h
        go_wp2_with fail
        go_meet
        exact ⟨rfl, z0, rfl, by have := HD.out; omega, by have := HD.out; omega⟩
    case rest =>
      obtain ⟨rfl, z, rfl, hxz, hzy⟩ := hcut
      clear ex ey ez hx hy hz
      have c1 := fun w => span_any x y w (by omega) hy32
      have c2 := fun w => span_any x z w (by omega) (by omega)
      have hor := or_S _ _ (spanV_lt x z (by omega)) (spanV_lt (z + 1) y hy32)
      have hand := and_S _ _ (spanV_lt x z (by omega)) (spanV_lt (z + 1) y hy32)
      rw [parts_or x z y hxz hzy hy32] at hor
      rw [parts_and x z y hzy hy32, show S 0 = 0 from rfl] at hand
      have hh := fun i (hi : i < 32) w => has_any i (S (spanV x y)) w hi
      have n1 := fun w => has_no 32 (S (spanV x y)) w (by decide)
      have n2 := fun w => has_no (-1) (S (spanV x y)) w (by decide)
      rw [U_S _ (spanV_lt x y hy32)] at hh
      have hh' : ∀ i : Nat, i < 32 → ∀ w, Calls Try.prog 25 #[.int .i32 i, .int .i32 (S (spanV x y))] w fun e w' => e = .returned (.bool (decide (x ≤ i ∧ i ≤ y))) ∧ w = w' := by
        intro i hi w
        have := hh i hi w
        rw [spanV_bit' x y i hy32 hi, ← Bool.decide_and] at this
        exact this
      clear hh
      have hr : ∃ v ok, (z = y → S (spanV (z + 1) y) = 0) ∧ (z < y → v = S (spanV (z + 1) y) ∧ ok = true) ∧ ∀ w, Calls Try.prog 27 #[.int .i32 ((z : Int) + 1), .int .i32 y] w fun e w' => e = .returned (.tuple #[.int .i32 v, .bool ok]) ∧ w = w' := by
        by_cases h5 : z + 1 < 32
        · refine ⟨S (spanV (z + 1) y), true, fun h => by rw [spanV_none _ _ (by omega)]; rfl, fun _ => ⟨rfl, rfl⟩, fun w => ?_⟩
          have := span_any (z + 1) y w (by omega) hy32
          rwa [show ((z + 1 : Nat) : Int) = (z : Int) + 1 by omega] at this
        · exact ⟨0, false, fun h => by rw [spanV_none _ _ (by omega)]; rfl, fun h => by omega, fun w => span_no _ _ w (by omega)⟩
      obtain ⟨v, ok, hr1, hr2, c3⟩ := hr
      obtain ⟨R, hR⟩ : ∃ R, S (spanV (z + 1) y) = R := ⟨_, rfl⟩
      obtain ⟨L, hL⟩ : ∃ L, S (spanV x z) = L := ⟨_, rfl⟩
      obtain ⟨A, hA⟩ : ∃ A, S (spanV x y) = A := ⟨_, rfl⟩
      simp only [hR, hL, hA] at hr1 hr2 hor hand c1 c2 hh' n1 n2
      have HR1 := Lib.hid hr1
      have HR2 := Lib.hid hr2
      have HH := Lib.hid hh'
      clear hr1 hr2 hR hL hA hh'
      go_wp2_with fail
      refine (c1 w).mono ?_
      rintro e w1 ⟨rfl, rfl⟩
      go_wp2_with fail
      refine (c2 w).mono ?_
      rintro e w1 ⟨rfl, rfl⟩
      go_wp2_with fail
      refine (c3 w).mono ?_
      rintro e w1 ⟨rfl, rfl⟩
      go_upto_if 64 with fail
      go_cut [14, 15] (fun s14 s15 wx => w = wx ∧ s14 = .int .i32 R ∧ s15 = .bool true)
      case first =>
        by_cases h : z = y
        · have h3 := HR1.out h
          have h4 : ((z : Int) == (y : Int)) = true := by rw [beq_iff_eq]; omega
          clear h
          have H3 := Lib.hid h3
          clear h3
          go_wp2_with fail
          go_meet
          exact ⟨rfl, by rw [H3.out], rfl⟩
        · obtain ⟨h3, h5⟩ := HR2.out (by omega)
          have h4 : ((z : Int) == (y : Int)) = false := by rw [beq_eq_false_iff_ne]; omega
          have H3 := Lib.hid h3
          have H5 := Lib.hid h5
          clear h3 h5
          go_wp2_with fail
          go_meet
          exact ⟨rfl, by rw [H3.out], by rw [H5.out]⟩
      case rest =>
        obtain ⟨rfl, rfl, rfl⟩ := hcut
        go_wp2_with fail
        go_loopg [16, 17] 32 (fun g n k wr => w = wr ∧ g ≤ 32 ∧ k = .int .i32 ((32 - g : Nat) : Int) ∧ n = .int .i32 ((min (32 - g) (y + 1) - x : Nat) : Int))
        case atStart => exact ⟨rfl, by omega, by simp, by simp⟩
        case round =>
          obtain ⟨rfl, hg, rfl, rfl⟩ := hrel
          obtain ⟨g, rfl⟩ : ∃ g, g = gk := ⟨gk, rfl⟩
          obtain ⟨i, hi⟩ : ∃ i, 32 - g = i := ⟨_, rfl⟩
          obtain ⟨m, hm⟩ : ∃ m, min (32 - g) (y + 1) - x = m := ⟨_, rfl⟩
          rw [hm, hi]
          have hm32 : m ≤ 32 := by omega
          have HI := Lib.hid hi
          have HM := Lib.hid hm
          clear hi hm
          by_cases hi32 : i < 32
          · have ch := HH.out i hi32
            by_cases hin : x ≤ i ∧ i ≤ y
            · rw [show decide (x ≤ i ∧ i ≤ y) = true by simp; omega] at ch
              go_wp2_with (go_at_call 25; refine (ch w).mono ?_; rintro e w1 ⟨rfl, rfl⟩)
              go_roundg (g - 1)
              case measure => have := HI.out; omega
              case rel => have := HI.out; have := HM.out; exact ⟨rfl, by omega, by go_num, by go_num⟩
            · rw [show decide (x ≤ i ∧ i ≤ y) = false by simp; omega] at ch
              have HIN := Lib.hid hin
              clear hin
              go_wp2_with (go_at_call 25; refine (ch w).mono ?_; rintro e w1 ⟨rfl, rfl⟩)
              go_roundg (g - 1)
              case measure => have := HI.out; omega
              case rel => have := HI.out; have := HM.out; have := HIN.out; exact ⟨rfl, by omega, by go_num, by go_num⟩
          · have hmy : (m : Int) = (y : Int) - (x : Int) + 1 := by have := HI.out; have := HM.out; omega
            have ht : ((m : Int) == (y : Int) - (x : Int) + 1) = true := by rw [beq_iff_eq]; exact hmy
            clear hmy
            go_wp2_with fail
            refine (n1 w).mono ?_
            rintro e w1 ⟨rfl, rfl⟩
            go_wp2_with fail
            refine (n2 w).mono ?_
            rintro e w1 ⟨rfl, rfl⟩
            go_wp2_with fail
            go_ret
            exact ⟨rfl, rfl⟩
end Go.Proofs.Yteiiejbfbmmofaa
