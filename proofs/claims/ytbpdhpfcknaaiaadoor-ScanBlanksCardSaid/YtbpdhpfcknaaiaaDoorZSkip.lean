/- Symbols: what is between them, the program's. -/
import Derived.Test.YtbpdhpfcknaaiaaDoorZTxt
set_option linter.unusedSimpArgs false
set_option linter.unusedVariables false
namespace Go.Proofs.YtbpdhpfcknaaiaaDoor
open Go.RowKit M

theorem not_beq {a b : Int} (h : ¬ a = b) : (a == b) = false := by simpa using h
theorem retIB {a b : Int} {c d : Bool} (h : a = b) (k : c = d) : Ending.returned (.tuple #[.int .i64 a, .bool c]) = .returned (.tuple #[.int .i64 b, .bool d]) := by rw [h, k]
/-- What comment tells: how many bytes, and whether it is ended. -/
def comV : Option Nat → Value
  | some j => .tuple #[.int .i64 (j : Nat), .bool true]
  | none => .tuple #[.int .i64 0, .bool false]

set_option maxRecDepth 10000 in
set_option maxHeartbeats 1600000 in
theorem comment_any (s : ByteArray) (n : Nat) (hn : s.size = n) (h2 : 2 ≤ n) (hb : n ≤ 1000000) (w : World) :
    Calls Tryd.prog 31 #[.string s] w fun e w' => e = .returned (comV (comE (tx s) 1 2)) ∧ w = w' := by
  have two := fun j a b w => two_any s j a b w
  rw [hn] at two
  obtain ⟨R, hR⟩ : ∃ R, comE (tx s) 1 2 = R := ⟨_, rfl⟩
  rw [hR]
  have HR := Lib.hid hR
  clear hR
  have T := Lib.hid two
  clear two
  go_enter Tryd.func31, Tryd.ntmps31
  go_wp2_with fail
  go_loopg [4, 5] (n - 2) (fun g o i wr => wr = w ∧ ∃ (d j : Nat), o = .int .i64 (d : Int) ∧ i = .int .i64 (j : Int) ∧ 1 ≤ d ∧ d ≤ j ∧ j ≤ n ∧ g = n - j ∧ comE (tx s) d j = R)
  case atStart => exact ⟨rfl, 1, 2, rfl, rfl, by omega, by omega, h2, rfl, HR.out⟩
  case round =>
    obtain ⟨rfl, d, j, rfl, rfl, hd, hdj, hj, hg, hc⟩ := hrel
    rw [comE_eq] at hc
    have HG := Lib.hid hg
    clear hg
    have j0 : (0 : Int) ≤ (j : Int) := Int.natCast_nonneg _
    by_cases hjn : j < n
    · have j1 : (j : Int) < (n : Int) := by omega
      have j2 : (j : Int) ≤ (n : Int) := by omega
      have c1 := T.out j 40 42
      have c2 := T.out j 42 41
      have e1 : (tx s).n = n := hn
      have e2 : (tx s).g = bt s := rfl
      rw [e1, e2] at hc
      by_cases g1 : j + 1 < n ∧ bt s j = 40 ∧ bt s (j + 1) = 42
      · rw [if_neg (by omega), if_pos g1.2] at hc
        have HC := Lib.hid hc
        have c1' : ∀ w, Calls Tryd.prog 30 #[.string (s.extract j n), .string ⟨#[40, 42]⟩] w fun e w' => e = .returned (.bool true) ∧ w = w' := fun w => by
          have := c1 w; rwa [decide_eq_true (show j + 1 < n ∧ bt s j = (40 : UInt8).toNat ∧ bt s (j + 1) = (42 : UInt8).toNat from g1)] at this
        clear c1 c2 hc e2
        have hdd : ((d : Int) + 1 == 0) = false := not_beq (by omega)
        go_wp2_with fail
        refine (c1' _).mono ?_
        rintro e w1 ⟨rfl, rfl⟩
        go_wp2_with fail
        go_roundg (n - (j + 2))
        case measure => have := HG.out; omega
        case rel => exact ⟨rfl, d + 1, j + 2, by go_num, by go_num, by omega, by omega, by omega, rfl, HC.out⟩
      · have c1' : ∀ w, Calls Tryd.prog 30 #[.string (s.extract j n), .string ⟨#[40, 42]⟩] w fun e w' => e = .returned (.bool false) ∧ w = w' := fun w => by
          have := c1 w; rwa [decide_eq_false (show ¬ (j + 1 < n ∧ bt s j = (40 : UInt8).toNat ∧ bt s (j + 1) = (42 : UInt8).toNat) from g1)] at this
        by_cases g2 : j + 1 < n ∧ bt s j = 42 ∧ bt s (j + 1) = 41
        · rw [if_neg (by omega), if_neg (by intro h; exact g1 ⟨g2.1, h⟩), if_pos g2.2] at hc
          have c2' : ∀ w, Calls Tryd.prog 30 #[.string (s.extract j n), .string ⟨#[42, 41]⟩] w fun e w' => e = .returned (.bool true) ∧ w = w' := fun w => by
            have := c2 w; rwa [decide_eq_true (show j + 1 < n ∧ bt s j = (42 : UInt8).toNat ∧ bt s (j + 1) = (41 : UInt8).toNat from g2)] at this
          by_cases g3 : d = 1
          · subst g3
            rw [if_pos rfl] at hc
            have HC := Lib.hid hc
            clear c1 c2 hc e2 g1 HR
            go_wp2_with fail
            refine (c1' _).mono ?_
            rintro e w1 ⟨rfl, rfl⟩
            go_wp2_with fail
            refine (c2' _).mono ?_
            rintro e w1 ⟨rfl, rfl⟩
            go_wp2_with fail
            go_ret2
            exact ⟨by rw [← HC.out]; exact retIB (by go_num) rfl, rfl⟩
          · rw [if_neg g3] at hc
            have HC := Lib.hid hc
            obtain ⟨f, hf⟩ : ∃ f, d = f + 1 := ⟨d - 1, by omega⟩
            subst hf
            have hf1 : 1 ≤ f := by omega
            have hdd : ((f : Int) == 0) = false := not_beq (by omega)
            clear c1 c2 hc e2 g1 HR g3
            go_wp2_with fail
            refine (c1' _).mono ?_
            rintro e w1 ⟨rfl, rfl⟩
            go_wp2_with fail
            refine (c2' _).mono ?_
            rintro e w1 ⟨rfl, rfl⟩
            go_wp2_with fail
            go_roundg (n - (j + 2))
            case measure => have := HG.out; omega
            case rel => exact ⟨rfl, f, j + 2, by go_num, by go_num, by omega, by omega, by omega, rfl, HC.out⟩
        · have hc' : comE (tx s) d (j + 1) = R := by
            by_cases hj2 : n ≤ j + 1
            · rw [if_pos hj2] at hc
              rw [comE_eq, if_pos (by rw [e1]; omega)]; exact hc
            · rw [if_neg hj2, if_neg (fun h => g1 ⟨by omega, h⟩), if_neg (fun h => g2 ⟨by omega, h⟩)] at hc
              exact hc
          have c2' : ∀ w, Calls Tryd.prog 30 #[.string (s.extract j n), .string ⟨#[42, 41]⟩] w fun e w' => e = .returned (.bool false) ∧ w = w' := fun w => by
            have := c2 w; rwa [decide_eq_false (show ¬ (j + 1 < n ∧ bt s j = (42 : UInt8).toNat ∧ bt s (j + 1) = (41 : UInt8).toNat) from g2)] at this
          have HC := Lib.hid hc'
          have hdd : ((d : Int) == 0) = false := not_beq (by omega)
          clear c1 c2 hc e2 g1 g2 HR hc'
          go_wp2_with fail
          refine (c1' _).mono ?_
          rintro e w1 ⟨rfl, rfl⟩
          go_wp2_with fail
          refine (c2' _).mono ?_
          rintro e w1 ⟨rfl, rfl⟩
          go_wp2_with fail
          go_roundg (n - (j + 1))
          case measure => have := HG.out; omega
          case rel => exact ⟨rfl, d, j + 1, rfl, by go_num, by omega, by omega, by omega, rfl, HC.out⟩
    · have e1 : (tx s).n = n := hn
      have hjj : (tx s).n ≤ j + 1 := by rw [e1]; omega
      rw [if_pos hjj] at hc
      have HC := Lib.hid hc
      have hjn' : j = n := by omega
      subst hjn'
      clear hc
      go_wp2_with fail
      go_ret2
      exact ⟨by rw [← HC.out]; rfl, rfl⟩

def skV (r : Nat × Bool) : Value := .tuple #[.int .i64 (r.1 : Nat), .bool r.2]
set_option maxRecDepth 10000 in
set_option maxHeartbeats 1600000 in
theorem skip_any (s : ByteArray) (n : Nat) (hn : s.size = n) (hb : n ≤ 1000000) (i : Nat) (hi : i ≤ n) (w : World) :
    Calls Tryd.prog 16 #[.string s, .int .i64 i] w fun e w' => e = .returned (skV (skipE (tx s) i)) ∧ w = w' := by
  have two := fun j a b w => two_any s j a b w
  rw [hn] at two
  obtain ⟨R, hR⟩ : ∃ R, skipE (tx s) i = R := ⟨_, rfl⟩
  rw [hR]
  have HR := Lib.hid hR
  clear hR
  have T := Lib.hid two
  clear two
  go_enter Tryd.func16, Tryd.ntmps16
  go_wp2_with fail
  go_loopg [1] (n - i) (fun g o wr => wr = w ∧ ∃ (j : Nat), o = .int .i64 (j : Int) ∧ j ≤ n ∧ g = n - j ∧ skipE (tx s) j = R)
  case atStart => exact ⟨rfl, i, rfl, hi, rfl, HR.out⟩
  case round =>
    obtain ⟨rfl, j, rfl, hj, hg, hc⟩ := hrel
    rw [skipE_eq] at hc
    have HG := Lib.hid hg
    clear hg HR
    have j0 : (0 : Int) ≤ (j : Int) := Int.natCast_nonneg _
    have e1 : (tx s).n = n := hn
    have e2 : (tx s).g = bt s := rfl
    by_cases hjn : j < n
    · have j1 : (j : Int) < (n : Int) := by omega
      have j2 : (j : Int) ≤ (n : Int) := by omega
      have hne : ¬ (tx s).n ≤ j := by omega
      rw [if_neg hne] at hc
      rw [e1, e2] at hc
      have cB := fun w => isBlank_any (bt s j) w
      have ix := fun w => ix_at s n j hn hjn w
      obtain ⟨q, hq⟩ : ∃ q, blaB (bt s j) = q := ⟨_, rfl⟩
      rw [hq] at hc cB
      cases q
      · rw [if_neg (by decide)] at hc
        have c1 := fun w => T.out j 40 42 w
        by_cases g1 : j + 1 < n ∧ bt s j = 40 ∧ bt s (j + 1) = 42
        · have c1' : ∀ w, Calls Tryd.prog 30 #[.string (s.extract j n), .string ⟨#[40, 42]⟩] w fun e w' => e = .returned (.bool true) ∧ w = w' := fun w => by
            have := c1 w; rwa [decide_eq_true (show j + 1 < n ∧ bt s j = (40 : UInt8).toNat ∧ bt s (j + 1) = (42 : UInt8).toNat from g1)] at this
          have cC := fun w => comment_any (s.extract j s.size) (n - j) (by rw [ext_size, hn]) (by omega) (by omega) w
          rw [tx_from, hn] at cC
          have hcf := comE_from (tx s) j (by omega) 1 2
          rw [if_pos g1] at hc
          obtain ⟨v, hv⟩ : ∃ v, comE ((tx s).from j) 1 2 = v := ⟨_, rfl⟩
          rw [hv] at cC hcf
          cases v with
          | none =>
            rw [← hcf] at hc
            simp only [Option.map_none] at hc
            have HC := Lib.hid hc
            clear hc hcf hv e1 e2 g1 c1 hq hne
            go_wp2_with fail
            refine (cB _).mono ?_
            rintro e w1 ⟨rfl, rfl⟩
            go_wp2_with fail
            refine (c1' _).mono ?_
            rintro e w1 ⟨rfl, rfl⟩
            go_wp2_with fail
            refine (cC _).mono ?_
            rintro e w1 ⟨rfl, rfl⟩
            simp only [comV]
            go_wp2_with fail
            go_ret2
            exact ⟨by rw [← HC.out]; rfl, rfl⟩
          | some m =>
            have hgt := comE_gt _ _ _ _ hv
            rw [from_n, e1] at hgt
            rw [← hcf] at hc
            simp only [Option.map_some] at hc
            have HC := Lib.hid hc
            clear hc hcf hv e1 e2 g1 c1 hq hne
            go_wp2_with fail
            refine (cB _).mono ?_
            rintro e w1 ⟨rfl, rfl⟩
            go_wp2_with fail
            refine (c1' _).mono ?_
            rintro e w1 ⟨rfl, rfl⟩
            go_wp2_with fail
            refine (cC _).mono ?_
            rintro e w1 ⟨rfl, rfl⟩
            simp only [comV]
            go_wp2_with fail
            go_roundg (n - (j + m))
            case measure => have := HG.out; omega
            case rel => exact ⟨rfl, j + m, by go_num, by omega, rfl, HC.out⟩
        · have c1' : ∀ w, Calls Tryd.prog 30 #[.string (s.extract j n), .string ⟨#[40, 42]⟩] w fun e w' => e = .returned (.bool false) ∧ w = w' := fun w => by
            have := c1 w; rwa [decide_eq_false (show ¬ (j + 1 < n ∧ bt s j = (40 : UInt8).toNat ∧ bt s (j + 1) = (42 : UInt8).toNat) from g1)] at this
          rw [if_neg g1] at hc
          have HC := Lib.hid hc
          clear hc e1 e2 g1 c1 hq hne
          go_wp2_with fail
          refine (cB _).mono ?_
          rintro e w1 ⟨rfl, rfl⟩
          go_wp2_with fail
          refine (c1' _).mono ?_
          rintro e w1 ⟨rfl, rfl⟩
          go_wp2_with fail
          go_ret2
          exact ⟨by rw [← HC.out]; rfl, rfl⟩
      · rw [if_pos rfl] at hc
        have HC := Lib.hid hc
        clear hc e1 e2 hq hne
        go_wp2_with fail
        refine (cB _).mono ?_
        rintro e w1 ⟨rfl, rfl⟩
        go_wp2_with fail
        go_roundg (n - (j + 1))
        case measure => have := HG.out; omega
        case rel => exact ⟨rfl, j + 1, by go_num, by omega, rfl, HC.out⟩
    · have hne : (tx s).n ≤ j := by omega
      rw [if_pos hne] at hc
      have HC := Lib.hid hc
      have hjn' : j = n := by omega
      subst hjn'
      clear hc e1 e2 hne
      go_wp2_with fail
      go_ret2
      exact ⟨by rw [← HC.out]; rfl, rfl⟩
end Go.Proofs.YtbpdhpfcknaaiaaDoor
