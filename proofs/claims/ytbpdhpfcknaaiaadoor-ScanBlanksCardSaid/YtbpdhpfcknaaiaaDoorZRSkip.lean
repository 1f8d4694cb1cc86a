/- Symbols: what is between them, the document's. -/
import Derived.Test.YtbpdhpfcknaaiaaDoorZSkip
import Derived.Deep.CutBlock
set_option linter.unusedSimpArgs false
set_option linter.unusedVariables false
namespace Go.Proofs.YtbpdhpfcknaaiaaDoor
open Go.RowKit M

set_option maxRecDepth 10000 in
set_option maxHeartbeats 1600000 in
theorem skipR_any (s : ByteArray) (n : Nat) (hn : s.size = n) (hb : n ≤ 1000000) (i : Nat) (hi : i ≤ n) (w : World) :
    Calls Tryd.prog 14 #[.string s, .int .i64 i] w fun e w' => e = .returned (skV (skipE (tx s) i)) ∧ w = w' := by
  obtain ⟨R, hR⟩ : ∃ R, skipE (tx s) i = R := ⟨_, rfl⟩
  rw [hR]
  have HR := Lib.hid hR
  clear hR
  go_enter Tryd.func14, Tryd.ntmps14
  go_wp2_with fail
  go_loopg [1, 6, 7] (n - i) (fun g o f d wr => wr = w ∧ ∃ (j : Nat), o = .int .i64 (j : Int) ∧ j ≤ n ∧ g = n - j ∧ skipE (tx s) j = R)
  case atStart => exact ⟨rfl, i, rfl, hi, rfl, HR.out⟩
  case round =>
    obtain ⟨rfl, j, rfl, hj, hg, hc⟩ := hrel
    have HG := Lib.hid hg
    clear hg HR
    have HC := Lib.hid hc
    clear hc
    go_upto_block 2 with fail
    go_cut [1] (fun s1 wx => wx = wr ∧ ∃ j2 : Nat, s1 = .int .i64 (j2 : Int) ∧ j ≤ j2 ∧ j2 ≤ n ∧ skipE (tx s) j2 = R ∧ (j2 = n ∨ blaB (bt s j2) = false))
    case first =>
      go_wp2_with fail
      go_loopg [1] (n - j) (fun g o wx => wx = wr ∧ ∃ (k : Nat), o = .int .i64 (k : Int) ∧ j ≤ k ∧ k ≤ n ∧ g = n - k ∧ skipE (tx s) k = R)
      case atStart => exact ⟨rfl, j, rfl, Nat.le_refl _, hj, rfl, HC.out⟩
      case round =>
        obtain ⟨rfl, k, rfl, hjk, hk, hg, hc⟩ := hrel
        have HG2 := Lib.hid hg
        clear hg
        have k0 : (0 : Int) ≤ (k : Int) := Int.natCast_nonneg _
        by_cases hkn : k < n
        · have k1 : (k : Int) < (n : Int) := by omega
          have cB := fun w => blank_any (bt s k) w
          have ix := fun w => ix_at s n k hn hkn w
          obtain ⟨q, hq⟩ : ∃ q, blaB (bt s k) = q := ⟨_, rfl⟩
          cases q
          · have HQ := Lib.hid hq
            have HC2 := Lib.hid hc
            rw [hq] at cB
            clear hq hc
            go_wp2_with (go_at_call 22; refine (cB _).mono ?_; rintro e w1 ⟨rfl, rfl⟩)
            go_meet
            exact ⟨rfl, k, rfl, hjk, hk, HC2.out, .inr HQ.out⟩
          · have hc' : skipE (tx s) (k + 1) = R := by
              rw [← hc, skipE_eq (tx s) k, if_neg (by show ¬ s.size ≤ k; omega), if_pos (by exact hq)]
            have HC2 := Lib.hid hc'
            rw [hq] at cB
            clear hq hc hc'
            go_wp2_with (go_at_call 22; refine (cB _).mono ?_; rintro e w1 ⟨rfl, rfl⟩)
            go_roundg (n - (k + 1))
            case measure => have := HG2.out; omega
            case rel => exact ⟨rfl, k + 1, by go_num, by omega, by omega, rfl, HC2.out⟩
        · have hkn' : k = n := by omega
          have HC2 := Lib.hid hc
          clear hc
          subst hkn'
          go_wp2_with fail
          go_meet
          exact ⟨rfl, k, rfl, hjk, hk, HC2.out, .inl rfl⟩
    case rest =>
      obtain ⟨rfl, j2, rfl, hj1, hj2, hc, hbl⟩ := hcut
      rw [skipE_eq] at hc
      have hm : (tx s).n = n := hn
      have hg2 : (tx s).g = bt s := rfl
      rw [hm, hg2] at hc
      have j0 : (0 : Int) ≤ (j2 : Int) := Int.natCast_nonneg _
      by_cases g1 : j2 + 1 < n ∧ bt s j2 = 40 ∧ bt s (j2 + 1) = 42
      · rw [if_neg (by omega), if_neg (by rcases hbl with h | h; omega; rw [h]; decide), if_pos g1] at hc
        have ix := fun w => ix_at s n j2 hn (by omega) w
        have ix1 := fun w => ix_lit s n (j2 + 1) ((j2 : Int) + 1) (by omega) hn (by omega) w
        rw [g1.2.1] at ix
        rw [g1.2.2] at ix1
        have q1 : ¬ ((n : Int) ≤ (j2 : Int) + 1) := by omega
        have q2 : (j2 : Int) + 1 < (n : Int) := by omega
        have HC2 := Lib.hid hc
        have HG1 := Lib.hid g1
        clear hc hm hg2 hbl HC g1
        go_wp2_with fail
        obtain ⟨C, hC⟩ : ∃ C, comE (tx s) 1 (j2 + 2) = C := ⟨_, rfl⟩
        have HCC := Lib.hid hC
        have HM2 : Hid (∀ m, C = some m → j2 + 2 ≤ m ∧ m ≤ n ∧ skipE (tx s) m = R) := Lib.hid (fun m hm => by
          have h1 := HC2.out
          have h2 := HCC.out
          rw [hm] at h2
          rw [h2] at h1
          have h3 := comE_gt _ _ _ _ h2
          rw [show (tx s).n = n from hn] at h3
          exact ⟨by omega, h3.2, h1⟩)
        have HN2 : Hid (C = none → R = (j2, false)) := Lib.hid (fun hm => by
          have h1 := HC2.out
          have h2 := HCC.out
          rw [hm] at h2
          rw [h2] at h1
          exact h1.symm)
        clear hC q1 q2 ix ix1
        go_loopg [1, 7] (n - j2) (fun g o dd wx => wx = wc ∧ ∃ (k d : Nat), o = .int .i64 (k : Int) ∧ dd = .int .i64 (d : Int) ∧ j2 ≤ k ∧ k ≤ n ∧ d ≤ k ∧ g = n - k ∧ (d = 0 ∧ k = j2 ∨ 1 ≤ d ∧ comE (tx s) d k = C))
        case atStart => exact ⟨rfl, j2, 0, rfl, rfl, Nat.le_refl _, hj2, Nat.zero_le _, rfl, .inl ⟨rfl, rfl⟩⟩
        case round =>
          obtain ⟨rfl, k, d, rfl, rfl, hjk, hkn, hdk, hg, hcd⟩ := hrel
          have HG2 := Lib.hid hg
          clear hg
          have k0 : (0 : Int) ≤ (k : Int) := Int.natCast_nonneg _
          rcases hcd with ⟨rfl, rfl⟩ | ⟨hd1, hce⟩
          · have g1 := HG1.out
            have ix := fun w => ix_at s n k hn (by omega) w
            have ix1 := fun w => ix_lit s n (k + 1) ((k : Int) + 1) (by omega) hn (by omega) w
            rw [g1.2.1] at ix
            rw [g1.2.2] at ix1
            have q1 : ¬ ((n : Int) ≤ (k : Int) + 1) := by omega
            have q2 : (k : Int) + 1 < (n : Int) := by omega
            clear g1
            go_wp2_with fail
            go_roundg (n - (k + 2))
            case measure => have := HG2.out; omega
            case rel => exact ⟨rfl, k + 2, 1, by go_num, rfl, by omega, by omega, by omega, rfl, .inr ⟨Nat.le_refl _, HCC.out⟩⟩
          · rw [comE_eq, show (tx s).n = n from hn, show (tx s).g = bt s from rfl] at hce
            by_cases q1 : n ≤ k + 1
            · rw [if_pos q1] at hce
              have q1' : (n : Int) ≤ (k : Int) + 1 := by omega
              have HRR := Lib.hid (HN2.out hce.symm)
              clear hce
              go_wp2_with fail
              go_ret2
              rw [HRR.out]
              exact ⟨rfl, rfl⟩
            · rw [if_neg q1] at hce
              have q1' : ¬ ((n : Int) ≤ (k : Int) + 1) := by omega
              have q2 : (k : Int) + 1 < (n : Int) := by omega
              have ix := fun w => ix_at s n k hn (by omega) w
              have ix1 := fun w => ix_lit s n (k + 1) ((k : Int) + 1) (by omega) hn (by omega) w
              by_cases g1 : bt s k = 40 ∧ bt s (k + 1) = 42
              · rw [if_pos g1] at hce
                rw [g1.1] at ix
                rw [g1.2] at ix1
                have hdd : ((d : Int) + 1 == 0) = false := not_beq (by omega)
                have HCE := Lib.hid hce
                clear hce g1
                go_wp2_with fail
                go_roundg (n - (k + 2))
                case measure => have := HG2.out; omega
                case rel => exact ⟨rfl, k + 2, d + 1, by go_num, by go_num, by omega, by omega, by omega, rfl, .inr ⟨by omega, HCE.out⟩⟩
              · rw [if_neg g1] at hce
                by_cases g2 : bt s k = 42 ∧ bt s (k + 1) = 41
                · rw [if_pos g2] at hce
                  rw [g2.1] at ix
                  rw [g2.2] at ix1
                  by_cases g3 : d = 1
                  · rw [if_pos g3] at hce
                    subst g3
                    have HM3 := Lib.hid (HM2.out _ hce.symm)
                    clear hce g1 g2
                    go_wp2_with fail
                    go_roundg (n - (k + 2))
                    case measure => have := HG.out; omega
                    case rel => exact ⟨rfl, k + 2, by go_num, by omega, rfl, HM3.out.2.2⟩
                  · rw [if_neg g3] at hce
                    obtain ⟨f, rfl⟩ : ∃ f, d = f + 1 := ⟨d - 1, by omega⟩
                    have hf1 : 1 ≤ f := by omega
                    have hdd : ((f : Int) == 0) = false := not_beq (by omega)
                    have HCE := Lib.hid hce
                    clear hce g1 g2 g3
                    go_wp2_with fail
                    go_roundg (n - (k + 2))
                    case measure => have := HG2.out; omega
                    case rel => exact ⟨rfl, k + 2, f, by go_num, by go_num, by omega, by omega, by omega, rfl, .inr ⟨hf1, HCE.out⟩⟩
                · rw [if_neg g2] at hce
                  have HCE := Lib.hid hce
                  have hdd : ((d : Int) == 0) = false := not_beq (by omega)
                  have t1 : ((bt s k : Int) == 40) = true ∧ ((bt s (k + 1) : Int) == 42) = false ∨ ((bt s k : Int) == 40) = false := by
                    by_cases h : bt s k = 40
                    · exact .inl ⟨by rw [h]; rfl, not_beq (by intro h2; exact g1 ⟨h, by omega⟩)⟩
                    · exact .inr (not_beq (by omega))
                  have t2 : ((bt s k : Int) == 42) = true ∧ ((bt s (k + 1) : Int) == 41) = false ∨ ((bt s k : Int) == 42) = false := by
                    by_cases h : bt s k = 42
                    · exact .inl ⟨by rw [h]; rfl, not_beq (by intro h2; exact g2 ⟨h, by omega⟩)⟩
                    · exact .inr (not_beq (by omega))
                  obtain ⟨x, hx⟩ : ∃ x, bt s k = x := ⟨_, rfl⟩
                  obtain ⟨y, hy⟩ : ∃ y, bt s (k + 1) = y := ⟨_, rfl⟩
                  rw [hx] at ix t1 t2
                  rw [hy] at ix1 t1 t2
                  clear hce g1 g2 hx hy
                  rcases t1 with ⟨t1, t3⟩ | t1 <;> rcases t2 with ⟨t2, t4⟩ | t2
                  all_goals
                    go_wp2_with fail
                    go_roundg (n - (k + 1))
                    case measure => have := HG2.out; omega
                    case rel => exact ⟨rfl, k + 1, d, by go_num, rfl, by omega, by omega, by omega, rfl, .inr ⟨hd1, HCE.out⟩⟩
      · have hR : R = (j2, true) := by
          rw [← hc]
          by_cases h : n ≤ j2
          · rw [if_pos h]
          · rw [if_neg h, if_neg (by rcases hbl with h2 | h2; omega; rw [h2]; decide), if_neg g1]
        have HRR := Lib.hid hR
        clear hR hc hm hg2 HC
        by_cases q1 : (n : Int) ≤ (j2 : Int) + 1
        · go_wp2_with fail
          go_ret2
          rw [HRR.out]
          exact ⟨rfl, rfl⟩
        · have q2 : (j2 : Int) + 1 < (n : Int) := by omega
          have ix := fun w => ix_at s n j2 hn (by omega) w
          have ix1 := fun w => ix_lit s n (j2 + 1) ((j2 : Int) + 1) (by omega) hn (by omega) w
          by_cases c1 : bt s j2 = 40
          · have c2 : ((bt s (j2 + 1) : Int) == 42) = false := not_beq (by intro h; exact g1 ⟨by omega, c1, by omega⟩)
            obtain ⟨y, hy⟩ : ∃ y, bt s (j2 + 1) = y := ⟨_, rfl⟩
            rw [c1] at ix
            rw [hy] at ix1 c2
            have c3 : ¬ (y : Int) = 42 := by intro h; rw [h] at c2; exact absurd c2 (by decide)
            clear hy c1 g1 hbl
            go_wp2_with fail
            all_goals first
              | (exfalso; omega)
              | (go_ret2; rw [HRR.out]; exact ⟨rfl, rfl⟩)
          · have c1' : ((bt s j2 : Int) != 40) = true := by rw [bne, not_beq (by omega)]; rfl
            have c2' : ((bt s j2 : Int) == 40) = false := not_beq (by omega)
            have c3' : ¬ ((bt s j2 : Int) = 40) := by omega
            obtain ⟨x, hx⟩ : ∃ x, bt s j2 = x := ⟨_, rfl⟩
            rw [hx] at ix c1' c2' c3' c1
            clear hx g1 hbl ix1
            go_wp2_with fail
            all_goals first
              | (exfalso; omega)
              | (go_ret2; rw [HRR.out]; exact ⟨rfl, rfl⟩)
end Go.Proofs.YtbpdhpfcknaaiaaDoor
