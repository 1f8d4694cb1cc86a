/- Read and ReadVar: the number that bytes begin with. -/
import Derived.Test.YtipdfgkemghmoaaDoorVRow
set_option linter.unusedSimpArgs false
set_option linter.unusedVariables false
namespace Go.Proofs.YtipdfgkemghmoaaDoor
open Go.RowKit M

theorem andNot_eq (x p : Nat) (h : x < 256) (hp : x % 128 = p) : bits BinOp.andNot IntKind.u8 (x : Int) 128 = (p : Int) := by rw [andNot_128 x h, hp]

def triple (r : Nat × Nat × Bool) : Value := .tuple #[.int .u64 (r.1 : Nat), .int .i64 (r.2.1 : Nat), .bool r.2.2]

theorem shl_eq (p t q : Nat) (hq : p * 2 ^ t % 18446744073709551616 = q) : IntKind.u64.wrap ((p : Int) * 2 ^ t) = (q : Int) := by
  rw [pow_cast, ← Int.natCast_mul, wrap_u64, hq]
theorem shr_eq (q t : Nat) : ((q : Int) / 2 ^ t) = ((q / 2 ^ t : Nat) : Int) := by rw [pow_cast]; rfl
theorem part_fits (p k : Nat) (hp : p < 128) (h : ¬ (k = 9 ∧ 1 < p)) (hk : k < 10) : p * 2 ^ (7 * k) < 18446744073709551616 := by
  by_cases e : k = 9
  · subst e
    have : (2 : Nat) ^ (7 * 9) = 9223372036854775808 := by decide
    rw [this]; omega
  · have h1 := Nat.pow_le_pow_right (n := 2) (by omega) (show 7 * k ≤ 56 by omega)
    have e : (2 : Nat) ^ 56 = 72057594037927936 := by decide
    have h2 := Nat.mul_le_mul (show p ≤ 127 by omega) h1
    omega
theorem part_good (p t q : Nat) (hq : p * 2 ^ t = q) : ((q : Int) / 2 ^ t != (p : Int)) = false := by
  rw [shr_eq, ← hq, Nat.mul_div_cancel _ (Nat.two_pow_pos t)]; simp
theorem part_bad (p q : Nat) (hp : p < 128) (h1 : 1 < p) (hq : p * 2 ^ 63 % 18446744073709551616 = q) : ((q : Int) / 2 ^ 63 != (p : Int)) = true := by
  rw [shr_eq, bne_iff_ne]
  have e : (2 : Nat) ^ 63 = 9223372036854775808 := by decide
  rw [e] at hq ⊢
  omega

set_option maxRecDepth 10000 in
set_option maxHeartbeats 800000 in
theorem read_any (s : Value) (B : List Nat) (w : World) (hs : Row w s B) :
    Calls Tryd.prog 23 #[s] w fun e w' => e = .returned (triple (readV 0 0 B)) ∧ w = w' := by
  obtain ⟨n, hn⟩ : ∃ n, B.length = n := ⟨_, rfl⟩
  obtain ⟨b, ao, cap, off, rfl, h2, h3, h4, h5, h6, h7⟩ := hs
  rw [hn] at h2 h4 ⊢
  obtain ⟨R, hR⟩ : ∃ R, readV 0 0 B = R := ⟨_, rfl⟩
  have hR0 : ∃ acc, readV 0 acc (B.drop 0) = R ∧ acc < 2 ^ (7 * 0) ∧ acc = 0 := ⟨0, by simpa using hR, by decide, rfl⟩
  rw [hR]
  have HN := Lib.hid hn
  have H4 := Lib.hid h4
  have H6 := Lib.hid h6
  have H7 := Lib.hid h7
  clear hn h4 h5 h6 h7 hR
  unfold maxLen at h3
  obtain ⟨m, hm⟩ : ∃ m, min n 10 = m := ⟨_, rfl⟩
  have hmi : min (n : Int) 10 = (m : Int) := by omega
  have hmn : m ≤ n := by omega
  have hm10 : m ≤ 10 := by omega
  have HM := Lib.hid hm
  clear hm
  go_enter Tryd.func23, Tryd.ntmps23
  go_upto_region 2 with fail
  go_cut [14, 15, 16] (fun s14 s15 s16 wx => s14 = .slice ao m cap ∧ s15 = .int .i64 m ∧ s16 = .int .i64 0 ∧ w = wx)
  case first =>
    clear hR0
    by_cases h10 : n ≤ 10
    · have e : n = m := by have := HM.out; omega
      clear hmi
      subst e
      go_wp2_with fail
      all_goals first | omega | (go_meet; exact ⟨rfl, rfl, rfl, rfl⟩)
    · have e : 10 = m := by have := HM.out; omega
      clear hmi
      subst e
      go_wp2_with fail
      all_goals first | omega | (go_meet; exact ⟨rfl, rfl, rfl, rfl⟩)
  case rest =>
    obtain ⟨rfl, rfl, rfl, rfl⟩ := hcut
    clear hmi
    go_wp2_with fail
    go_loopg [5, 16] m (fun g v k wr => g ≤ m ∧ k = .int .i64 ((m - g : Nat) : Int) ∧ w = wr ∧ ∃ acc : Nat, v = .int .u64 acc ∧ readV (m - g) acc (B.drop (m - g)) = R ∧ acc < 2 ^ (7 * (m - g)) ∧ acc < 18446744073709551616)
    case atStart => 
      obtain ⟨acc, h1, h2, rfl⟩ := hR0
      exact ⟨Nat.le_refl _, by simp, rfl, 0, rfl, by rw [Nat.sub_self]; exact h1, by rw [Nat.sub_self]; exact h2, by decide⟩
    case round =>
      clear hR0
      obtain ⟨hg, rfl, rfl, acc, rfl, hR, hacc, hacc2⟩ := hrel
      obtain ⟨g, rfl⟩ : ∃ g, g = gk := ⟨gk, rfl⟩
      obtain ⟨k, hk⟩ : ∃ k, m - g = k := ⟨_, rfl⟩
      rw [hk] at hR hacc ⊢
      have hkm : k ≤ m := by omega
      have HK := Lib.hid hk
      have HACC := Lib.hid hacc
      clear hk hacc
      by_cases hkl : k < m
      · have hkB : k < B.length := by rw [HN.out]; omega
        have hao := H4.out (by omega)
        subst hao
        obtain ⟨x, hx⟩ : ∃ x, B[k] = x := ⟨_, rfl⟩
        have hx2 : B[k]? = some x := by rw [List.getElem?_eq_getElem hkB, hx]
        have hx8 : x < 256 := H7.out x (by rw [← hx]; exact List.getElem_mem _)
        have c0 := H6.out k (.int .u8 x) (by simp [U8s, hx2])
        rw [List.drop_eq_getElem_cons hkB, hx] at hR
        have HR := Lib.hid hR
        obtain ⟨p, hp⟩ : ∃ p, x % 128 = p := ⟨_, rfl⟩
        have hp2 : p < 128 := by omega
        have ep := andNot_eq x p hx8 hp
        have HP := Lib.hid hp
        clear hx hx2 hR hp
        obtain ⟨t, ht⟩ : ∃ t, 7 * k = t := ⟨_, rfl⟩
        have et : (k : Int) * 7 = (t : Int) := by omega
        have ht63 : t ≤ 63 := by omega
        have HT := Lib.hid ht
        clear ht
        obtain ⟨q, hq⟩ : ∃ q, p * 2 ^ t % 18446744073709551616 = q := ⟨_, rfl⟩
        have eq := shl_eq p t q hq
        by_cases hA : k = 9 ∧ 1 < p
        · obtain ⟨h9, h1p⟩ := hA
          have e63 : t = 63 := by have := HT.out; omega
          have htest : ((q : Int) / 2 ^ t != (p : Int)) = true := by rw [e63]; exact part_bad p q hp2 h1p (by rw [← e63]; exact hq)
          have hRe := HR.out
          rw [h9, readV_great _ _ _ (by have := HP.out; omega)] at hRe
          have HRE := Lib.hid hRe
          clear hRe e63 hq h9
          go_wp2_with fail
          go_ret3
          exact ⟨by rw [← HRE.out]; rfl, rfl⟩
        · have hfit := part_fits p k hp2 hA (by omega)
          rw [HT.out] at hfit
          rw [Nat.mod_eq_of_lt hfit] at hq
          have htest := part_good p t q hq
          have hor := or_part acc p t (by rw [← HT.out]; exact HACC.out) hacc2 hfit
          rw [hq] at hor hfit
          obtain ⟨acc', hacc'⟩ : ∃ a, acc + q = a := ⟨_, rfl⟩
          rw [hacc'] at hor
          have HQ := Lib.hid hq
          have HA := Lib.hid hA
          have HFIT := Lib.hid hfit
          have HACC' := Lib.hid hacc'
          clear hq hA hfit hacc'
          by_cases h128 : x < 128
          · have hand : (bits BinOp.and IntKind.u8 (x : Int) 128 == 0) = true := by rw [and_128 x hx8, if_pos h128]; rfl
            have hpx : p = x := by have := HP.out; omega
            have hval : acc + x * 2 ^ (7 * k) = acc' := by rw [HT.out, ← HACC'.out, ← HQ.out, hpx]
            have HVAL := Lib.hid hval
            clear hpx hval
            by_cases hx0 : x = 0
            · have ex0 : ((x : Int) == 0) = true := by rw [beq_iff_eq]; omega
              have HX0 := Lib.hid hx0
              clear hx0
              by_cases hk0 : 0 < k
              · have ek : decide ((0 : Int) < (k : Int)) = true := by simp; omega
                have hRe := HR.out
                rw [HX0.out, readV_nought _ _ _ hk0 (by omega)] at hRe
                have HRE := Lib.hid hRe
                clear hRe
                go_wp2_with fail
                go_ret3
                exact ⟨by rw [← HRE.out]; rfl, rfl⟩
              · have ek : decide ((0 : Int) < (k : Int)) = false := by simp; omega
                have hRe := HR.out
                rw [readV_last _ _ _ _ (by omega) h128 (by omega) (by omega), HVAL.out] at hRe
                have HRE := Lib.hid hRe
                clear hRe
                go_wp2_with fail
                go_ret3
                exact ⟨by rw [← HRE.out]; rfl, rfl⟩
            · have ex0 : ((x : Int) == 0) = false := by rw [beq_eq_false_iff_ne]; omega
              have hRe := HR.out
              rw [readV_last _ _ _ _ (by omega) h128 (by have := HA.out; have := HP.out; omega) (by omega), HVAL.out] at hRe
              have HRE := Lib.hid hRe
              clear hRe
              go_wp2_with fail
              go_ret3
              exact ⟨by rw [← HRE.out]; rfl, rfl⟩
          · have hand : (bits BinOp.and IntKind.u8 (x : Int) 128 == 0) = false := by rw [and_128 x hx8, if_neg h128]; rfl
            go_wp2_with fail
            go_roundg (g - 1)
            case measure => have := HK.out; omega
            case rel =>
              have e : m - (g - 1) = k + 1 := by have := HK.out; omega
              have hpow : 2 ^ (7 * (k + 1)) = 128 * 2 ^ t := by rw [two7, HT.out]
              have hlt : acc' < 128 * 2 ^ t := by
                rw [← HACC'.out, ← HQ.out]
                have h1 := HACC.out
                rw [HT.out] at h1
                have h2 := Nat.mul_le_mul_right (2 ^ t) (show p ≤ 127 by omega)
                omega
              refine ⟨by omega, by have := HK.out; go_num, rfl, acc', rfl, ?_, ?_, ?_⟩
              · rw [e]
                by_cases h9 : k < 9
                · have hRe := HR.out
                  rw [readV_more _ _ _ _ h9 h128, HP.out, HT.out, HQ.out, HACC'.out] at hRe
                  exact hRe
                · have hk9 : k = 9 := by omega
                  subst hk9
                  have hRe := HR.out
                  rw [readV_great _ _ _ (by omega)] at hRe
                  rw [readV_ten _ _ _ (by omega)]
                  exact hRe
              · rw [e, hpow]; exact hlt
              · by_cases h9 : k < 9
                · have := Nat.pow_le_pow_right (n := 2) (by omega) (show 7 * (k + 1) ≤ 63 by omega)
                  rw [hpow] at this
                  have e63 : (2 : Nat) ^ 63 = 9223372036854775808 := by decide
                  omega
                · have hk9 : k = 9 := by omega
                  subst hk9
                  have h1 := HACC.out
                  have h2 := HA.out
                  have h3 := HQ.out
                  have h4 := HACC'.out
                  have e63 : (2 : Nat) ^ 63 = 9223372036854775808 := by decide
                  rw [show 7 * 9 = 63 by rfl, e63] at h1
                  rw [← HT.out, show 7 * 9 = 63 by rfl, e63] at h3
                  omega
      · have hkn : k = m := by omega
        subst hkn
        have hRe : R = (0, 0, false) := by
          rw [← hR]
          by_cases h10 : 10 ≤ k
          · exact readV_ten _ _ _ h10
          · rw [List.drop_eq_nil_of_le (by rw [HN.out]; have := HM.out; omega)]; rfl
        have HRE := Lib.hid hRe
        clear hRe hR
        go_wp2_with fail
        go_ret3
        exact ⟨by rw [HRE.out]; rfl, rfl⟩

theorem and127_eq (x p : Nat) (h : x < 256) (hp : x % 128 = p) : bits BinOp.and IntKind.u8 (x : Int) 127 = (p : Int) := by rw [and_127 x h, hp]

set_option maxRecDepth 10000 in
set_option maxHeartbeats 800000 in
theorem readVar_any (s : Value) (B : List Nat) (w : World) (hs : Row w s B) :
    Calls Tryd.prog 25 #[s] w fun e w' => e = .returned (triple (readV 0 0 B)) ∧ w = w' := by
  obtain ⟨n, hn⟩ : ∃ n, B.length = n := ⟨_, rfl⟩
  obtain ⟨b, ao, cap, off, rfl, h2, h3, h4, h5, h6, h7⟩ := hs
  rw [hn] at h2 h4 ⊢
  obtain ⟨R, hR⟩ : ∃ R, readV 0 0 B = R := ⟨_, rfl⟩
  have hR0 : ∃ acc, readV 0 acc (B.drop 0) = R ∧ acc < 2 ^ (7 * 0) ∧ acc = 0 := ⟨0, by simpa using hR, by decide, rfl⟩
  rw [hR]
  have HN := Lib.hid hn
  have H4 := Lib.hid h4
  have H6 := Lib.hid h6
  have H7 := Lib.hid h7
  clear hn h4 h5 h6 h7 hR
  unfold maxLen at h3
  go_enter Tryd.func25, Tryd.ntmps25
  go_wp2_with fail
  go_loopg [5, 6] 10 (fun g v k wr => g ≤ 10 ∧ 10 - g ≤ n ∧ k = .int .i64 ((10 - g : Nat) : Int) ∧ w = wr ∧ ∃ acc : Nat, v = .int .u64 acc ∧ readV (10 - g) acc (B.drop (10 - g)) = R ∧ acc < 2 ^ (7 * (10 - g)) ∧ acc < 18446744073709551616)
  case atStart => 
    obtain ⟨acc, h1, h2, rfl⟩ := hR0
    exact ⟨Nat.le_refl _, by omega, by simp, rfl, 0, rfl, by rw [Nat.sub_self]; exact h1, by rw [Nat.sub_self]; exact h2, by decide⟩
  case round =>
    clear hR0
    obtain ⟨hg, hgn, rfl, rfl, acc, rfl, hR, hacc, hacc2⟩ := hrel
    obtain ⟨g, rfl⟩ : ∃ g, g = gk := ⟨gk, rfl⟩
    obtain ⟨k, hk⟩ : ∃ k, 10 - g = k := ⟨_, rfl⟩
    rw [hk] at hR hacc hgn ⊢
    have hk10 : k ≤ 10 := by omega
    have HK := Lib.hid hk
    have HACC := Lib.hid hacc
    clear hk hacc
    by_cases hkl : k < n ∧ k < 10
    · obtain ⟨hkn, hk9⟩ := hkl
      have hkB : k < B.length := by rw [HN.out]; omega
      have hao := H4.out (by omega)
      subst hao
      obtain ⟨x, hx⟩ : ∃ x, B[k] = x := ⟨_, rfl⟩
      have hx2 : B[k]? = some x := by rw [List.getElem?_eq_getElem hkB, hx]
      have hx8 : x < 256 := H7.out x (by rw [← hx]; exact List.getElem_mem _)
      have c0 := H6.out k (.int .u8 x) (by simp [U8s, hx2])
      rw [List.drop_eq_getElem_cons hkB, hx] at hR
      have HR := Lib.hid hR
      obtain ⟨p, hp⟩ : ∃ p, x % 128 = p := ⟨_, rfl⟩
      have hp2 : p < 128 := by omega
      have ep := and127_eq x p hx8 hp
      have HP := Lib.hid hp
      clear hx hx2 hR hp
      obtain ⟨t, ht⟩ : ∃ t, 7 * k = t := ⟨_, rfl⟩
      have et : 7 * (k : Int) = (t : Int) := by omega
      have ht63 : t ≤ 63 := by omega
      have HT := Lib.hid ht
      clear ht
      obtain ⟨q, hq⟩ : ∃ q, p * 2 ^ t % 18446744073709551616 = q := ⟨_, rfl⟩
      have eq := shl_eq p t q hq
      by_cases hA : k = 9 ∧ 1 < x
      · obtain ⟨h9, h1p⟩ := hA
        have e9 : ((k : Int) == 9) = true := by rw [beq_iff_eq]; omega
        have e1 : decide ((1 : Int) < (x : Int)) = true := by simp; omega
        have hRe := HR.out
        rw [h9, readV_great _ _ _ h1p] at hRe
        have HRE := Lib.hid hRe
        clear hRe hq h9 h1p
        go_wp2_with fail
        go_ret3
        exact ⟨by rw [← HRE.out]; rfl, rfl⟩
      · have hfit := part_fits p k hp2 (by have := HP.out; omega) (by omega)
        rw [HT.out] at hfit
        rw [Nat.mod_eq_of_lt hfit] at hq
        have hor := or_part acc p t (by rw [← HT.out]; exact HACC.out) hacc2 hfit
        rw [hq] at hor hfit
        obtain ⟨acc', hacc'⟩ : ∃ a, acc + q = a := ⟨_, rfl⟩
        rw [hacc'] at hor
        have HQ := Lib.hid hq
        have HA := Lib.hid hA
        have HFIT := Lib.hid hfit
        have HACC' := Lib.hid hacc'
        clear hq hA hfit hacc'
        have htest : (((k : Int) == 9) = true ∧ decide ((1 : Int) < (x : Int)) = false) ∨ ((k : Int) == 9) = false := by
          have := HA.out
          by_cases h9 : k = 9
          · left
            exact ⟨by rw [beq_iff_eq]; omega, by simp; omega⟩
          · right
            rw [beq_eq_false_iff_ne]; omega
        go_upto_region 6 with fail
        go_cut [32] (fun s32 wx => s32 = .bool false ∧ w = wx)
        case first =>
          rcases htest with ⟨e9, e1⟩ | e9
          all_goals (go_wp2_with fail; go_meet; exact ⟨rfl, rfl⟩)
        case rest =>
          obtain ⟨rfl, rfl⟩ := hcut
          clear htest
          by_cases h128 : x < 128
          · have hand : decide ((x : Int) < 128) = true := by simp; omega
            have hpx : p = x := by have := HP.out; omega
            have hval : acc + x * 2 ^ (7 * k) = acc' := by rw [HT.out, ← HACC'.out, ← HQ.out, hpx]
            have HVAL := Lib.hid hval
            clear hpx hval
            by_cases hx0 : 0 < k ∧ x = 0
            · have ex0 : ((x : Int) == 0) = true := by rw [beq_iff_eq]; omega
              have hk0 : 0 < k := hx0.1
              have hRe := HR.out
              rw [hx0.2, readV_nought _ _ _ hx0.1 (by omega)] at hRe
              have HRE := Lib.hid hRe
              clear hRe hx0
              go_wp2_with fail
              go_ret3
              exact ⟨by rw [← HRE.out]; rfl, rfl⟩
            · have hRe := HR.out
              rw [readV_last _ _ _ _ (by omega) h128 (by have := HA.out; omega) hx0, HVAL.out] at hRe
              have HRE := Lib.hid hRe
              have HX0 := Lib.hid hx0
              clear hRe hx0
              by_cases hk0 : 0 < k
              · have ek : decide ((0 : Int) < (k : Int)) = true := by simp; omega
                have ex0 : ((x : Int) == 0) = false := by rw [beq_eq_false_iff_ne]; have := HX0.out; omega
                go_wp2_with fail
                go_ret3
                exact ⟨by rw [← HRE.out]; rfl, rfl⟩
              · have ek : decide ((0 : Int) < (k : Int)) = false := by simp; omega
                go_wp2_with fail
                go_ret3
                exact ⟨by rw [← HRE.out]; rfl, rfl⟩
          · have hand : decide ((x : Int) < 128) = false := by simp; omega
            go_wp2_with fail
            have h9 : k < 9 := by have := HA.out; omega
            go_roundg (g - 1)
            case measure => have := HK.out; omega
            case rel =>
              have e : 10 - (g - 1) = k + 1 := by have := HK.out; omega
              have hpow : 2 ^ (7 * (k + 1)) = 128 * 2 ^ t := by rw [two7, HT.out]
              have hlt : acc' < 128 * 2 ^ t := by
                rw [← HACC'.out, ← HQ.out]
                have h1 := HACC.out
                rw [HT.out] at h1
                have h2 := Nat.mul_le_mul_right (2 ^ t) (show p ≤ 127 by omega)
                omega
              refine ⟨by omega, by omega, by have := HK.out; go_num, rfl, acc', rfl, ?_, ?_, ?_⟩
              · rw [e]
                have hRe := HR.out
                rw [readV_more _ _ _ _ h9 h128, HP.out, HT.out, HQ.out, HACC'.out] at hRe
                exact hRe
              · rw [e, hpow]; exact hlt
              · have := Nat.pow_le_pow_right (n := 2) (by omega) (show 7 * (k + 1) ≤ 63 by omega)
                rw [hpow] at this
                have e63 : (2 : Nat) ^ 63 = 9223372036854775808 := by decide
                omega
    · have hRe : R = (0, 0, false) := by
        rw [← hR]
        by_cases h10 : 10 ≤ k
        · exact readV_ten _ _ _ h10
        · rw [List.drop_eq_nil_of_le (by rw [HN.out]; omega)]; rfl
      have HRE := Lib.hid hRe
      clear hRe hR
      by_cases hn : k < n
      · have h10 : ¬ k < 10 := fun h => hkl ⟨hn, h⟩
        clear hkl
        go_wp2_with fail
        go_ret3
        exact ⟨by rw [HRE.out]; rfl, rfl⟩
      · clear hkl
        go_wp2_with fail
        go_ret3
        exact ⟨by rw [HRE.out]; rfl, rfl⟩

theorem put_nil (v : Nat) (w : World) (hv : v < 18446744073709551616) :
    Calls Tryd.prog 17 #[.slice none 0 0, .int .u64 v] w (NewRow 5 w (U8s (putVar v))) :=
  put_any 0 _ [] v w (src_nil w) hv (by simp)
theorem putVar_nil (v : Nat) (w : World) (hv : v < 18446744073709551616) :
    Calls Tryd.prog 20 #[.slice none 0 0, .int .u64 v] w (NewRow 5 w (U8s (putVar v))) :=
  putVar_any _ [] v w (app_nil w) hv (by simp)

theorem read_val (s : Value) (B : List Nat) (w : World) (hs : Row w s B) (a n : Nat) (ok : Bool) (h : readV 0 0 B = (a, n, ok)) :
    Calls Tryd.prog 23 #[s] w fun e w' => e = .returned (.tuple #[.int .u64 a, .int .i64 n, .bool ok]) ∧ w = w' := by
  have := read_any s B w hs
  rw [h] at this
  exact this
theorem readVar_val (s : Value) (B : List Nat) (w : World) (hs : Row w s B) (a n : Nat) (ok : Bool) (h : readV 0 0 B = (a, n, ok)) :
    Calls Tryd.prog 25 #[s] w fun e w' => e = .returned (.tuple #[.int .u64 a, .int .i64 n, .bool ok]) ∧ w = w' := by
  have := readVar_any s B w hs
  rw [h] at this
  exact this
end Go.Proofs.YtipdfgkemghmoaaDoor
