/- Symbols: numbers, the program's. -/
import Derived.Test.YtbpdhpfcknaaiaaDoorZTok
set_option linter.unusedSimpArgs false
set_option linter.unusedVariables false
namespace Go.Proofs.YtbpdhpfcknaaiaaDoor
open Go.RowKit M

/-- Are digits below a base alone? -/
def lowS (t : Txt) (base i : Nat) : Nat → Bool
  | 0 => true
  | k + 1 => lowS t base i k && decide (hexV (t.g (i + k)) < base)
theorem lowS_ten (t : Txt) (i : Nat) : ∀ k, lowS t 10 i k = plainS t i k
  | 0 => rfl
  | k + 1 => by rw [lowS, plainS, lowS_ten t i k]
theorem lowS_le (t : Txt) (base i : Nat) : ∀ k m, lowS t base i (k + m) = true → lowS t base i k = true
  | k, 0, h => h
  | k, m + 1, h => by
    rw [show k + (m + 1) = k + m + 1 by omega, lowS, Bool.and_eq_true] at h
    exact lowS_le t base i k m h.1
theorem lowS_hex (t : Txt) (i : Nat) : ∀ k, (∀ j, j < k → hexB (t.g (i + j)) = true) → lowS t 16 i k = true
  | 0, _ => rfl
  | k + 1, h => by rw [lowS, lowS_hex t i k (fun j hj => h j (by omega)), decide_eq_true (hexV_lt _ (h k (by omega)))]; rfl
theorem valS_cong (t t' : Txt) (base i : Nat) : ∀ k, (∀ j, j < k → t.g (i + j) = t'.g (i + j)) → valS t base i k = valS t' base i k
  | 0, _ => rfl
  | k + 1, h => by rw [valS, valS, valS_cong t t' base i k (fun j hj => h j (by omega)), h k (by omega)]
theorem lowS_cong (t t' : Txt) (base i : Nat) : ∀ k, (∀ j, j < k → t.g (i + j) = t'.g (i + j)) → lowS t base i k = lowS t' base i k
  | 0, _ => rfl
  | k + 1, h => by rw [lowS, lowS, lowS_cong t t' base i k (fun j hj => h j (by omega)), h k (by omega)]
theorem val_y (x b y : Nat) (hy : x * b = y) (hx : x ≤ 4294967295) (hb : b ≤ 16) : y ≤ 68719476720 := by
  rw [← hy]; exact Nat.mul_le_mul hx hb
theorem val_w (y d : Nat) (h : y ≤ 68719476720) (hd : d < 16) : wrap64 (y : Int) = (y : Int) ∧ ∃ z, z = y + d ∧ wrap64 ((y : Int) + (d : Int)) = (z : Int) := by
  refine ⟨?_, _, rfl, ?_⟩ <;> unfold wrap64 <;> omega
theorem let_w (c : Int) (d : Nat) (h1 : c = 55 + (d : Int)) (h : d < 16) (h2 : 10 ≤ d) : ∃ e : Nat, IntKind.u8.wrap (c - 65) = (e : Int) ∧ wrap64 (e : Int) = (e : Int) ∧ wrap64 ((e : Int) + 10) = (d : Int) := by
  refine ⟨d - 10, ?_, ?_, ?_⟩
  · rw [h1, show (55 + (d : Int) - 65) = ((d - 10 : Nat) : Int) by omega]; simp [IntKind.wrap, IntKind.bits, IntKind.signed]; omega
  · unfold wrap64; omega
  · unfold wrap64; omega
theorem dig_c (c d : Nat) (hd : hexV c = d) (h : digB c = true) : (c : Int) = 48 + (d : Int) ∧ d < 10 := by
  rw [← hd]; unfold hexV; rw [if_pos h]; unfold digB at h; simp at h; omega
theorem let_c (c d : Nat) (hd : hexV c = d) (hx : hexB c = true) (h : digB c = false) : (c : Int) = 55 + (d : Int) ∧ 10 ≤ d := by
  rw [← hd]; unfold hexV; rw [h, if_neg (by decide)]; unfold hexB at hx; rw [h] at hx; simp at hx; omega
theorem w64d (d : Nat) (h : d < 16) : wrap64 (d : Int) = (d : Int) := by unfold wrap64; omega
theorem w8 (d : Nat) (h : d < 256) : IntKind.u8.wrap (d : Int) = (d : Int) := by simp [IntKind.wrap, IntKind.bits, IntKind.signed]; omega
/-- What value tells. -/
def valV : Option Nat → Value
  | some v => .tuple #[.int .i64 (v : Nat), .bool true]
  | none => .tuple #[.int .i64 0, .bool false]
def valE (t : Txt) (base most k : Nat) : Option Nat := if lowS t base 0 k = true ∧ valS t base 0 k ≤ most then some (valS t base 0 k) else none
theorem retVal {r : Option Nat} {v : Nat} (h : r = some v) : Ending.returned (.tuple #[.int .i64 (v : Nat), .bool true]) = .returned (valV r) := by rw [h]; rfl
theorem retValNo {r : Option Nat} (h : r = none) : Ending.returned (.tuple #[.int .i64 0, .bool false]) = .returned (valV r) := by rw [h]; rfl

set_option maxRecDepth 10000 in
set_option maxHeartbeats 800000 in
theorem value_any (u : ByteArray) (k : Nat) (hk : u.size = k) (hkb : k ≤ 1000000) (hx : ∀ j, j < k → hexB (bt u j) = true) (b m : Nat) (hb : 1 ≤ b) (hb2 : b ≤ 16) (hm : m ≤ 4294967295) (w : World) :
    Calls Tryd.prog 47 #[.string u, .int .i64 b, .int .i64 m] w fun e w' => e = .returned (valV (valE (tx u) b m k)) ∧ w = w' := by
  obtain ⟨R, hR⟩ : ∃ R, valE (tx u) b m k = R := ⟨_, rfl⟩
  rw [hR]
  unfold valE at hR
  have HR := Lib.hid hR
  have HX := Lib.hid hx
  have HM := Lib.hid hm
  clear hR hx hm
  go_enter Tryd.func47, Tryd.ntmps47
  go_wp2_with fail
  go_loopg [8, 13] k (fun g v i wr => wr = w ∧ ∃ (j x : Nat), i = .int .i64 (j : Int) ∧ v = .int .i64 (x : Int) ∧ j ≤ k ∧ g = k - j ∧ lowS (tx u) b 0 j = true ∧ valS (tx u) b 0 j = x ∧ x ≤ m)
  case atStart => exact ⟨rfl, 0, 0, rfl, rfl, by omega, by omega, rfl, rfl, by omega⟩
  case round =>
    obtain ⟨rfl, j, x, rfl, rfl, hj, hg, hlow, hval, hxm⟩ := hrel
    have HG := Lib.hid hg
    have HL := Lib.hid hlow
    have HV := Lib.hid hval
    clear hg hlow hval
    have j0 : (0 : Int) ≤ (j : Int) := Int.natCast_nonneg _
    by_cases hjk : j < k
    · have j1 : (j : Int) < (k : Int) := by omega
      have hxj := HX.out j hjk
      have ix := fun w => ix_at u k j hk hjk w
      have cD := fun w => isDigit_any (bt u j) w
      have st1 : lowS (tx u) b 0 (j + 1) = (lowS (tx u) b 0 j && decide (hexV (bt u j) < b)) := by rw [lowS, Nat.zero_add]; rfl
      have st2 : valS (tx u) b 0 (j + 1) = valS (tx u) b 0 j * b + hexV (bt u j) := by rw [valS, Nat.zero_add]; rfl
      rw [HL.out, Bool.true_and] at st1
      rw [HV.out] at st2
      have hfin : lowS (tx u) b 0 k = true → lowS (tx u) b 0 (j + 1) = true := fun h => lowS_le _ _ _ (j + 1) (k - (j + 1)) (by rwa [show j + 1 + (k - (j + 1)) = k by omega])
      have hfin2 : valS (tx u) b 0 (j + 1) ≤ valS (tx u) b 0 k := by
        have := valS_mono (tx u) b 0 hb (j + 1) (k - (j + 1)); rwa [show j + 1 + (k - (j + 1)) = k by omega] at this
      obtain ⟨c, hcc⟩ : ∃ c, bt u j = c := ⟨_, rfl⟩
      rw [hcc] at ix cD st1 st2 hxj
      have hd16 := hexV_lt c hxj
      obtain ⟨d, hd⟩ : ∃ d, hexV c = d := ⟨_, rfl⟩
      rw [hd] at st1 st2 hd16
      obtain ⟨q, hq⟩ : ∃ q, digB c = q := ⟨_, rfl⟩
      rw [hq] at cD
      obtain ⟨y, hy⟩ : ∃ y, x * b = y := ⟨_, rfl⟩
      rw [hy] at st2
      have hyb := val_y x b y hy (by have := HM.out; omega) hb2
      have hJ : j + 1 ≤ k := by omega
      have hJ2 : k - (j + 1) < k - j := by omega
      have hJ3 : gk = k - j := HG.out
      have HJ := Lib.hid hJ
      have HJ2 := Lib.hid hJ2
      have HJ3 := Lib.hid hJ3
      clear hJ hJ2 hJ3
      obtain ⟨w1, z, hz, w2⟩ := val_w y d hyb hd16
      have HW1 := Lib.hid w1
      have HW2 := Lib.hid w2
      clear w1 w2
      have HYC := Lib.hid (show wrap64 ((x : Int) * (b : Int)) = (y : Int) by rw [show (x : Int) * (b : Int) = (y : Int) by rw [← hy]; simp]; exact HW1.out)
      rw [← hz] at st2
      have HZ := Lib.hid hz
      clear hz
      have HF := Lib.hid hfin
      have HF2 := Lib.hid hfin2
      have HS1 := Lib.hid st1
      have HS2 := Lib.hid st2
      have HY := Lib.hid hyb
      have HXM := Lib.hid hxm
      have HD := Lib.hid hd16
      have g1c : b ≤ d ∨ decide (b ≤ d) = false := by
        by_cases h : b ≤ d
        · exact .inl h
        · exact .inr (by simpa using h)
      have g2c : m < z ∨ decide (m < z) = false := by
        by_cases h : m < z
        · exact .inl h
        · exact .inr (by simpa using h)
      have hno : b ≤ d ∨ m < z → R = none := fun h => by
        rw [← HR.out, if_neg]
        intro h'
        rcases h with h | h
        · have := HF.out h'.1
          rw [HS1.out] at this
          simp at this; omega
        · have := HF2.out
          rw [HS2.out] at this
          omega
      have HNO := Lib.hid hno
      clear hfin hfin2 st1 st2 hy hyb hxm hd16 hj hjk hno
      have keep : ∀ w1 : World, decide (b ≤ d) = false → decide (m < z) = false →
          lowS (tx u) b 0 (j + 1) = true ∧ valS (tx u) b 0 (j + 1) = z ∧ z ≤ m := fun _ h1 h2 => by
        rw [HS1.out, HS2.out]
        simp at h1 h2 ⊢
        omega
      have KEEP := Lib.hid keep
      clear keep
      have gg : b ≤ d ∨ (decide (b ≤ d) = false ∧ (m < z ∨ decide (m < z) = false)) := by
        rcases g1c with h | h
        · exact .inl h
        · exact .inr ⟨h, g2c⟩
      clear g1c g2c
      cases q
      · obtain ⟨h1, h2⟩ := let_c c d hd hxj hq
        obtain ⟨e, w3, w4, w5⟩ := let_w c d h1 HD.out h2
        have w6 := w64d d HD.out
        have w2 := HW2.out
        have hyc := HYC.out
        clear hq hd hcc HX HR h1 h2 hxj
        rcases gg with g1 | ⟨g1, g2 | g2⟩
        · go_wp2_with (go_at_call 34; refine (cD _).mono ?_; rintro e w1 ⟨rfl, rfl⟩)
          go_ret2
          exact ⟨retValNo (HNO.out (.inl g1)), rfl⟩
        · go_wp2_with (go_at_call 34; refine (cD _).mono ?_; rintro e w1 ⟨rfl, rfl⟩)
          go_ret2
          exact ⟨retValNo (HNO.out (.inr g2)), rfl⟩
        · go_wp2_with (go_at_call 34; refine (cD _).mono ?_; rintro e w1 ⟨rfl, rfl⟩)
          go_roundg (k - (j + 1))
          case measure => rw [HJ3.out]; exact HJ2.out
          case rel =>
            obtain ⟨q1, q2, q3⟩ := KEEP.out wr g1 g2
            exact ⟨rfl, j + 1, z, by go_num, by go_num, HJ.out, rfl, q1, q2, q3⟩
      · obtain ⟨h1, h2⟩ := dig_c c d hd hq
        have w3 : IntKind.u8.wrap ((c : Int) - 48) = (d : Int) := by rw [h1, show (48 + (d : Int) - 48) = (d : Int) by omega]; exact w8 _ (by omega)
        have w6 := w64d d HD.out
        have w2 := HW2.out
        have hyc := HYC.out
        clear hq hd hcc HX HR h1 h2 hxj
        rcases gg with g1 | ⟨g1, g2 | g2⟩
        · go_wp2_with (go_at_call 34; refine (cD _).mono ?_; rintro e w1 ⟨rfl, rfl⟩)
          go_ret2
          exact ⟨retValNo (HNO.out (.inl g1)), rfl⟩
        · go_wp2_with (go_at_call 34; refine (cD _).mono ?_; rintro e w1 ⟨rfl, rfl⟩)
          go_ret2
          exact ⟨retValNo (HNO.out (.inr g2)), rfl⟩
        · go_wp2_with (go_at_call 34; refine (cD _).mono ?_; rintro e w1 ⟨rfl, rfl⟩)
          go_roundg (k - (j + 1))
          case measure => rw [HJ3.out]; exact HJ2.out
          case rel =>
            obtain ⟨q1, q2, q3⟩ := KEEP.out wr g1 g2
            exact ⟨rfl, j + 1, z, by go_num, by go_num, HJ.out, rfl, q1, q2, q3⟩
    · have hjk' : j = k := by omega
      subst hjk'
      have e : R = some x := by rw [← HR.out, if_pos ⟨HL.out, by rw [HV.out]; exact hxm⟩, HV.out]
      have HE := Lib.hid e
      clear e HR
      go_wp2_with fail
      go_ret2
      exact ⟨retVal HE.out, rfl⟩
end Go.Proofs.YtbpdhpfcknaaiaaDoor
