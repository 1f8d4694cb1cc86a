/- The walk of the law ScanNumbers. -/
import Derived.Test.YtcglfkegdimllaaDoorZSigns
set_option linter.unusedSimpArgs false
set_option linter.unusedVariables false
namespace Go.Proofs.YtcglfkegdimllaaDoor
open Go.RowKit M

theorem and_15 (x : Nat) (h : x < 18446744073709551616) : bits .and .u64 (x : Int) 15 = ((x % 16 : Nat) : Int) := by
  rw [show (15 : Int) = ((15 : Nat) : Int) from rfl, bits_and_u64 x 15 h (by decide), show (15 : Nat) = 2 ^ 4 - 1 from rfl, Nat.and_two_pow_sub_one_eq_mod]
theorem and_31 (x : Nat) (h : x < 18446744073709551616) : bits .and .u64 (x : Int) 31 = ((x % 32 : Nat) : Int) := by
  rw [show (31 : Int) = ((31 : Nat) : Int) from rfl, bits_and_u64 x 31 h (by decide), show (31 : Nat) = 2 ^ 5 - 1 from rfl, Nat.and_two_pow_sub_one_eq_mod]

def hexStr : ByteArray := ⟨#[48, 49, 50, 51, 52, 53, 54, 55, 56, 57, 65, 66, 67, 68, 69, 70]⟩
theorem hex_ext (k : Nat) (h : k < 16) : (hexStr.extract k (k + 1)).size = 1 := by
  rw [← size_list, ext_list, List.length_take, List.length_drop, size_list, show hexStr.size = 16 from rfl]; omega
theorem shr_step (v k : Nat) (h0 : 0 < v) (hk : k ≤ 16) (h : v < 2 ^ (64 - 4 * k)) : k + 1 ≤ 16 ∧ v / 16 < 2 ^ (64 - 4 * (k + 1)) := by
  by_cases h16 : k = 16
  · subst h16; simp at h; omega
  · have hk2 : k < 16 := by omega
    refine ⟨hk2, ?_⟩
    rw [Nat.div_lt_iff_lt_mul (by decide), show (16 : Nat) = 2 ^ 4 from rfl, ← Nat.pow_add, show 64 - 4 * (k + 1) + 4 = 64 - 4 * k by omega]
    exact h
theorem div_step (v k : Nat) (h0 : 0 < v) (hk : k ≤ 20) (h : v < 10 ^ (20 - k)) : k + 1 ≤ 20 ∧ v / 10 < 10 ^ (20 - (k + 1)) := by
  by_cases h20 : k = 20
  · subst h20; simp at h; omega
  · have hk2 : k < 20 := by omega
    refine ⟨hk2, ?_⟩
    rw [Nat.div_lt_iff_lt_mul (by decide)]
    have e : 10 ^ (20 - (k + 1)) * 10 = 10 ^ (20 - k) := by rw [← Nat.pow_succ, show (20 - (k + 1)).succ = 20 - k by omega]
    rw [e]; exact h
theorem w64_of (v k : Nat) (h : v < 2 ^ (64 - 4 * k)) : v < 18446744073709551616 :=
  Nat.lt_of_lt_of_le h (show 2 ^ (64 - 4 * k) ≤ 2 ^ 64 from Nat.pow_le_pow_right (by decide) (by omega))
theorem w64_ten (v k : Nat) (h : v < 10 ^ (20 - k)) : v < 100000000000000000000 :=
  Nat.lt_of_lt_of_le h (show 10 ^ (20 - k) ≤ 10 ^ 20 from Nat.pow_le_pow_right (by decide) (by omega))
theorem u64_ten (x : Nat) (h : x < 18446744073709551616) : Value.int .u64 (IntKind.u64.wrap ((x : Int) / 10)) = Value.int .u64 ((x / 10 : Nat) : Int) := by
  rw [show ((x : Int) / 10) = ((x / 10 : Nat) : Int) by omega, wrap_u64, Nat.mod_eq_of_lt (by omega)]
theorem shr_lt (n r : Nat) (h : n < 18446744073709551616) : n / 2 ^ r < 18446744073709551616 := Nat.lt_of_le_of_lt (Nat.div_le_self _ _) h

theorem nums_get (i : Nat) (h : i < 7) : ∃ pz : ByteArray, ([Value.string ⟨#[50, 49, 52, 55, 52, 56, 51, 54, 52, 55]⟩, Value.string ⟨#[50, 49, 52, 55, 52, 56, 51, 54, 52, 56]⟩, Value.string ⟨#[48, 70, 70, 70, 70, 70, 70, 70, 70, 72]⟩, Value.string ⟨#[49, 48, 48, 48, 48, 48, 48, 48, 48, 72]⟩, Value.string ⟨#[48, 70, 70, 88]⟩, Value.string ⟨#[49, 48, 48, 88]⟩, Value.string ⟨#[49, 46, 46, 50]⟩] : List Value)[i]'h = .string pz ∧ pz.size ≤ 10 := by
  match i, h with
  | 0, _ => exact ⟨_, rfl, by decide⟩
  | 1, _ => exact ⟨_, rfl, by decide⟩
  | 2, _ => exact ⟨_, rfl, by decide⟩
  | 3, _ => exact ⟨_, rfl, by decide⟩
  | 4, _ => exact ⟨_, rfl, by decide⟩
  | 5, _ => exact ⟨_, rfl, by decide⟩
  | 6, _ => exact ⟨_, rfl, by decide⟩
theorem one_size (b : UInt8) : (⟨#[b]⟩ : ByteArray).size = 1 := rfl

set_option maxRecDepth 10000 in
set_option maxHeartbeats 1600000 in
theorem numbers_any (n y t : Nat) (hn : n < 18446744073709551616) (w : World) (hA : Asc w) :
    Calls Tryd.prog 4 #[.int .u64 n, .int .u8 y, .int .u8 t] w fun e w' => e = .returned (.bool true) ∧ Only Nil w w' := by
  have cK := known11 w hA
  have a31 := and_31 n hn
  obtain ⟨r0, hr0⟩ : ∃ r0, n % 32 = r0 := ⟨_, rfl⟩
  have hr32 : r0 < 32 := by rw [← hr0]; exact Nat.mod_lt _ (by decide)
  rw [hr0] at a31
  have HN := Lib.hid hn
  clear hn hr0
  go_enter Tryd.func4, Tryd.ntmps4
  go_wp2_with fail
  refine cK.mono ?_
  rintro e w1 ⟨rfl, ho1⟩
  clear cK
  have HA := Lib.hid (hA.kept ho1)
  have HO := Lib.hid ho1
  clear hA ho1
  go_wp2_with fail
  go_loopg [7, 8] (n / 2 ^ r0) (fun g s v wr => wr = w1 ∧ ∃ (x k : Nat) (z : ByteArray), v = .int .u64 (x : Int) ∧ s = .string z ∧ z.size = k ∧ k ≤ 16 ∧ g = x ∧ x < 2 ^ (64 - 4 * k))
  case atStart => exact ⟨rfl, n / 2 ^ r0, 0, ⟨#[]⟩, by simp, rfl, rfl, Nat.zero_le _, rfl, shr_lt _ _ HN.out⟩
  case round =>
    obtain ⟨rfl, x, k, z, rfl, rfl, hz, hk, hg, hx⟩ := hrel
    have HG := Lib.hid hg
    clear hg
    by_cases h0 : 0 < x
    · obtain ⟨s1, s2⟩ := shr_step x k h0 hk hx
      have a15 := and_15 x (w64_of x k hx)
      obtain ⟨r, hr⟩ : ∃ r, x % 16 = r := ⟨_, rfl⟩
      have hr16 : r < 16 := by rw [← hr]; exact Nat.mod_lt _ (by decide)
      rw [hr] at a15
      have HX := Lib.hid hx
      have HS := Lib.hid s2
      have h0' : (0 : Int) < (x : Int) := by omega
      have wr1 : IntKind.u64.wrap ((r : Int) + 1) = (r : Int) + 1 := by rw [show ((r : Int) + 1) = ((r + 1 : Nat) : Int) by omega, wrap_u64, Nat.mod_eq_of_lt (by omega)]
      have r0' : (0 : Int) ≤ (r : Int) := Int.natCast_nonneg _
      have r1' : (r : Int) + 1 ≤ 16 := by omega
      clear hx hr s2
      go_wp2_with fail
      go_roundg (x / 16)
      case measure => rw [HG.out]; exact Nat.div_lt_self h0 (by decide)
      case rel =>
        refine ⟨rfl, x / 16, k + 1, _, by simp, rfl, ?_, s1, rfl, HS.out⟩
        have h1 := hex_ext r hr16
        unfold hexStr at h1
        rw [ByteArray.size_append, h1, hz]; omega
    · have hx0 : x = 0 := by omega
      subst hx0
      have hz16 : z.size ≤ 16 := by omega
      clear hz hk hx h0
      go_wp2_with fail
      go_loopg [9, 10] (n / 2 ^ r0) (fun g s v wx => wx = wr ∧ ∃ (x k : Nat) (z : ByteArray), v = .int .u64 (x : Int) ∧ s = .string z ∧ z.size = k ∧ k ≤ 20 ∧ g = x ∧ x < 10 ^ (20 - k) ∧ x < 18446744073709551616)
      case atStart => exact ⟨rfl, n / 2 ^ r0, 0, ⟨#[]⟩, by simp, rfl, rfl, Nat.zero_le _, rfl, Nat.lt_of_lt_of_le (shr_lt _ _ HN.out) (by decide), shr_lt _ _ HN.out⟩
      case round =>
        obtain ⟨rfl, x, k, u, rfl, rfl, hu, hk, hg, hx, hx64⟩ := hrel
        have HG2 := Lib.hid hg
        have H64 := Lib.hid hx64
        clear hg hx64
        by_cases h0 : 0 < x
        · obtain ⟨s1, s2⟩ := div_step x k h0 hk hx
          obtain ⟨r, hr⟩ : ∃ r, x % 10 = r := ⟨_, rfl⟩
          have hr16 : r < 16 := by rw [← hr]; exact Nat.lt_of_lt_of_le (Nat.mod_lt _ (by decide)) (by decide)
          have er : (x : Int) % 10 = (r : Int) := by omega
          have HS := Lib.hid s2
          have h0' : (0 : Int) < (x : Int) := by omega
          have wr1 : IntKind.u64.wrap ((r : Int) + 1) = (r : Int) + 1 := by rw [show ((r : Int) + 1) = ((r + 1 : Nat) : Int) by omega, wrap_u64, Nat.mod_eq_of_lt (by omega)]
          have r0' : (0 : Int) ≤ (r : Int) := Int.natCast_nonneg _
          have r1' : (r : Int) + 1 ≤ 16 := by omega
          clear hx hr s2
          go_wp2_with fail
          go_roundg (x / 10)
          case measure => rw [HG2.out]; exact Nat.div_lt_self h0 (by decide)
          case rel =>
            refine ⟨rfl, x / 10, k + 1, _, u64_ten x H64.out, rfl, ?_, s1, rfl, HS.out, Nat.lt_of_le_of_lt (Nat.div_le_self _ _) H64.out⟩
            have h1 := hex_ext r hr16
            unfold hexStr at h1
            rw [ByteArray.size_append, h1, hu]; omega
        · have hx0 : x = 0 := by omega
          subst hx0
          have hu20 : u.size ≤ 20 := by omega
          clear hu hk hx h0
          go_wp2_with fail
          go_loopg [11, 12] (y % 5) (fun g s i wx => wx = wr ∧ ∃ (j : Nat) (z : ByteArray), i = .int .i64 (j : Int) ∧ s = .string z ∧ z.size = 1 + j ∧ j ≤ y % 5 ∧ g = y % 5 - j)
          case atStart => exact ⟨rfl, 0, ⟨#[48]⟩, rfl, rfl, rfl, Nat.zero_le _, rfl⟩
          case round =>
            obtain ⟨rfl, j, v, rfl, rfl, hv, hj, hg⟩ := hrel
            have HG3 := Lib.hid hg
            clear hg
            have y5 : y % 5 < 5 := Nat.mod_lt _ (by decide)
            have j0 : (0 : Int) ≤ (j : Int) := Int.natCast_nonneg _
            by_cases hjn : j < y % 5
            · have j1 : (j : Int) < (y : Int) % 5 := by omega
              go_wp2_with fail
              go_roundg (y % 5 - (j + 1))
              case measure => have := HG3.out; omega
              case rel =>
                refine ⟨rfl, j + 1, _, by go_num, rfl, ?_, by omega, rfl⟩
                rw [ByteArray.size_append, hv]; show 1 + j + 1 = 1 + (j + 1); omega
            · have j2 : decide (j < y % 5) = false := by simp; omega
              have t7 : t % 7 < 7 := Nat.mod_lt _ (by decide)
              have t8 : (t : Int) % 7 < 7 := by omega
              obtain ⟨pz, hpz, hps⟩ := nums_get (t % 7) t7
              have hv5 : v.size ≤ 6 := by omega
              clear hv HG HG2 HG3
              have hA0 := HA.out
              have ho0 := HO.out
              go_wp2_with fail
              refine (toldB _ (by first | omega | (simp only [ByteArray.size_append, one_size]; omega)) _ hA0).mono ?_
              rintro e w10 ⟨rfl, hb10⟩
              have hA1 := hA0.kept hb10
              have ho1 := ho0.trans hb10 (fun _ _ h => h)
              clear hA0 ho0 hb10
              go_wp2_with fail
              refine (toldB _ (by first | omega | (simp only [ByteArray.size_append, one_size]; omega)) _ hA1).mono ?_
              rintro e w11 ⟨rfl, hb11⟩
              have hA2 := hA1.kept hb11
              have ho2 := ho1.trans hb11 (fun _ _ h => h)
              clear hA1 ho1 hb11
              go_wp2_with fail
              refine (toldB _ (by first | omega | (simp only [ByteArray.size_append, one_size]; omega)) _ hA2).mono ?_
              rintro e w12 ⟨rfl, hb12⟩
              have hA3 := hA2.kept hb12
              have ho3 := ho2.trans hb12 (fun _ _ h => h)
              clear hA2 ho2 hb12
              go_wp2_with fail
              refine (toldB _ (by first | omega | (simp only [ByteArray.size_append, one_size]; omega)) _ hA3).mono ?_
              rintro e w13 ⟨rfl, hb13⟩
              have hA4 := hA3.kept hb13
              have ho4 := ho3.trans hb13 (fun _ _ h => h)
              clear hA3 ho3 hb13
              go_wp2_with fail
              refine (toldB _ (by first | omega | (simp only [ByteArray.size_append, one_size]; omega)) _ hA4).mono ?_
              rintro e w14 ⟨rfl, hb14⟩
              have hA5 := hA4.kept hb14
              have ho5 := ho4.trans hb14 (fun _ _ h => h)
              clear hA4 ho4 hb14
              go_wp2_with fail
              refine (toldB pz (by omega) _ (hA5.kept ((Only.refl Nil w14).alloc _))).mono ?_
              rintro e w15 ⟨rfl, hb15⟩
              have HO6 := Lib.hid ((ho5.alloc _).trans hb15 (fun _ _ h => h))
              clear ho5 hb15 hA5
              go_wp2_with fail
              go_ret
              exact ⟨rfl, HO6.out⟩
end Go.Proofs.YtcglfkegdimllaaDoor
