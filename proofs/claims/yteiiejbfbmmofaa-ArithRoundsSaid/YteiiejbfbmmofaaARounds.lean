/- The walk of the law ArithRounds. -/
import Derived.Test.YteiiejbfbmmofaaAInts
namespace Go.Proofs.Yteiiejbfbmmofaa
open Go.RowKit M

theorem modp (a : Int) (k : Nat) (hk : k < 32) : ((U a % 2 ^ k : Nat) : Int) = a % ((2 ^ k : Nat) : Int) := by
  have h : (((2 ^ k : Nat) : Int)) ∣ 4294967296 := by
    rw [show (4294967296 : Int) = ((2 ^ 32 : Nat) : Int) from rfl]
    exact Int.natCast_dvd_natCast.2 (Nat.pow_dvd_pow 2 (by omega))
  rw [Int.natCast_emod, ← U_eq, Int.emod_emod_of_dvd _ h]
theorem lsl_back (a : Int) (k : Nat) : lslV (a / ((2 ^ k : Nat) : Int)) k = wrap32 (a - a % ((2 ^ k : Nat) : Int)) := by
  have h := Int.mul_ediv_add_emod a ((2 ^ k : Nat) : Int)
  unfold lslV
  rw [pow_cast]
  obtain ⟨p, hp⟩ : ∃ p : Int, ((2 ^ k : Nat) : Int) = p := ⟨_, rfl⟩
  rw [hp] at h ⊢
  obtain ⟨q, hq⟩ : ∃ q, a / p = q := ⟨_, rfl⟩
  rw [hq] at h ⊢
  have e1 : q % 4294967296 * p % 4294967296 = q * p % 4294967296 := by
    rw [Int.mul_emod, Int.emod_emod_of_dvd _ (Int.dvd_refl _), ← Int.mul_emod]
  rw [e1]
  have e2 : a - a % p = q * p := by rw [Int.mul_comm]; omega
  rw [e2]
  obtain ⟨x, hx⟩ : ∃ x, q * p = x := ⟨_, rfl⟩
  rw [hx]
  unfold wrap32
  omega
theorem sub_fits (a : Int) (k : Nat) (hk : k < 32) (ha : I32 a) : I32 (a - a % ((2 ^ k : Nat) : Int)) := by
  have h0 := Int.emod_nonneg a (show ((2 ^ k : Nat) : Int) ≠ 0 by have := Nat.two_pow_pos k; omega)
  have h1 : ((2 ^ k : Nat) : Int) ∣ a - a % ((2 ^ k : Nat) : Int) := Int.dvd_self_sub_emod
  have h2 : ((2 ^ k : Nat) : Int) ∣ 2147483648 := by
    rw [show (2147483648 : Int) = ((2 ^ 31 : Nat) : Int) from rfl]
    exact Int.natCast_dvd_natCast.2 (Nat.pow_dvd_pow 2 (by omega))
  have h3 := Int.emod_lt_of_pos a (show 0 < ((2 ^ k : Nat) : Int) by have := Nat.two_pow_pos k; omega)
  have h4 := Int.dvd_add h1 h2
  obtain ⟨p, hp⟩ : ∃ p : Int, ((2 ^ k : Nat) : Int) = p := ⟨_, rfl⟩
  rw [hp] at h0 h3 h4 ⊢
  unfold I32 at *
  refine ⟨?_, by omega⟩
  by_cases h5 : -2147483648 ≤ a - a % p
  · exact h5
  · exfalso
    obtain ⟨c, hc⟩ := h4
    have h6 : c < 0 := by
      by_cases h7 : c < 0
      · exact h7
      · have := Int.mul_nonneg (show 0 ≤ p by omega) (show 0 ≤ c by omega)
        omega
    have h8 : p * c ≤ p * (-1) := Int.mul_le_mul_of_nonneg_left (by omega) (by omega)
    omega

theorem K_small (k : Nat) (h : k < 32) : K (k : Int) = k := by unfold K U; omega

set_option maxRecDepth 10000 in
set_option maxHeartbeats 1600000 in
theorem rounds_any (a : Int) (n : Nat) (w : World) (ha : I32 a) (hn : n < 256) :
    Calls Try.prog 7 #[.int .i32 a, .int .u8 n] w fun e w' => e = .returned (.bool true) ∧ w = w' := by
  obtain ⟨c, hc⟩ : ∃ c, bits BinOp.or IntKind.i32 ((n : Int) % 32) 1 = c := ⟨_, rfl⟩
  obtain ⟨r, hr⟩ : ∃ r, K c = r := ⟨_, rfl⟩
  have hr32 : r < 32 := by rw [← hr]; exact K_lt c
  have cr := fun u (hu : u < 4294967296) w => ror_any (S u) c w
  have cr' : ∀ u : Nat, u < 4294967296 → ∀ w, Calls Try.prog 21 #[.int .i32 (S u), .int .i32 c] w fun e w' => e = .returned (.int .i32 (S (rorN u r))) ∧ w = w' := by
    intro u hu w
    have := ror_any (S u) c w
    rwa [U_S u hu, hr] at this
  obtain ⟨k, hk⟩ : ∃ k, n % 31 = k := ⟨_, rfl⟩
  have hk31 : k < 31 := by omega
  have ek : (n : Int) % 31 = (k : Int) := by omega
  obtain ⟨p, hp⟩ : ∃ p, 2 ^ k = p := ⟨_, rfl⟩
  have hp1 : 1 ≤ p := by rw [← hp]; exact Nat.two_pow_pos k
  have hp2 : p ≤ 1073741824 := by
    have := Nat.pow_le_pow_right (n := 2) (by omega) (show k ≤ 30 by omega)
    rw [← hp]; simpa using this
  have ep : (2 : Int) ^ k = (p : Int) := by rw [pow_cast, hp]
  have cd := fun w => div_any a p w ha (by omega) (by omega)
  have cm := fun w => mod_any a p w ha (by omega) (by omega)
  have ca := fun w => asr_any a k w
  rw [K_small k (by omega), ep] at ca
  have cl := fun w => lsl_any (a / p) k w
  have hl := lsl_back a k
  have hsf := sub_fits a k (by omega) ha
  have hmk := and_mask a k ha (by omega)
  rw [modp a k (by omega)] at hmk
  rw [hp] at hl hsf hmk
  rw [K_small k (by omega), hl, w32_in _ hsf] at cl
  have hmk' : bits .and .i32 a ((p : Int) - 1) = a % (p : Int) := by rw [← hmk]; congr 1; omega
  obtain ⟨q, hq⟩ : ∃ q, a / (p : Int) = q := ⟨_, rfl⟩
  obtain ⟨m, hm⟩ : ∃ m, a % (p : Int) = m := ⟨_, rfl⟩
  simp only [hq, hm] at cd cm ca cl hsf hmk'
  have hS : ∃ u : Nat, a = S u ∧ u < 4294967296 ∧ ∀ j, j < 32 → u.testBit j = (U a).testBit ((j + 0 * r) % 32) :=
    ⟨U a, (S_U a ha).symm, U_lt a, fun j hj => by rw [Nat.zero_mul, Nat.add_zero, Nat.mod_eq_of_lt hj]⟩
  have hE : ∀ u : Nat, u < 4294967296 → (∀ j, j < 32 → u.testBit j = (U a).testBit ((j + 32 * r) % 32)) → S u = a := by
    intro u hu h
    have : u = U a := eq_of_bits hu (U_lt a) fun j hj => by rw [h j hj]; congr 1; omega
    rw [this, S_U a ha]
  have hX : ∀ u i : Nat, u < 4294967296 → (∀ j, j < 32 → u.testBit j = (U a).testBit ((j + i * r) % 32)) → ∀ j, j < 32 → (rorN u r).testBit j = (U a).testBit ((j + (i + 1) * r) % 32) := by
    intro u i hu h j hj
    rw [rorN_bit u r j hu hr32 hj, h _ (Nat.mod_lt _ (by decide))]
    congr 1
    rw [Nat.add_mul, Nat.one_mul]; omega
  have HE := Lib.hid hE
  have HX := Lib.hid hX
  unfold I32 at ha hsf
  clear hr hk hp hl hmk hq hm cr hE hX
  go_enter Try.func7, Try.ntmps7
  go_wp2_with (go_at_call 9; refine (known_any w).mono ?_; rintro e w1 ⟨rfl, rfl⟩)
  go_loopg [5, 6] 32 (fun g x i wr => w = wr ∧ g ≤ 32 ∧ i = .int .i64 ((32 - g : Nat) : Int) ∧ ∃ u : Nat, x = .int .i32 (S u) ∧ u < 4294967296 ∧ ∀ j, j < 32 → u.testBit j = (U a).testBit ((j + (32 - g) * r) % 32))
  case atStart =>
    obtain ⟨u, h1, h2, h3⟩ := hS
    exact ⟨rfl, by omega, by simp, u, by rw [← h1], h2, h3⟩
  case round =>
    clear hS
    obtain ⟨rfl, hg, rfl, u, rfl, hu, hb⟩ := hrel
    obtain ⟨g, rfl⟩ : ∃ g, g = gk := ⟨gk, rfl⟩
    obtain ⟨i, hi⟩ : ∃ i, 32 - g = i := ⟨_, rfl⟩
    rw [hi] at hb ⊢
    have HI := Lib.hid hi
    have HB := Lib.hid hb
    clear hi hb
    by_cases hi32 : i < 32
    · have cu := cr' u hu
      go_wp2_with (go_at_call 21; refine (cu w).mono ?_; rintro e w1 ⟨rfl, rfl⟩)
      go_roundg (g - 1)
      case measure => have := HI.out; omega
      case rel =>
        have h1 := HI.out
        refine ⟨rfl, by omega, by go_num, _, rfl, rorN_lt _ _ hu, ?_⟩
        rw [show 32 - (g - 1) = i + 1 by omega]
        exact HX.out u i hu HB.out
    · have hSu : S u = a := by
        have h1 := HI.out
        have h2 := HB.out
        rw [show i = 32 by omega] at h2
        exact HE.out u hu h2
      rw [hSu]
      clear hSu cr'
      go_wp2_with fail
      refine (cd w).mono ?_
      rintro e w1 ⟨rfl, rfl⟩
      go_wp2_with fail
      refine (cm w).mono ?_
      rintro e w1 ⟨rfl, rfl⟩
      go_wp2_with fail
      refine (ca w).mono ?_
      rintro e w1 ⟨rfl, rfl⟩
      go_wp2_with fail
      refine (cl w).mono ?_
      rintro e w1 ⟨rfl, rfl⟩
      go_wp2_with fail
      go_ret
      exact ⟨rfl, rfl⟩
end Go.Proofs.Yteiiejbfbmmofaa
