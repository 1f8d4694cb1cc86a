/- The document's Text. -/
import Derived.Test.YthimhbfglgnohaaDoorRTextI
import Derived.Test.YthimhbfglgnohaaDoorREnc
import Derived.Test.YthimhbfglgnohaaDoorREncN
namespace Go.Proofs.YthimhbfglgnohaaDoor
open Go.RowKit M

theorem dig_one (n : Nat) (h : n < 10) : (⟨#[48, 49, 50, 51, 52, 53, 54, 55, 56, 57]⟩ : ByteArray).extract n (n + 1) = txt (Lib.decDigits n) := by
  rw [Lib.decDigits_one h]
  apply ByteArray.ext
  have : ∀ k : Fin 10, (#[48, 49, 50, 51, 52, 53, 54, 55, 56, 57] : Array UInt8).extract k.val (k.val + 1) = #[UInt8.ofNat (48 + k.val)] := by decide
  simpa [txt, ByteArray.data_extract] using this ⟨n, h⟩

set_option maxHeartbeats 400000 in
theorem dec_nat (n : Nat) : ∀ w : World, n < 1000000000000000 → Calls Tryd.prog 23 #[.int .i64 n] w fun e w' => e = .returned (.string (txt (Lib.decDigits n))) ∧ w' = w := by
  induction n using Nat.strongRecOn with
  | _ n ih =>
    intro w hn
    by_cases h : n < 10
    · have HE := Lib.hid (dig_one n h)
      clear ih
      go_enter Tryd.func23, Tryd.ntmps23
      go_wp2
      go_ret
      exact ⟨str_of HE.out, rfl⟩
    · have c1 := fun w => ih (n / 10) (by omega) w (by omega)
      have c2 := fun w => ih (n % 10) (by omega) w (by omega)
      have e : txt (Lib.decDigits n) = txt (Lib.decDigits (n / 10)) ++ txt (Lib.decDigits (n % 10)) := by
        rw [txt_append, Lib.decDigits_one (show n % 10 < 10 by omega)]
        conv => lhs; rw [Lib.decDigits, dif_neg h]
      have l1 := dig_le (n / 10) (by omega)
      have l2 := dig_le (n % 10) (by omega)
      rw [← txt_size] at l1 l2
      obtain ⟨x, hx⟩ : ∃ x, txt (Lib.decDigits (n / 10)) = x := ⟨_, rfl⟩
      obtain ⟨y, hy⟩ : ∃ y, txt (Lib.decDigits (n % 10)) = y := ⟨_, rfl⟩
      rw [hx] at c1 l1 e
      rw [hy] at c2 l2 e
      have HE := Lib.hid e
      have C1 := Lib.hid c1
      have C2 := Lib.hid c2
      clear ih e hx hy c1 c2
      go_enter Tryd.func23, Tryd.ntmps23
      go_wp2_with fail
      refine (C1.out _).mono ?_
      rintro e w1 ⟨rfl, rfl⟩
      go_wp2_with fail
      refine (C2.out _).mono ?_
      rintro e w2 ⟨rfl, rfl⟩
      go_wp2_with fail
      go_ret
      exact ⟨str_of HE.out.symm, rfl⟩

set_option maxHeartbeats 400000 in
theorem dec_any (n : Int) (w : World) (h1 : -100000000000 ≤ n) (h2 : n ≤ 100000000000) :
    Calls Tryd.prog 23 #[.int .i64 n] w fun e w' => e = .returned (.string (txt (Lib.itoa n))) ∧ w' = w := by
  by_cases h : 0 ≤ n
  · obtain ⟨k, rfl⟩ := Int.eq_ofNat_of_zero_le h
    have := dec_nat k w (by omega)
    rwa [← Lib.itoa_nonneg] at this
  · obtain ⟨k, hk⟩ : ∃ k : Nat, (k : Int) = -n := ⟨n.natAbs, by omega⟩
    have c := fun w => dec_nat k w (by omega)
    have e : txt (Lib.itoa n) = txt [45] ++ txt (Lib.decDigits k) := by
      rw [show n = -(k : Int) by omega, Lib.itoa_neg k (by omega), txt_append]; rfl
    have l1 := dig_le k (by omega)
    rw [← txt_size] at l1
    obtain ⟨x, hx⟩ : ∃ x, txt (Lib.decDigits k) = x := ⟨_, rfl⟩
    rw [hx] at c l1 e
    rw [hk] at c
    have HE := Lib.hid e
    have C1 := Lib.hid c
    have hn : n < 0 := by omega
    clear e hx c hk h
    go_enter Tryd.func23, Tryd.ntmps23
    go_wp2_with fail
    refine (C1.out _).mono ?_
    rintro e w1 ⟨rfl, rfl⟩
    go_wp2_with fail
    go_ret
    exact ⟨str_of HE.out.symm, rfl⟩

theorem reg_any (n : Nat) (w : World) (hn : n < 16) :
    Calls Tryd.prog 24 #[.int .i64 n] w fun e w' => e = .returned (.string (txt (regT n))) ∧ w' = w := by
  have c := fun w => dec_nat n w (by omega)
  have e : txt (regT n) = txt [82] ++ txt (Lib.decDigits n) := by rw [txt_append]; unfold regT; rw [Lib.itoa_nonneg]; rfl
  have hl := dig_le n (by omega)
  rw [← txt_size] at hl
  obtain ⟨x, hx⟩ : ∃ x, txt (Lib.decDigits n) = x := ⟨_, rfl⟩
  rw [hx] at c hl e
  have HE := Lib.hid e
  have C1 := Lib.hid c
  clear hx e c
  go_enter Tryd.func24, Tryd.ntmps24
  go_wp2_with fail
  refine (C1.out _).mono ?_
  rintro e w1 ⟨rfl, rfl⟩
  go_wp2_with fail
  go_ret
  exact ⟨str_of HE.out.symm, rfl⟩
end Go.Proofs.YthimhbfglgnohaaDoor
