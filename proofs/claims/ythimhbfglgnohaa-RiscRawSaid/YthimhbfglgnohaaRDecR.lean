/- The document's Decode. -/
import Derived.Test.YthimhbfglgnohaaRDecI
set_option linter.unusedSimpArgs false
set_option linter.unusedVariables false
namespace Go.Proofs.Ythimhbfglgnohaa
open Go.RowKit M

theorem and_mid (v a k : Nat) : v &&& ((2 ^ k - 1) * 2 ^ a) = (v / 2 ^ a % 2 ^ k) * 2 ^ a := by
  apply Nat.eq_of_testBit_eq
  intro i
  rw [Nat.testBit_and, Nat.testBit_mul_two_pow, Nat.testBit_mul_two_pow, Nat.testBit_mod_two_pow, Nat.testBit_two_pow_sub_one, Nat.testBit_div_two_pow]
  by_cases h : a ≤ i
  · rw [show i - a + a = i by omega, Bool.and_left_comm, Bool.and_comm (v.testBit i)]
  · simp [h]
theorem and_at {v a k A K n : Nat} (hv : v < 4294967296) (hA : 2 ^ a = A) (hK : 2 ^ k - 1 = K) (hk : k < 32) (h : v / 2 ^ a % 2 ^ k = n) :
    bits BinOp.and IntKind.u32 ((v : Int) / (A : Int)) (K : Int) = (n : Int) := by
  have h3 : v / 2 ^ a ≤ v := Nat.div_le_self _ _
  have h1 : 2 ^ k < 4294967296 := by
    have := Nat.pow_lt_pow_right (a := 2) (by omega) hk; simpa using this
  have e1 : ((v : Int) / (A : Int)) = ((v / A : Nat) : Int) := rfl
  rw [e1, u32_and_nat _ _ (by rw [← hA]; omega) (by omega), ← hK, Nat.and_two_pow_sub_one_eq_mod, ← hA, h]
theorem and_low {v k K n : Nat} (hv : v < 4294967296) (hK : 2 ^ k - 1 = K) (hk : k < 32) (h : v % 2 ^ k = n) :
    bits BinOp.and IntKind.u32 (v : Int) (K : Int) = (n : Int) := by
  have h1 : 2 ^ k < 4294967296 := by
    have := Nat.pow_lt_pow_right (a := 2) (by omega) hk; simpa using this
  rw [u32_and_nat _ _ hv (by omega), ← hK, Nat.and_two_pow_sub_one_eq_mod, h]
theorem and_in {v a k M n : Nat} (hv : v < 4294967296) (hM : (2 ^ k - 1) * 2 ^ a = M) (hm : M < 4294967296) (h : v / 2 ^ a % 2 ^ k * 2 ^ a = n) :
    bits BinOp.and IntKind.u32 (v : Int) (M : Int) = (n : Int) := by
  rw [u32_and_nat _ _ hv hm, ← hM, and_mid, h]

set_option maxHeartbeats 800000 in
theorem decR_0 (v : Nat) (w : World) (hv : v < 4294967296) (hf : v / 1073741824 = 0) :
    Calls Try.prog 33 #[.int .u32 v] w fun e w' => e = .returned (.tuple #[(decI v).val, .bool (isOk v)]) ∧ Only Nil w w' := by
  obtain ⟨hd, hi⟩ := dec_0 (w := v) hf
  have c30 : (v : Int) / 1073741824 = 0 := by omega
  obtain ⟨n29, h29⟩ : ∃ n, v / 2 ^ 29 % 2 = n := ⟨_, rfl⟩
  have c29 : bits BinOp.and IntKind.u32 ((v : Int) / 536870912) 1 = (n29 : Int) := and_at (a := 29) (k := 1) hv rfl rfl (by decide) h29
  obtain ⟨n28, h28⟩ : ∃ n, v / 2 ^ 28 % 2 = n := ⟨_, rfl⟩
  have c28 : bits BinOp.and IntKind.u32 ((v : Int) / 268435456) 1 = (n28 : Int) := and_at (a := 28) (k := 1) hv rfl rfl (by decide) h28
  rw [← bit_of h28] at hd
  rw [← bit_of h29] at hd
  obtain ⟨a, ha⟩ : ∃ n, v / 16777216 % 16 = n := ⟨_, rfl⟩
  have c24 : bits BinOp.and IntKind.u32 ((v : Int) / 16777216) 15 = (a : Int) := and_at (a := 24) (k := 4) hv rfl rfl (by decide) ha
  have ba : a < 16 := by omega
  obtain ⟨b, hb⟩ : ∃ n, v / 1048576 % 16 = n := ⟨_, rfl⟩
  have c20 : bits BinOp.and IntKind.u32 ((v : Int) / 1048576) 15 = (b : Int) := and_at (a := 20) (k := 4) hv rfl rfl (by decide) hb
  have bb : b < 16 := by omega
  obtain ⟨o, ho⟩ : ∃ n, v / 65536 % 16 = n := ⟨_, rfl⟩
  have c16 : bits BinOp.and IntKind.u32 ((v : Int) / 65536) 15 = (o : Int) := and_at (a := 16) (k := 4) hv rfl rfl (by decide) ho
  have bo : o < 16 := by omega
  obtain ⟨c, hc⟩ : ∃ n, v % 16 = n := ⟨_, rfl⟩
  have c0 : bits BinOp.and IntKind.u32 (v : Int) 15 = (c : Int) := and_low (k := 4) hv rfl (by decide) hc
  have bc : c < 16 := by omega
  obtain ⟨z, hz⟩ : ∃ n, v / 16 % 4096 * 16 = n := ⟨_, rfl⟩
  have cz : bits BinOp.and IntKind.u32 (v : Int) 65520 = (z : Int) := and_in (a := 4) (k := 12) hv rfl (by decide) hz
  rw [ha, hb, hc, ho] at hd
  have hi : isOk v = (z == 0) := by rw [hi, Bool.eq_iff_iff, beq_iff_eq, beq_iff_eq]; omega
  have HD := Lib.hid hd
  have HI := Lib.hid hi
  clear hd hi h29 h28 ha hb ho hc hz hf
  go_enter Try.func33, Try.ntmps33
  go_wp2_with fail
  · have hz : (z == 0) = false := by simp_all
    refine bodyPost_ret (v := .tuple #[.agg #[.int .i64 0, .bool false, .bool false, .int .i64 0, .int .i64 0, .int .i64 0, .int .i64 0, .int .i32 0], .bool false]) (by simp [results, Try.results33, go_sem]) rfl ⟨?_, by (repeat with_reducible first | exact Only.refl _ _ | refine Only.alloc ?_ _ | refine Only.drewN ?_ _ | refine Only.setNew ?_ (by simp) _)⟩
    have hi := HI.out
    rw [hz] at hi
    rw [hi, decI_no hi]; rfl
  · have hz : (z == 0) = true := by simp_all
    refine bodyPost_ret (v := .tuple #[.agg #[.int .i64 0, .bool ((n29 : Int) == 1), .bool ((n28 : Int) == 1), .int .i64 a, .int .i64 b, .int .i64 c, .int .i64 o, .int .i32 0], .bool true]) (by simp [results, Try.results33, go_sem]) rfl ⟨?_, by (repeat with_reducible first | exact Only.refl _ _ | refine Only.alloc ?_ _ | refine Only.drewN ?_ _ | refine Only.setNew ?_ (by simp) _)⟩
    have hi := HI.out
    rw [hz] at hi
    rw [hi, decI_yes hi, HD.out]; rfl

set_option maxHeartbeats 800000 in
theorem decR_1 (v : Nat) (w : World) (hv : v < 4294967296) (hf : v / 1073741824 = 1) :
    Calls Try.prog 33 #[.int .u32 v] w fun e w' => e = .returned (.tuple #[(decI v).val, .bool (isOk v)]) ∧ Only Nil w w' := by
  obtain ⟨hd, hi⟩ := dec_1 (w := v) hf
  have c30 : (v : Int) / 1073741824 = 1 := by omega
  obtain ⟨n29, h29⟩ : ∃ n, v / 2 ^ 29 % 2 = n := ⟨_, rfl⟩
  have c29 : bits BinOp.and IntKind.u32 ((v : Int) / 536870912) 1 = (n29 : Int) := and_at (a := 29) (k := 1) hv rfl rfl (by decide) h29
  obtain ⟨n28, h28⟩ : ∃ n, v / 2 ^ 28 % 2 = n := ⟨_, rfl⟩
  have c28 : bits BinOp.and IntKind.u32 ((v : Int) / 268435456) 1 = (n28 : Int) := and_at (a := 28) (k := 1) hv rfl rfl (by decide) h28
  rw [← bit_of h28] at hd
  rw [← bit_of h29] at hd
  obtain ⟨a, ha⟩ : ∃ n, v / 16777216 % 16 = n := ⟨_, rfl⟩
  have c24 : bits BinOp.and IntKind.u32 ((v : Int) / 16777216) 15 = (a : Int) := and_at (a := 24) (k := 4) hv rfl rfl (by decide) ha
  have ba : a < 16 := by omega
  obtain ⟨b, hb⟩ : ∃ n, v / 1048576 % 16 = n := ⟨_, rfl⟩
  have c20 : bits BinOp.and IntKind.u32 ((v : Int) / 1048576) 15 = (b : Int) := and_at (a := 20) (k := 4) hv rfl rfl (by decide) hb
  have bb : b < 16 := by omega
  obtain ⟨o, ho⟩ : ∃ n, v / 65536 % 16 = n := ⟨_, rfl⟩
  have c16 : bits BinOp.and IntKind.u32 ((v : Int) / 65536) 15 = (o : Int) := and_at (a := 16) (k := 4) hv rfl rfl (by decide) ho
  have bo : o < 16 := by omega
  obtain ⟨c, hc⟩ : ∃ n, v % 16 = n := ⟨_, rfl⟩
  have c0 : bits BinOp.and IntKind.u32 (v : Int) 15 = (c : Int) := and_low (k := 4) hv rfl (by decide) hc
  have bc : c < 16 := by omega
  obtain ⟨z, hz⟩ : ∃ n, v % 65536 = n := ⟨_, rfl⟩
  have hz2 : z < 65536 := by omega
  have cz : bits BinOp.and IntKind.u32 (v : Int) 65535 = (z : Int) := and_low (k := 16) hv rfl (by decide) hz
  rw [ha, hb, hz, ho] at hd
  have HD := Lib.hid hd
  have HI := Lib.hid hi
  clear hd hi h29 h28 ha hb ho hc hz hf
  go_enter Try.func33, Try.ntmps33
  go_wp2_with fail
  refine bodyPost_ret (v := .tuple #[.agg #[.int .i64 1, .bool ((n29 : Int) == 1), .bool ((n28 : Int) == 1), .int .i64 a, .int .i64 b, .int .i64 0, .int .i64 o, .int .i32 z], .bool true]) (by simp [results, Try.results33, go_sem]) rfl ⟨?_, by (repeat with_reducible first | exact Only.refl _ _ | refine Only.alloc ?_ _ | refine Only.drewN ?_ _ | refine Only.setNew ?_ (by simp) _)⟩
  have hi := HI.out
  rw [hi, decI_yes hi, HD.out]; rfl

set_option maxHeartbeats 800000 in
theorem decR_2 (v : Nat) (w : World) (hv : v < 4294967296) (hf : v / 1073741824 = 2) :
    Calls Try.prog 33 #[.int .u32 v] w fun e w' => e = .returned (.tuple #[(decI v).val, .bool (isOk v)]) ∧ Only Nil w w' := by
  obtain ⟨hd, hi⟩ := dec_2 (w := v) hf
  have c30 : (v : Int) / 1073741824 = 2 := by omega
  obtain ⟨n29, h29⟩ : ∃ n, v / 2 ^ 29 % 2 = n := ⟨_, rfl⟩
  have c29 : bits BinOp.and IntKind.u32 ((v : Int) / 536870912) 1 = (n29 : Int) := and_at (a := 29) (k := 1) hv rfl rfl (by decide) h29
  obtain ⟨n28, h28⟩ : ∃ n, v / 2 ^ 28 % 2 = n := ⟨_, rfl⟩
  have c28 : bits BinOp.and IntKind.u32 ((v : Int) / 268435456) 1 = (n28 : Int) := and_at (a := 28) (k := 1) hv rfl rfl (by decide) h28
  rw [← bit_of h28] at hd
  rw [← bit_of h29] at hd
  obtain ⟨a, ha⟩ : ∃ n, v / 16777216 % 16 = n := ⟨_, rfl⟩
  have c24 : bits BinOp.and IntKind.u32 ((v : Int) / 16777216) 15 = (a : Int) := and_at (a := 24) (k := 4) hv rfl rfl (by decide) ha
  have ba : a < 16 := by omega
  obtain ⟨b, hb⟩ : ∃ n, v / 1048576 % 16 = n := ⟨_, rfl⟩
  have c20 : bits BinOp.and IntKind.u32 ((v : Int) / 1048576) 15 = (b : Int) := and_at (a := 20) (k := 4) hv rfl rfl (by decide) hb
  have bb : b < 16 := by omega
  obtain ⟨o, ho⟩ : ∃ n, v / 65536 % 16 = n := ⟨_, rfl⟩
  have c16 : bits BinOp.and IntKind.u32 ((v : Int) / 65536) 15 = (o : Int) := and_at (a := 16) (k := 4) hv rfl rfl (by decide) ho
  have bo : o < 16 := by omega
  obtain ⟨c, hc⟩ : ∃ n, v % 16 = n := ⟨_, rfl⟩
  have c0 : bits BinOp.and IntKind.u32 (v : Int) 15 = (c : Int) := and_low (k := 4) hv rfl (by decide) hc
  have bc : c < 16 := by omega
  obtain ⟨z, hz⟩ : ∃ n, sx20 v = n := ⟨_, rfl⟩
  obtain ⟨y, hy⟩ : ∃ n, v % 1048576 = n := ⟨_, rfl⟩
  have cy : bits BinOp.and IntKind.u32 (v : Int) 1048575 = (y : Int) := and_low (k := 20) hv rfl (by decide) hy
  have cz := fun w => signed20r y w (by omega)
  rw [← hy, sx20_mod, hz, hy] at cz
  rw [ha, hb, hz] at hd
  have HD := Lib.hid hd
  have HI := Lib.hid hi
  clear hd hi h29 h28 ha hb ho hc hz hy hf
  go_enter Try.func33, Try.ntmps33
  go_wp2_with fail
  refine (cz _).mono ?_
  rintro e w1 ⟨rfl, rfl⟩
  go_wp2_with fail
  refine bodyPost_ret (v := .tuple #[.agg #[.int .i64 2, .bool ((n29 : Int) == 1), .bool ((n28 : Int) == 1), .int .i64 a, .int .i64 b, .int .i64 0, .int .i64 0, .int .i32 z], .bool true]) (by simp [results, Try.results33, go_sem]) rfl ⟨?_, by (repeat with_reducible first | exact Only.refl _ _ | refine Only.alloc ?_ _ | refine Only.drewN ?_ _ | refine Only.setNew ?_ (by simp) _)⟩
  have hi := HI.out
  rw [hi, decI_yes hi, HD.out]; rfl

set_option maxHeartbeats 800000 in
theorem decR_3 (v : Nat) (w : World) (hv : v < 4294967296) (hf : 3 ≤ v / 1073741824) (hu : bit v 29 = true) :
    Calls Try.prog 33 #[.int .u32 v] w fun e w' => e = .returned (.tuple #[(decI v).val, .bool (isOk v)]) ∧ Only Nil w w' := by
  obtain ⟨hd, hi⟩ := dec_3 (w := v) hf hu
  have c30 : (v : Int) / 1073741824 = 3 := by omega
  obtain ⟨n29, h29⟩ : ∃ n, v / 2 ^ 29 % 2 = n := ⟨_, rfl⟩
  have c29 : bits BinOp.and IntKind.u32 ((v : Int) / 536870912) 1 = (n29 : Int) := and_at (a := 29) (k := 1) hv rfl rfl (by decide) h29
  obtain ⟨n28, h28⟩ : ∃ n, v / 2 ^ 28 % 2 = n := ⟨_, rfl⟩
  have c28 : bits BinOp.and IntKind.u32 ((v : Int) / 268435456) 1 = (n28 : Int) := and_at (a := 28) (k := 1) hv rfl rfl (by decide) h28
  rw [← bit_of h28] at hd
  obtain ⟨a, ha⟩ : ∃ n, v / 16777216 % 16 = n := ⟨_, rfl⟩
  have c24 : bits BinOp.and IntKind.u32 ((v : Int) / 16777216) 15 = (a : Int) := and_at (a := 24) (k := 4) hv rfl rfl (by decide) ha
  have ba : a < 16 := by omega
  obtain ⟨b, hb⟩ : ∃ n, v / 1048576 % 16 = n := ⟨_, rfl⟩
  have c20 : bits BinOp.and IntKind.u32 ((v : Int) / 1048576) 15 = (b : Int) := and_at (a := 20) (k := 4) hv rfl rfl (by decide) hb
  have bb : b < 16 := by omega
  obtain ⟨o, ho⟩ : ∃ n, v / 65536 % 16 = n := ⟨_, rfl⟩
  have c16 : bits BinOp.and IntKind.u32 ((v : Int) / 65536) 15 = (o : Int) := and_at (a := 16) (k := 4) hv rfl rfl (by decide) ho
  have bo : o < 16 := by omega
  obtain ⟨c, hc⟩ : ∃ n, v % 16 = n := ⟨_, rfl⟩
  have c0 : bits BinOp.and IntKind.u32 (v : Int) 15 = (c : Int) := and_low (k := 4) hv rfl (by decide) hc
  have bc : c < 16 := by omega
  obtain ⟨z, hz⟩ : ∃ n, sx24 v = n := ⟨_, rfl⟩
  obtain ⟨y, hy⟩ : ∃ n, v % 16777216 = n := ⟨_, rfl⟩
  have cy : bits BinOp.and IntKind.u32 (v : Int) 16777215 = (y : Int) := and_low (k := 24) hv rfl (by decide) hy
  have cz := fun w => signed24r y w (by omega)
  rw [← hy, sx24_mod, hz, hy] at cz
  rw [ha, hz] at hd
  have h1 := bit_of h29
  rw [hu, beq_iff_eq] at h1
  have h1 : n29 = 1 := by omega
  subst h1
  have HD := Lib.hid hd
  have HI := Lib.hid hi
  clear hd hi h29 h28 ha hb ho hc hz hy hu hf
  go_enter Try.func33, Try.ntmps33
  go_wp2_with fail
  refine (cz _).mono ?_
  rintro e w1 ⟨rfl, rfl⟩
  go_wp2_with fail
  refine bodyPost_ret (v := .tuple #[.agg #[.int .i64 3, .bool true, .bool ((n28 : Int) == 1), .int .i64 a, .int .i64 0, .int .i64 0, .int .i64 0, .int .i32 z], .bool true]) (by simp [results, Try.results33, go_sem]) rfl ⟨?_, by (repeat with_reducible first | exact Only.refl _ _ | refine Only.alloc ?_ _ | refine Only.drewN ?_ _ | refine Only.setNew ?_ (by simp) _)⟩
  have hi := HI.out
  rw [hi, decI_yes hi, HD.out]; rfl

set_option maxHeartbeats 800000 in
theorem decR_4 (v : Nat) (w : World) (hv : v < 4294967296) (hf : 3 ≤ v / 1073741824) (hu : bit v 29 = false) :
    Calls Try.prog 33 #[.int .u32 v] w fun e w' => e = .returned (.tuple #[(decI v).val, .bool (isOk v)]) ∧ Only Nil w w' := by
  obtain ⟨hd, hi⟩ := dec_4 (w := v) hf hu
  have c30 : (v : Int) / 1073741824 = 3 := by omega
  obtain ⟨n29, h29⟩ : ∃ n, v / 2 ^ 29 % 2 = n := ⟨_, rfl⟩
  have c29 : bits BinOp.and IntKind.u32 ((v : Int) / 536870912) 1 = (n29 : Int) := and_at (a := 29) (k := 1) hv rfl rfl (by decide) h29
  obtain ⟨n28, h28⟩ : ∃ n, v / 2 ^ 28 % 2 = n := ⟨_, rfl⟩
  have c28 : bits BinOp.and IntKind.u32 ((v : Int) / 268435456) 1 = (n28 : Int) := and_at (a := 28) (k := 1) hv rfl rfl (by decide) h28
  rw [← bit_of h28] at hd
  obtain ⟨a, ha⟩ : ∃ n, v / 16777216 % 16 = n := ⟨_, rfl⟩
  have c24 : bits BinOp.and IntKind.u32 ((v : Int) / 16777216) 15 = (a : Int) := and_at (a := 24) (k := 4) hv rfl rfl (by decide) ha
  have ba : a < 16 := by omega
  obtain ⟨b, hb⟩ : ∃ n, v / 1048576 % 16 = n := ⟨_, rfl⟩
  have c20 : bits BinOp.and IntKind.u32 ((v : Int) / 1048576) 15 = (b : Int) := and_at (a := 20) (k := 4) hv rfl rfl (by decide) hb
  have bb : b < 16 := by omega
  obtain ⟨o, ho⟩ : ∃ n, v / 65536 % 16 = n := ⟨_, rfl⟩
  have c16 : bits BinOp.and IntKind.u32 ((v : Int) / 65536) 15 = (o : Int) := and_at (a := 16) (k := 4) hv rfl rfl (by decide) ho
  have bo : o < 16 := by omega
  obtain ⟨c, hc⟩ : ∃ n, v % 16 = n := ⟨_, rfl⟩
  have c0 : bits BinOp.and IntKind.u32 (v : Int) 15 = (c : Int) := and_low (k := 4) hv rfl (by decide) hc
  have bc : c < 16 := by omega
  obtain ⟨z, hz⟩ : ∃ n, v / 16 % 16 = n := ⟨_, rfl⟩
  have hz2 : z < 16 := by omega
  have cz : bits BinOp.and IntKind.u32 ((v : Int) / 16) 15 = (z : Int) := and_at (a := 4) (k := 4) hv rfl rfl (by decide) hz
  obtain ⟨y, hy⟩ : ∃ n, v / 256 % 65536 * 256 = n := ⟨_, rfl⟩
  have cy : bits BinOp.and IntKind.u32 (v : Int) 16776960 = (y : Int) := and_in (a := 8) (k := 16) hv rfl (by decide) hy
  rw [ha, hc, hz] at hd
  have hi : isOk v = (y == 0) := by rw [hi, Bool.eq_iff_iff, beq_iff_eq, beq_iff_eq]; omega
  have h1 := bit_of h29
  rw [hu, beq_eq_false_iff_ne] at h1
  have h1 : n29 = 0 := by omega
  subst h1
  have HD := Lib.hid hd
  have HI := Lib.hid hi
  clear hd hi h29 h28 ha hb ho hc hz hy hu hf
  go_enter Try.func33, Try.ntmps33
  go_wp2_with fail
  · have hz : (y == 0) = false := by simp_all
    refine bodyPost_ret (v := .tuple #[.agg #[.int .i64 0, .bool false, .bool false, .int .i64 0, .int .i64 0, .int .i64 0, .int .i64 0, .int .i32 0], .bool false]) (by simp [results, Try.results33, go_sem]) rfl ⟨?_, by (repeat with_reducible first | exact Only.refl _ _ | refine Only.alloc ?_ _ | refine Only.drewN ?_ _ | refine Only.setNew ?_ (by simp) _)⟩
    have hi := HI.out
    rw [hz] at hi
    rw [hi, decI_no hi]; rfl
  · have hz : (y == 0) = true := by simp_all
    refine bodyPost_ret (v := .tuple #[.agg #[.int .i64 3, .bool false, .bool ((n28 : Int) == 1), .int .i64 a, .int .i64 0, .int .i64 c, .int .i64 0, .int .i32 z], .bool true]) (by simp [results, Try.results33, go_sem]) rfl ⟨?_, by (repeat with_reducible first | exact Only.refl _ _ | refine Only.alloc ?_ _ | refine Only.drewN ?_ _ | refine Only.setNew ?_ (by simp) _)⟩
    have hi := HI.out
    rw [hz] at hi
    rw [hi, decI_yes hi, HD.out]; rfl

/-- The document's Decode. -/
theorem decR_any (v : Nat) (w : World) (hv : v < 4294967296) :
    Calls Try.prog 33 #[.int .u32 v] w fun e w' => e = .returned (.tuple #[(decI v).val, .bool (isOk v)]) ∧ Only Nil w w' := by
  by_cases h0 : v / 1073741824 = 0
  · exact decR_0 v w hv h0
  by_cases h1 : v / 1073741824 = 1
  · exact decR_1 v w hv h1
  by_cases h2 : v / 1073741824 = 2
  · exact decR_2 v w hv h2
  cases hu : bit v 29
  · exact decR_4 v w hv (by omega) hu
  · exact decR_3 v w hv (by omega) hu
end Go.Proofs.Ythimhbfglgnohaa
