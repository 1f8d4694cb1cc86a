/- The program's Decode. -/
import Derived.Test.YthimhbfglgnohaaRDec
set_option linter.unusedSimpArgs false
set_option linter.unusedVariables false
namespace Go.Proofs.Ythimhbfglgnohaa
open Go.RowKit M

/-- 'number' at a place and a size, told by a letter. -/
theorem num_at {v p k P K n : Nat} (hv : v < 4294967296) (hp : p < 32) (hk : k < 32) (hP : 2 ^ p = P) (hK : 2 ^ k = K) (h : v / P % K = n) (w : World) :
    Calls Try.prog 54 #[.int .u32 v, .int .i64 p, .int .i64 k] w fun e w' => e = .returned (.int .i64 (n : Int)) ∧ ∃ q, w' = w.drewN q := by
  have h1 := number_any v p k w hv hp hk
  rw [hP, hK, h] at h1
  exact h1
theorem ret_ins {i j : Ins} {x y : Bool} (h : i = j) (k : x = y) : Ending.returned (.tuple #[i.val, .bool x]) = .returned (.tuple #[j.val, .bool y]) := by rw [h, k]
theorem bit_of {v k n : Nat} (h : v / 2 ^ k % 2 = n) : (((n : Nat) : Int) == 1) = bit v k := by
  unfold bit; rw [h, Bool.eq_iff_iff, beq_iff_eq, beq_iff_eq]; omega
theorem decI_no {v : Nat} (h : isOk v = false) : decI v = Ins.zero := by unfold decI; rw [h]; rfl
theorem decI_yes {v : Nat} (h : isOk v = true) : decI v = dec v := by unfold decI; rw [h]; rfl

set_option maxHeartbeats 800000 in
theorem decI_0 (v : Nat) (w : World) (hv : v < 4294967296) (hf : v / 1073741824 = 0) :
    Calls Try.prog 41 #[.int .u32 v] w fun e w' => e = .returned (.tuple #[(decI v).val, .bool (isOk v)]) ∧ Only Nil w w' := by
  obtain ⟨hd, hi⟩ := dec_0 (w := v) hf
  have c30 := fun w => num_at (p := 30) (k := 2) (n := 0) hv (by decide) (by decide) rfl rfl (by omega) w
  obtain ⟨n29, h29⟩ : ∃ n, v / 2 ^ 29 % 2 = n := ⟨_, rfl⟩
  have c29 := fun w => num_at (p := 29) (k := 1) hv (by decide) (by decide) rfl rfl h29 w
  obtain ⟨n28, h28⟩ : ∃ n, v / 2 ^ 28 % 2 = n := ⟨_, rfl⟩
  have c28 := fun w => num_at (p := 28) (k := 1) hv (by decide) (by decide) rfl rfl h28 w
  rw [← bit_of h28] at hd
  rw [← bit_of h29] at hd
  obtain ⟨a, ha⟩ : ∃ n, v / 16777216 % 16 = n := ⟨_, rfl⟩
  have c24 := fun w => num_at (p := 24) (k := 4) hv (by decide) (by decide) rfl rfl ha w
  obtain ⟨b, hb⟩ : ∃ n, v / 1048576 % 16 = n := ⟨_, rfl⟩
  have c20 := fun w => num_at (p := 20) (k := 4) hv (by decide) (by decide) rfl rfl hb w
  obtain ⟨o, ho⟩ : ∃ n, v / 65536 % 16 = n := ⟨_, rfl⟩
  have c16 := fun w => num_at (p := 16) (k := 4) hv (by decide) (by decide) rfl rfl ho w
  obtain ⟨c, hc⟩ : ∃ n, v % 16 = n := ⟨_, rfl⟩
  have c0 := fun w => num_at (p := 0) (k := 4) (P := 1) (K := 16) (n := c) hv (by decide) (by decide) rfl rfl (by omega) w
  obtain ⟨z, hz⟩ : ∃ n, v / 16 % 4096 = n := ⟨_, rfl⟩
  have cz := fun w => num_at (p := 4) (k := 12) hv (by decide) (by decide) rfl rfl hz w
  rw [ha, hb, hc, ho] at hd
  rw [hz] at hi
  have HD := Lib.hid hd
  have HI := Lib.hid hi
  clear hd hi h29 h28 ha hb ho hc hz hf
  go_enter Try.func41, Try.ntmps41
  go_wp2_with fail
  refine (c30 _).mono ?_
  rintro e w1 ⟨rfl, q1, rfl⟩
  go_wp2_with fail
  refine (c29 _).mono ?_
  rintro e w1 ⟨rfl, q2, rfl⟩
  go_wp2_with fail
  refine (c28 _).mono ?_
  rintro e w1 ⟨rfl, q3, rfl⟩
  go_wp2_with fail
  refine (c24 _).mono ?_
  rintro e w1 ⟨rfl, q4, rfl⟩
  go_wp2_with fail
  refine (c20 _).mono ?_
  rintro e w1 ⟨rfl, q5, rfl⟩
  go_wp2_with fail
  refine (c16 _).mono ?_
  rintro e w1 ⟨rfl, q6, rfl⟩
  go_wp2_with fail
  refine (c0 _).mono ?_
  rintro e w1 ⟨rfl, q7, rfl⟩
  go_wp2_with fail
  refine (cz _).mono ?_
  rintro e w1 ⟨rfl, q8, rfl⟩
  go_wp2_with fail
  · have hz : (z == 0) = false := by simp_all
    refine bodyPost_ret (v := .tuple #[.agg #[.int .i64 0, .bool false, .bool false, .int .i64 0, .int .i64 0, .int .i64 0, .int .i64 0, .int .i32 0], .bool false]) (by simp [results, Try.results41, go_sem]) rfl ⟨?_, by (repeat with_reducible first | exact Only.refl _ _ | refine Only.alloc ?_ _ | refine Only.drewN ?_ _ | refine Only.setNew ?_ (by simp) _)⟩
    have hi := HI.out
    rw [hz] at hi
    rw [hi, decI_no hi]; rfl
  · have hz : (z == 0) = true := by simp_all
    refine bodyPost_ret (v := .tuple #[.agg #[.int .i64 0, .bool ((n29 : Int) == 1), .bool ((n28 : Int) == 1), .int .i64 a, .int .i64 b, .int .i64 c, .int .i64 o, .int .i32 0], .bool true]) (by simp [results, Try.results41, go_sem]) rfl ⟨?_, by (repeat with_reducible first | exact Only.refl _ _ | refine Only.alloc ?_ _ | refine Only.drewN ?_ _ | refine Only.setNew ?_ (by simp) _)⟩
    have hi := HI.out
    rw [hz] at hi
    rw [hi, decI_yes hi, HD.out]; rfl

set_option maxHeartbeats 800000 in
theorem decI_1 (v : Nat) (w : World) (hv : v < 4294967296) (hf : v / 1073741824 = 1) :
    Calls Try.prog 41 #[.int .u32 v] w fun e w' => e = .returned (.tuple #[(decI v).val, .bool (isOk v)]) ∧ Only Nil w w' := by
  obtain ⟨hd, hi⟩ := dec_1 (w := v) hf
  have c30 := fun w => num_at (p := 30) (k := 2) (n := 1) hv (by decide) (by decide) rfl rfl (by omega) w
  obtain ⟨n29, h29⟩ : ∃ n, v / 2 ^ 29 % 2 = n := ⟨_, rfl⟩
  have c29 := fun w => num_at (p := 29) (k := 1) hv (by decide) (by decide) rfl rfl h29 w
  obtain ⟨n28, h28⟩ : ∃ n, v / 2 ^ 28 % 2 = n := ⟨_, rfl⟩
  have c28 := fun w => num_at (p := 28) (k := 1) hv (by decide) (by decide) rfl rfl h28 w
  rw [← bit_of h28] at hd
  rw [← bit_of h29] at hd
  obtain ⟨a, ha⟩ : ∃ n, v / 16777216 % 16 = n := ⟨_, rfl⟩
  have c24 := fun w => num_at (p := 24) (k := 4) hv (by decide) (by decide) rfl rfl ha w
  obtain ⟨b, hb⟩ : ∃ n, v / 1048576 % 16 = n := ⟨_, rfl⟩
  have c20 := fun w => num_at (p := 20) (k := 4) hv (by decide) (by decide) rfl rfl hb w
  obtain ⟨o, ho⟩ : ∃ n, v / 65536 % 16 = n := ⟨_, rfl⟩
  have c16 := fun w => num_at (p := 16) (k := 4) hv (by decide) (by decide) rfl rfl ho w
  obtain ⟨c, hc⟩ : ∃ n, v % 16 = n := ⟨_, rfl⟩
  have c0 := fun w => num_at (p := 0) (k := 4) (P := 1) (K := 16) (n := c) hv (by decide) (by decide) rfl rfl (by omega) w
  obtain ⟨z, hz⟩ : ∃ n, v % 65536 = n := ⟨_, rfl⟩
  have hz2 : z < 65536 := by omega
  have cz := fun w => num_at (p := 0) (k := 16) (P := 1) (K := 65536) (n := z) hv (by decide) (by decide) rfl rfl (by omega) w
  rw [ha, hb, hz, ho] at hd
  have HD := Lib.hid hd
  have HI := Lib.hid hi
  clear hd hi h29 h28 ha hb ho hc hz hf
  go_enter Try.func41, Try.ntmps41
  go_wp2_with fail
  refine (c30 _).mono ?_
  rintro e w1 ⟨rfl, q1, rfl⟩
  go_wp2_with fail
  refine (c29 _).mono ?_
  rintro e w1 ⟨rfl, q2, rfl⟩
  go_wp2_with fail
  refine (c28 _).mono ?_
  rintro e w1 ⟨rfl, q3, rfl⟩
  go_wp2_with fail
  refine (c24 _).mono ?_
  rintro e w1 ⟨rfl, q4, rfl⟩
  go_wp2_with fail
  refine (c20 _).mono ?_
  rintro e w1 ⟨rfl, q5, rfl⟩
  go_wp2_with fail
  refine (c16 _).mono ?_
  rintro e w1 ⟨rfl, q6, rfl⟩
  go_wp2_with fail
  refine (c0 _).mono ?_
  rintro e w1 ⟨rfl, q7, rfl⟩
  go_wp2_with fail
  refine (cz _).mono ?_
  rintro e w1 ⟨rfl, q8, rfl⟩
  go_wp2_with fail
  refine bodyPost_ret (v := .tuple #[.agg #[.int .i64 1, .bool ((n29 : Int) == 1), .bool ((n28 : Int) == 1), .int .i64 a, .int .i64 b, .int .i64 0, .int .i64 o, .int .i32 z], .bool true]) (by simp [results, Try.results41, go_sem]) rfl ⟨?_, by (repeat with_reducible first | exact Only.refl _ _ | refine Only.alloc ?_ _ | refine Only.drewN ?_ _ | refine Only.setNew ?_ (by simp) _)⟩
  have hi := HI.out
  rw [hi, decI_yes hi, HD.out]; rfl

set_option maxHeartbeats 800000 in
theorem decI_2 (v : Nat) (w : World) (hv : v < 4294967296) (hf : v / 1073741824 = 2) :
    Calls Try.prog 41 #[.int .u32 v] w fun e w' => e = .returned (.tuple #[(decI v).val, .bool (isOk v)]) ∧ Only Nil w w' := by
  obtain ⟨hd, hi⟩ := dec_2 (w := v) hf
  have c30 := fun w => num_at (p := 30) (k := 2) (n := 2) hv (by decide) (by decide) rfl rfl (by omega) w
  obtain ⟨n29, h29⟩ : ∃ n, v / 2 ^ 29 % 2 = n := ⟨_, rfl⟩
  have c29 := fun w => num_at (p := 29) (k := 1) hv (by decide) (by decide) rfl rfl h29 w
  obtain ⟨n28, h28⟩ : ∃ n, v / 2 ^ 28 % 2 = n := ⟨_, rfl⟩
  have c28 := fun w => num_at (p := 28) (k := 1) hv (by decide) (by decide) rfl rfl h28 w
  rw [← bit_of h28] at hd
  rw [← bit_of h29] at hd
  obtain ⟨a, ha⟩ : ∃ n, v / 16777216 % 16 = n := ⟨_, rfl⟩
  have c24 := fun w => num_at (p := 24) (k := 4) hv (by decide) (by decide) rfl rfl ha w
  obtain ⟨b, hb⟩ : ∃ n, v / 1048576 % 16 = n := ⟨_, rfl⟩
  have c20 := fun w => num_at (p := 20) (k := 4) hv (by decide) (by decide) rfl rfl hb w
  obtain ⟨o, ho⟩ : ∃ n, v / 65536 % 16 = n := ⟨_, rfl⟩
  have c16 := fun w => num_at (p := 16) (k := 4) hv (by decide) (by decide) rfl rfl ho w
  obtain ⟨c, hc⟩ : ∃ n, v % 16 = n := ⟨_, rfl⟩
  have c0 := fun w => num_at (p := 0) (k := 4) (P := 1) (K := 16) (n := c) hv (by decide) (by decide) rfl rfl (by omega) w
  obtain ⟨z, hz⟩ : ∃ n, sx20 v = n := ⟨_, rfl⟩
  have cz := fun w => signed20 v w hv
  rw [hz] at cz
  rw [ha, hb, hz] at hd
  have HD := Lib.hid hd
  have HI := Lib.hid hi
  clear hd hi h29 h28 ha hb ho hc hz hf
  go_enter Try.func41, Try.ntmps41
  go_wp2_with fail
  refine (c30 _).mono ?_
  rintro e w1 ⟨rfl, q1, rfl⟩
  go_wp2_with fail
  refine (c29 _).mono ?_
  rintro e w1 ⟨rfl, q2, rfl⟩
  go_wp2_with fail
  refine (c28 _).mono ?_
  rintro e w1 ⟨rfl, q3, rfl⟩
  go_wp2_with fail
  refine (c24 _).mono ?_
  rintro e w1 ⟨rfl, q4, rfl⟩
  go_wp2_with fail
  refine (c20 _).mono ?_
  rintro e w1 ⟨rfl, q5, rfl⟩
  go_wp2_with fail
  refine (c16 _).mono ?_
  rintro e w1 ⟨rfl, q6, rfl⟩
  go_wp2_with fail
  refine (c0 _).mono ?_
  rintro e w1 ⟨rfl, q7, rfl⟩
  go_wp2_with fail
  refine (cz _).mono ?_
  rintro e w1 ⟨rfl, rfl⟩
  go_wp2_with fail
  refine bodyPost_ret (v := .tuple #[.agg #[.int .i64 2, .bool ((n29 : Int) == 1), .bool ((n28 : Int) == 1), .int .i64 a, .int .i64 b, .int .i64 0, .int .i64 0, .int .i32 z], .bool true]) (by simp [results, Try.results41, go_sem]) rfl ⟨?_, by (repeat with_reducible first | exact Only.refl _ _ | refine Only.alloc ?_ _ | refine Only.drewN ?_ _ | refine Only.setNew ?_ (by simp) _)⟩
  have hi := HI.out
  rw [hi, decI_yes hi, HD.out]; rfl

set_option maxHeartbeats 800000 in
theorem decI_3 (v : Nat) (w : World) (hv : v < 4294967296) (hf : 3 ≤ v / 1073741824) (hu : bit v 29 = true) :
    Calls Try.prog 41 #[.int .u32 v] w fun e w' => e = .returned (.tuple #[(decI v).val, .bool (isOk v)]) ∧ Only Nil w w' := by
  obtain ⟨hd, hi⟩ := dec_3 (w := v) hf hu
  have c30 := fun w => num_at (p := 30) (k := 2) (n := 3) hv (by decide) (by decide) rfl rfl (by omega) w
  obtain ⟨n29, h29⟩ : ∃ n, v / 2 ^ 29 % 2 = n := ⟨_, rfl⟩
  have c29 := fun w => num_at (p := 29) (k := 1) hv (by decide) (by decide) rfl rfl h29 w
  obtain ⟨n28, h28⟩ : ∃ n, v / 2 ^ 28 % 2 = n := ⟨_, rfl⟩
  have c28 := fun w => num_at (p := 28) (k := 1) hv (by decide) (by decide) rfl rfl h28 w
  rw [← bit_of h28] at hd
  obtain ⟨a, ha⟩ : ∃ n, v / 16777216 % 16 = n := ⟨_, rfl⟩
  have c24 := fun w => num_at (p := 24) (k := 4) hv (by decide) (by decide) rfl rfl ha w
  obtain ⟨b, hb⟩ : ∃ n, v / 1048576 % 16 = n := ⟨_, rfl⟩
  have c20 := fun w => num_at (p := 20) (k := 4) hv (by decide) (by decide) rfl rfl hb w
  obtain ⟨o, ho⟩ : ∃ n, v / 65536 % 16 = n := ⟨_, rfl⟩
  have c16 := fun w => num_at (p := 16) (k := 4) hv (by decide) (by decide) rfl rfl ho w
  obtain ⟨c, hc⟩ : ∃ n, v % 16 = n := ⟨_, rfl⟩
  have c0 := fun w => num_at (p := 0) (k := 4) (P := 1) (K := 16) (n := c) hv (by decide) (by decide) rfl rfl (by omega) w
  obtain ⟨z, hz⟩ : ∃ n, sx24 v = n := ⟨_, rfl⟩
  have cz := fun w => signed24 v w hv
  rw [hz] at cz
  rw [ha, hz] at hd
  have h1 := bit_of h29
  rw [hu, beq_iff_eq] at h1
  have h1 : n29 = 1 := by omega
  subst h1
  have HD := Lib.hid hd
  have HI := Lib.hid hi
  clear hd hi h29 h28 ha hb ho hc hz hu hf
  go_enter Try.func41, Try.ntmps41
  go_wp2_with fail
  refine (c30 _).mono ?_
  rintro e w1 ⟨rfl, q1, rfl⟩
  go_wp2_with fail
  refine (c29 _).mono ?_
  rintro e w1 ⟨rfl, q2, rfl⟩
  go_wp2_with fail
  refine (c28 _).mono ?_
  rintro e w1 ⟨rfl, q3, rfl⟩
  go_wp2_with fail
  refine (c24 _).mono ?_
  rintro e w1 ⟨rfl, q4, rfl⟩
  go_wp2_with fail
  refine (c20 _).mono ?_
  rintro e w1 ⟨rfl, q5, rfl⟩
  go_wp2_with fail
  refine (c16 _).mono ?_
  rintro e w1 ⟨rfl, q6, rfl⟩
  go_wp2_with fail
  refine (c0 _).mono ?_
  rintro e w1 ⟨rfl, q7, rfl⟩
  go_wp2_with fail
  refine (cz _).mono ?_
  rintro e w1 ⟨rfl, rfl⟩
  go_wp2_with fail
  refine bodyPost_ret (v := .tuple #[.agg #[.int .i64 3, .bool true, .bool ((n28 : Int) == 1), .int .i64 a, .int .i64 0, .int .i64 0, .int .i64 0, .int .i32 z], .bool true]) (by simp [results, Try.results41, go_sem]) rfl ⟨?_, by (repeat with_reducible first | exact Only.refl _ _ | refine Only.alloc ?_ _ | refine Only.drewN ?_ _ | refine Only.setNew ?_ (by simp) _)⟩
  have hi := HI.out
  rw [hi, decI_yes hi, HD.out]; rfl

set_option maxHeartbeats 800000 in
theorem decI_4 (v : Nat) (w : World) (hv : v < 4294967296) (hf : 3 ≤ v / 1073741824) (hu : bit v 29 = false) :
    Calls Try.prog 41 #[.int .u32 v] w fun e w' => e = .returned (.tuple #[(decI v).val, .bool (isOk v)]) ∧ Only Nil w w' := by
  obtain ⟨hd, hi⟩ := dec_4 (w := v) hf hu
  have c30 := fun w => num_at (p := 30) (k := 2) (n := 3) hv (by decide) (by decide) rfl rfl (by omega) w
  obtain ⟨n29, h29⟩ : ∃ n, v / 2 ^ 29 % 2 = n := ⟨_, rfl⟩
  have c29 := fun w => num_at (p := 29) (k := 1) hv (by decide) (by decide) rfl rfl h29 w
  obtain ⟨n28, h28⟩ : ∃ n, v / 2 ^ 28 % 2 = n := ⟨_, rfl⟩
  have c28 := fun w => num_at (p := 28) (k := 1) hv (by decide) (by decide) rfl rfl h28 w
  rw [← bit_of h28] at hd
  obtain ⟨a, ha⟩ : ∃ n, v / 16777216 % 16 = n := ⟨_, rfl⟩
  have c24 := fun w => num_at (p := 24) (k := 4) hv (by decide) (by decide) rfl rfl ha w
  obtain ⟨b, hb⟩ : ∃ n, v / 1048576 % 16 = n := ⟨_, rfl⟩
  have c20 := fun w => num_at (p := 20) (k := 4) hv (by decide) (by decide) rfl rfl hb w
  obtain ⟨o, ho⟩ : ∃ n, v / 65536 % 16 = n := ⟨_, rfl⟩
  have c16 := fun w => num_at (p := 16) (k := 4) hv (by decide) (by decide) rfl rfl ho w
  obtain ⟨c, hc⟩ : ∃ n, v % 16 = n := ⟨_, rfl⟩
  have c0 := fun w => num_at (p := 0) (k := 4) (P := 1) (K := 16) (n := c) hv (by decide) (by decide) rfl rfl (by omega) w
  obtain ⟨z, hz⟩ : ∃ n, v / 16 % 16 = n := ⟨_, rfl⟩
  have hz2 : z < 16 := by omega
  have cz := fun w => num_at (p := 4) (k := 4) hv (by decide) (by decide) rfl rfl hz w
  obtain ⟨y, hy⟩ : ∃ n, v / 256 % 65536 = n := ⟨_, rfl⟩
  have cy := fun w => num_at (p := 8) (k := 16) hv (by decide) (by decide) rfl rfl hy w
  rw [ha, hc, hz] at hd
  rw [hy] at hi
  have h1 := bit_of h29
  rw [hu, beq_eq_false_iff_ne] at h1
  have h1 : n29 = 0 := by omega
  subst h1
  have HD := Lib.hid hd
  have HI := Lib.hid hi
  clear hd hi h29 h28 ha hb ho hc hz hy hu hf
  go_enter Try.func41, Try.ntmps41
  go_wp2_with fail
  refine (c30 _).mono ?_
  rintro e w1 ⟨rfl, q1, rfl⟩
  go_wp2_with fail
  refine (c29 _).mono ?_
  rintro e w1 ⟨rfl, q2, rfl⟩
  go_wp2_with fail
  refine (c28 _).mono ?_
  rintro e w1 ⟨rfl, q3, rfl⟩
  go_wp2_with fail
  refine (c24 _).mono ?_
  rintro e w1 ⟨rfl, q4, rfl⟩
  go_wp2_with fail
  refine (c20 _).mono ?_
  rintro e w1 ⟨rfl, q5, rfl⟩
  go_wp2_with fail
  refine (c16 _).mono ?_
  rintro e w1 ⟨rfl, q6, rfl⟩
  go_wp2_with fail
  refine (c0 _).mono ?_
  rintro e w1 ⟨rfl, q7, rfl⟩
  go_wp2_with fail
  refine (cz _).mono ?_
  rintro e w1 ⟨rfl, q8, rfl⟩
  go_wp2_with fail
  refine (cy _).mono ?_
  rintro e w1 ⟨rfl, q9, rfl⟩
  go_wp2_with fail
  · have hz : (y == 0) = false := by simp_all
    refine bodyPost_ret (v := .tuple #[.agg #[.int .i64 0, .bool false, .bool false, .int .i64 0, .int .i64 0, .int .i64 0, .int .i64 0, .int .i32 0], .bool false]) (by simp [results, Try.results41, go_sem]) rfl ⟨?_, by (repeat with_reducible first | exact Only.refl _ _ | refine Only.alloc ?_ _ | refine Only.drewN ?_ _ | refine Only.setNew ?_ (by simp) _)⟩
    have hi := HI.out
    rw [hz] at hi
    rw [hi, decI_no hi]; rfl
  · have hz : (y == 0) = true := by simp_all
    refine bodyPost_ret (v := .tuple #[.agg #[.int .i64 3, .bool false, .bool ((n28 : Int) == 1), .int .i64 a, .int .i64 0, .int .i64 c, .int .i64 0, .int .i32 z], .bool true]) (by simp [results, Try.results41, go_sem]) rfl ⟨?_, by (repeat with_reducible first | exact Only.refl _ _ | refine Only.alloc ?_ _ | refine Only.drewN ?_ _ | refine Only.setNew ?_ (by simp) _)⟩
    have hi := HI.out
    rw [hz] at hi
    rw [hi, decI_yes hi, HD.out]; rfl

/-- The program's Decode. -/
theorem decI_any (v : Nat) (w : World) (hv : v < 4294967296) :
    Calls Try.prog 41 #[.int .u32 v] w fun e w' => e = .returned (.tuple #[(decI v).val, .bool (isOk v)]) ∧ Only Nil w w' := by
  by_cases h0 : v / 1073741824 = 0
  · exact decI_0 v w hv h0
  by_cases h1 : v / 1073741824 = 1
  · exact decI_1 v w hv h1
  by_cases h2 : v / 1073741824 = 2
  · exact decI_2 v w hv h2
  cases hu : bit v 29
  · exact decI_4 v w hv (by omega) hu
  · exact decI_3 v w hv (by omega) hu
end Go.Proofs.Ythimhbfglgnohaa
