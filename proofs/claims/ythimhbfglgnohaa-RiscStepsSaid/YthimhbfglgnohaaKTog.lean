/- An instruction of few numbers becomes a word. -/
import Derived.Test.YthimhbfglgnohaaREnc
import Derived.Test.YthimhbfglgnohaaMLaw
import Derived.WalkKit
import Derived.BigRegion
import Derived.RegionTactic
import Derived.Test.YthimhbfglgnohaaKEcho
set_option linter.unusedSimpArgs false
set_option linter.unusedVariables false
namespace Go.Proofs.Ythimhbfglgnohaa
open Go.RowKit M

theorem band_u8 (B N : Nat) (hB : B < 256) (hN : N < 256) : bits BinOp.and IntKind.u8 (B : Int) (N : Int) = ((B &&& N : Nat) : Int) := by
  have h : B &&& N < 2 ^ 8 := Nat.and_lt_two_pow _ hN
  show IntKind.u8.wrap ((BitVec.ofInt 8 (B : Int) &&& BitVec.ofInt 8 (N : Int)).toNat : Int) = _
  have e1 : BitVec.ofInt 8 (B : Int) = BitVec.ofNat 8 B := rfl
  have e2 : BitVec.ofInt 8 (N : Int) = BitVec.ofNat 8 N := rfl
  rw [e1, e2, BitVec.toNat_and, BitVec.toNat_ofNat, BitVec.toNat_ofNat, Nat.mod_eq_of_lt hB, Nat.mod_eq_of_lt hN, IntKind.wrap_u8]
  omega
theorem low_u8 (B k : Nat) (hB : B < 256) (hk : k ≤ 7) : ∃ x : Nat, bits BinOp.and IntKind.u8 (B : Int) ((2 ^ k - 1 : Nat) : Int) = (x : Int) ∧ x < 2 ^ k := by
  have hp : 2 ^ k ≤ 2 ^ 7 := Nat.pow_le_pow_right (by decide) hk
  have h1 : 1 ≤ 2 ^ k := Nat.one_le_two_pow
  refine ⟨B &&& (2 ^ k - 1), band_u8 B (2 ^ k - 1) hB (by omega), ?_⟩
  have := Nat.and_le_right (n := B) (m := 2 ^ k - 1)
  omega
theorem low_i16 (m : Int) (k : Nat) (hk : k ≤ 7) : ∃ x : Nat, bits BinOp.and IntKind.i16 m ((2 ^ k - 1 : Nat) : Int) = (x : Int) ∧ x < 2 ^ k := by
  have hp : 2 ^ k ≤ 2 ^ 7 := Nat.pow_le_pow_right (by decide) hk
  have h1 : 1 ≤ 2 ^ k := Nat.one_le_two_pow
  have e2 : BitVec.ofInt 16 ((2 ^ k - 1 : Nat) : Int) = BitVec.ofNat 16 (2 ^ k - 1) := rfl
  refine ⟨(BitVec.ofInt 16 m &&& BitVec.ofInt 16 ((2 ^ k - 1 : Nat) : Int)).toNat, ?_, ?_⟩
  · show IntKind.i16.wrap ((BitVec.ofInt 16 m &&& BitVec.ofInt 16 ((2 ^ k - 1 : Nat) : Int)).toNat : Int) = _
    have h3 : (BitVec.ofInt 16 m &&& BitVec.ofInt 16 ((2 ^ k - 1 : Nat) : Int)).toNat ≤ 2 ^ k - 1 := by
      rw [e2, BitVec.toNat_and, BitVec.toNat_ofNat, Nat.mod_eq_of_lt (by omega)]
      exact Nat.and_le_right
    exact IntWalk.i16_in _ (by omega)
  · rw [e2, BitVec.toNat_and, BitVec.toNat_ofNat, Nat.mod_eq_of_lt (by omega)]
    have := Nat.and_le_right (n := (BitVec.ofInt 16 m).toNat) (m := 2 ^ k - 1)
    omega

theorem w64n (x : Nat) (h : x < 256) : wrap64 (x : Int) = (x : Int) := by unfold wrap64; omega
theorem w32n (x : Int) (h : -1000000 ≤ x ∧ x ≤ 1000000) : wrap32 x = x := by unfold wrap32; omega
theorem good2 (u v : Bool) (a b : Nat) (m : Int) (ha : a ≤ 15) (hb : b ≤ 15) (h1 : -524288 ≤ m) (h2 : m ≤ 524287) : (Ins.mk 2 u v a b 0 0 m).Good := by
  unfold Ins.Good
  exact ⟨(by decide : (0 : Int) ≤ 2), (by decide : (2 : Int) ≤ 3), (by omega : (0 : Int) ≤ a), (by omega : (a : Int) ≤ 15), Or.inr (Or.inr (Or.inl ⟨rfl, (by omega : (0 : Int) ≤ b), (by omega : (b : Int) ≤ 15), rfl, rfl, h1, h2⟩))⟩
theorem good3 (v : Bool) (a c m : Nat) (ha : a ≤ 15) (hc : c ≤ 15) (hm : m ≤ 15) : (Ins.mk 3 false v a 0 c 0 m).Good := by
  unfold Ins.Good
  exact ⟨(by decide : (0 : Int) ≤ 3), (by decide : (3 : Int) ≤ 3), (by omega : (0 : Int) ≤ a), (by omega : (a : Int) ≤ 15), Or.inr (Or.inr (Or.inr (Or.inl ⟨rfl, rfl, rfl, rfl, (by omega : (0 : Int) ≤ c), (by omega : (c : Int) ≤ 15), (by omega : (0 : Int) ≤ m), (by omega : (m : Int) ≤ 15)⟩)))⟩

set_option maxRecDepth 20000 in
set_option maxHeartbeats 800000 in
theorem word_0 (F A B C O : Nat) (u v : Bool) (m : Int) (w : World) (hF : F < 256) (hA : A < 256) (hB : B < 256) (hC : C < 256) (hO : O < 256) (hm1 : -32768 ≤ m) (hm2 : m ≤ 32767) (h0 : bits BinOp.and IntKind.u8 (F : Int) 3 = 0) :
    Calls Try.prog 12 #[.agg #[.int .u8 F, .int .u8 A, .int .u8 B, .int .u8 C, .int .u8 O, .bool u, .bool v, .int .i16 m]] w fun e w' => ∃ i : Ins, i.Good ∧ e = .returned (.int .u32 (enc i : Nat)) ∧ Only Nil w w' := by
  obtain ⟨a, ea, la⟩ := low_u8 A 4 hA (by decide)
  rw [show ((2 ^ 4 - 1 : Nat) : Int) = 15 from rfl] at ea
  have WA := Lib.hid (w64n a (by omega))
  obtain ⟨b, eb, lb⟩ := low_u8 B 4 hB (by decide)
  rw [show ((2 ^ 4 - 1 : Nat) : Int) = 15 from rfl] at eb
  have WB := Lib.hid (w64n b (by omega))
  obtain ⟨c, ec, lc⟩ := low_u8 C 4 hC (by decide)
  rw [show ((2 ^ 4 - 1 : Nat) : Int) = 15 from rfl] at ec
  have WC := Lib.hid (w64n c (by omega))
  obtain ⟨o, ho⟩ : ∃ o, O % 12 = o := ⟨_, rfl⟩
  have eo : (O : Int) % 12 = (o : Int) := by omega
  have lo : o ≤ 15 := by omega
  have hG : (⟨0, u, v, a, b, c, o, 0⟩ : Ins).Good := good0 u v a b c o (by omega) (by omega) (by omega) lo
  have cE := fun w => encR_good (⟨0, u, v, a, b, c, o, 0⟩) w hG
  have HG := Lib.hid hG
  obtain ⟨x, hx⟩ : ∃ x, enc (⟨0, u, v, a, b, c, o, 0⟩) = x := ⟨_, rfl⟩
  rw [hx] at cE
  unfold Ins.val Ins.cells at cE
  simp only at cE
  have HX := Lib.hid hx
  clear hG hx hF hA hB hC hO la hm1 hm2 ho lb lc
  go_enter Try.func12, Try.ntmps12
  go_wp2_with fail
  go_region
  all_goals go_wp2_with fail
  rw [WA.out, WB.out, WC.out]
  with_reducible refine (cE _).mono ?_
  rintro e w1 ⟨rfl, ho1⟩
  clear cE
  go_wp2_with fail
  go_ret
  refine ⟨_, HG.out, by rw [HX.out]; rfl, ?_⟩
  refine Only.trans ?_ ho1 (fun _ _ h => h)
  repeat with_reducible first | exact Only.refl _ _ | refine Only.alloc ?_ _ | refine Only.drew ?_ | refine Only.setCell ?_ (fun h => absurd h (Nat.not_lt.2 (Nat.le_succ _))) _

set_option maxRecDepth 20000 in
set_option maxHeartbeats 800000 in
theorem word_1b (F A B C O : Nat) (u v : Bool) (m : Int) (w : World) (hF : F < 256) (hA : A < 256) (hB : B < 256) (hC : C < 256) (hO : O < 256) (hm1 : -32768 ≤ m) (hm2 : m ≤ 32767) (h0 : bits BinOp.and IntKind.u8 (F : Int) 3 = 1) (hm0 : m ≤ 0) :
    Calls Try.prog 12 #[.agg #[.int .u8 F, .int .u8 A, .int .u8 B, .int .u8 C, .int .u8 O, .bool u, .bool v, .int .i16 m]] w fun e w' => ∃ i : Ins, i.Good ∧ e = .returned (.int .u32 (enc i : Nat)) ∧ Only Nil w w' := by
  obtain ⟨a, ea, la⟩ := low_u8 A 4 hA (by decide)
  rw [show ((2 ^ 4 - 1 : Nat) : Int) = 15 from rfl] at ea
  have WA := Lib.hid (w64n a (by omega))
  obtain ⟨b, eb, lb⟩ := low_u8 B 4 hB (by decide)
  rw [show ((2 ^ 4 - 1 : Nat) : Int) = 15 from rfl] at eb
  have WB := Lib.hid (w64n b (by omega))
  obtain ⟨o, ho⟩ : ∃ o, O % 12 = o := ⟨_, rfl⟩
  have eo : (O : Int) % 12 = (o : Int) := by omega
  have lo : o ≤ 15 := by omega
  obtain ⟨z, hz⟩ : ∃ z : Nat, (m % 65536).toNat = z := ⟨_, rfl⟩
  have ez : m % 65536 = (z : Int) := by omega
  have WZ : Hid (wrap32 (z : Int) = (z : Int)) := Lib.hid (w32n _ (by omega))
  have lz : z ≤ 65535 := by omega
  have EZ : Hid (IntKind.u16.wrap m = (z : Int)) := Lib.hid (by rw [show IntKind.u16.wrap m = m % 65536 by simp [IntKind.wrap, IntKind.bits, IntKind.signed]]; exact ez)
  have hG : (⟨1, u, v, a, b, 0, o, z⟩ : Ins).Good := good1 u v a b o z (by omega) (by omega) lo lz
  have cE := fun w => encR_good (⟨1, u, v, a, b, 0, o, z⟩) w hG
  have HG := Lib.hid hG
  obtain ⟨x, hx⟩ : ∃ x, enc (⟨1, u, v, a, b, 0, o, z⟩) = x := ⟨_, rfl⟩
  rw [hx] at cE
  unfold Ins.val Ins.cells at cE
  simp only at cE
  have HX := Lib.hid hx
  clear hG hx hF hA hB hC hO la hm1 hm2 ho lb hz
  go_enter Try.func12, Try.ntmps12
  go_wp2_with fail
  go_region
  all_goals go_wp2_with fail
  rw [WA.out, WB.out]
  rw [EZ.out, WZ.out]
  with_reducible refine (cE _).mono ?_
  rintro e w1 ⟨rfl, ho1⟩
  clear cE
  go_wp2_with fail
  go_ret
  refine ⟨_, HG.out, by rw [HX.out]; rfl, ?_⟩
  refine Only.trans ?_ ho1 (fun _ _ h => h)
  repeat with_reducible first | exact Only.refl _ _ | refine Only.alloc ?_ _ | refine Only.drew ?_ | refine Only.setCell ?_ (fun h => absurd h (Nat.not_lt.2 (Nat.le_succ _))) _

set_option maxRecDepth 20000 in
set_option maxHeartbeats 800000 in
theorem word_1a (F A B C O : Nat) (u v : Bool) (m : Int) (w : World) (hF : F < 256) (hA : A < 256) (hB : B < 256) (hC : C < 256) (hO : O < 256) (hm1 : -32768 ≤ m) (hm2 : m ≤ 32767) (h0 : bits BinOp.and IntKind.u8 (F : Int) 3 = 1) (hm0 : 0 < m) :
    Calls Try.prog 12 #[.agg #[.int .u8 F, .int .u8 A, .int .u8 B, .int .u8 C, .int .u8 O, .bool u, .bool v, .int .i16 m]] w fun e w' => ∃ i : Ins, i.Good ∧ e = .returned (.int .u32 (enc i : Nat)) ∧ Only Nil w w' := by
  obtain ⟨a, ea, la⟩ := low_u8 A 4 hA (by decide)
  rw [show ((2 ^ 4 - 1 : Nat) : Int) = 15 from rfl] at ea
  have WA := Lib.hid (w64n a (by omega))
  obtain ⟨b, eb, lb⟩ := low_u8 B 4 hB (by decide)
  rw [show ((2 ^ 4 - 1 : Nat) : Int) = 15 from rfl] at eb
  have WB := Lib.hid (w64n b (by omega))
  obtain ⟨o, ho⟩ : ∃ o, O % 12 = o := ⟨_, rfl⟩
  have eo : (O : Int) % 12 = (o : Int) := by omega
  have lo : o ≤ 15 := by omega
  obtain ⟨z, hz⟩ : ∃ z : Nat, (m % 65536).toNat = z := ⟨_, rfl⟩
  have ez : m % 65536 = (z : Int) := by omega
  have WZ : Hid (wrap32 (z : Int) = (z : Int)) := Lib.hid (w32n _ (by omega))
  have lz : z ≤ 65535 := by omega
  obtain ⟨y, hy⟩ : ∃ y : Nat, (m % 64).toNat = y := ⟨_, rfl⟩
  have ey : m % 64 = (y : Int) := by omega
  have ey2 : m.tmod 64 = (y : Int) := by rw [Int.tmod_eq_emod_of_nonneg (by omega)]; exact ey
  have WY : Hid (wrap32 (y : Int) = (y : Int)) := Lib.hid (w32n _ (by omega))
  have ly : y ≤ 65535 := by omega
  have hG : (⟨1, u, v, a, b, 0, o, y⟩ : Ins).Good := good1 u v a b o y (by omega) (by omega) lo ly
  have cE := fun w => encR_good (⟨1, u, v, a, b, 0, o, y⟩) w hG
  have HG := Lib.hid hG
  obtain ⟨x, hx⟩ : ∃ x, enc (⟨1, u, v, a, b, 0, o, y⟩) = x := ⟨_, rfl⟩
  rw [hx] at cE
  unfold Ins.val Ins.cells at cE
  simp only at cE
  have HX := Lib.hid hx
  clear hG hx hF hA hB hC hO la hm1 hm2 ho lb hz hy
  go_enter Try.func12, Try.ntmps12
  go_wp2_with fail
  go_region
  all_goals go_wp2_with fail
  rw [WA.out, WB.out]
  try rw [WZ.out]
  try rw [WY.out]
  with_reducible refine (cE _).mono ?_
  rintro e w1 ⟨rfl, ho1⟩
  clear cE
  go_wp2_with fail
  go_ret
  refine ⟨_, HG.out, by rw [HX.out]; rfl, ?_⟩
  refine Only.trans ?_ ho1 (fun _ _ h => h)
  repeat with_reducible first | exact Only.refl _ _ | refine Only.alloc ?_ _ | refine Only.drew ?_ | refine Only.setCell ?_ (fun h => absurd h (Nat.not_lt.2 (Nat.le_succ _))) _

set_option maxRecDepth 20000 in
set_option maxHeartbeats 800000 in
theorem word_3a (F A B C O : Nat) (v : Bool) (m : Int) (w : World) (hF : F < 256) (hA : A < 256) (hB : B < 256) (hC : C < 256) (hO : O < 256) (hm1 : -32768 ≤ m) (hm2 : m ≤ 32767) (h0 : bits BinOp.and IntKind.u8 (F : Int) 3 = 3) :
    Calls Try.prog 12 #[.agg #[.int .u8 F, .int .u8 A, .int .u8 B, .int .u8 C, .int .u8 O, .bool false, .bool v, .int .i16 m]] w fun e w' => ∃ i : Ins, i.Good ∧ e = .returned (.int .u32 (enc i : Nat)) ∧ Only Nil w w' := by
  obtain ⟨a, ea, la⟩ := low_u8 A 4 hA (by decide)
  rw [show ((2 ^ 4 - 1 : Nat) : Int) = 15 from rfl] at ea
  have WA := Lib.hid (w64n a (by omega))
  obtain ⟨c, ec, lc⟩ := low_u8 C 4 hC (by decide)
  rw [show ((2 ^ 4 - 1 : Nat) : Int) = 15 from rfl] at ec
  have WC := Lib.hid (w64n c (by omega))
  obtain ⟨q, eq, lq⟩ := low_i16 m 4 (by decide)
  rw [show ((2 ^ 4 - 1 : Nat) : Int) = 15 from rfl] at eq
  have WQ : Hid (wrap32 (q : Int) = (q : Int)) := Lib.hid (w32n _ (by omega))
  have hG : (⟨3, false, v, a, 0, c, 0, q⟩ : Ins).Good := good3 v a c q (by omega) (by omega) (by omega)
  have cE := fun w => encR_good (⟨3, false, v, a, 0, c, 0, q⟩) w hG
  have HG := Lib.hid hG
  obtain ⟨x, hx⟩ : ∃ x, enc (⟨3, false, v, a, 0, c, 0, q⟩) = x := ⟨_, rfl⟩
  rw [hx] at cE
  unfold Ins.val Ins.cells at cE
  simp only at cE
  have HX := Lib.hid hx
  clear hG hx hF hA hB hC hO la hm1 hm2 lc lq
  go_enter Try.func12, Try.ntmps12
  go_wp2_with fail
  go_region
  all_goals go_wp2_with fail
  rw [WA.out, WC.out]
  try rw [WQ.out]
  with_reducible refine (cE _).mono ?_
  rintro e w1 ⟨rfl, ho1⟩
  clear cE
  go_wp2_with fail
  go_ret
  refine ⟨_, HG.out, by rw [HX.out]; rfl, ?_⟩
  refine Only.trans ?_ ho1 (fun _ _ h => h)
  repeat with_reducible first | exact Only.refl _ _ | refine Only.alloc ?_ _ | refine Only.drew ?_ | refine Only.setCell ?_ (fun h => absurd h (Nat.not_lt.2 (Nat.le_succ _))) _

set_option maxRecDepth 20000 in
set_option maxHeartbeats 800000 in
theorem word_3b (F A B C O : Nat) (v : Bool) (m : Int) (w : World) (hF : F < 256) (hA : A < 256) (hB : B < 256) (hC : C < 256) (hO : O < 256) (hm1 : -32768 ≤ m) (hm2 : m ≤ 32767) (h0 : bits BinOp.and IntKind.u8 (F : Int) 3 = 3) :
    Calls Try.prog 12 #[.agg #[.int .u8 F, .int .u8 A, .int .u8 B, .int .u8 C, .int .u8 O, .bool true, .bool v, .int .i16 m]] w fun e w' => ∃ i : Ins, i.Good ∧ e = .returned (.int .u32 (enc i : Nat)) ∧ Only Nil w w' := by
  obtain ⟨a, ea, la⟩ := low_u8 A 4 hA (by decide)
  rw [show ((2 ^ 4 - 1 : Nat) : Int) = 15 from rfl] at ea
  have WA := Lib.hid (w64n a (by omega))
  obtain ⟨y, hy⟩ : ∃ y : Int, m.tmod 6 = y := ⟨_, rfl⟩
  have ly : -6 ≤ y ∧ y ≤ 6 := by
    have h1 := Int.tmod_lt_of_pos m (show (0 : Int) < 6 by decide)
    have h2 := Int.lt_tmod_of_pos m (show (0 : Int) < 6 by decide)
    omega
  have WY : Hid (wrap32 y = y) := Lib.hid (w32n _ (by omega))
  have hG : (⟨3, true, v, a, 0, 0, 0, y⟩ : Ins).Good := goodB v a (by omega) y (by omega) (by omega)
  have cE := fun w => encR_good (⟨3, true, v, a, 0, 0, 0, y⟩) w hG
  have HG := Lib.hid hG
  obtain ⟨x, hx⟩ : ∃ x, enc (⟨3, true, v, a, 0, 0, 0, y⟩) = x := ⟨_, rfl⟩
  rw [hx] at cE
  unfold Ins.val Ins.cells at cE
  simp only at cE
  have HX := Lib.hid hx
  clear hG hx hF hA hB hC hO la hm1 hm2
  go_enter Try.func12, Try.ntmps12
  go_wp2_with fail
  rw [WA.out]
  try rw [WY.out]
  with_reducible refine (cE _).mono ?_
  rintro e w1 ⟨rfl, ho1⟩
  clear cE
  go_wp2_with fail
  go_ret
  refine ⟨_, HG.out, by rw [HX.out]; rfl, ?_⟩
  refine Only.trans ?_ ho1 (fun _ _ h => h)
  repeat with_reducible first | exact Only.refl _ _ | refine Only.alloc ?_ _ | refine Only.drew ?_ | refine Only.setCell ?_ (fun h => absurd h (Nat.not_lt.2 (Nat.le_succ _))) _

set_option maxRecDepth 20000 in
set_option maxHeartbeats 800000 in
theorem word_2fn (F A B C O : Nat) (u : Bool) (m : Int) (w : World) (hF : F < 256) (hA : A < 256) (hB : B < 256) (hC : C < 256) (hO : O < 256) (hm1 : -32768 ≤ m) (hm2 : m ≤ 32767) (h0 : bits BinOp.and IntKind.u8 (F : Int) 3 = 2) (h8 : O % 8 ≠ 1) :
    Calls Try.prog 12 #[.agg #[.int .u8 F, .int .u8 A, .int .u8 B, .int .u8 C, .int .u8 O, .bool u, .bool false, .int .i16 m]] w fun e w' => ∃ i : Ins, i.Good ∧ e = .returned (.int .u32 (enc i : Nat)) ∧ Only Nil w w' := by
  obtain ⟨a, ea, la⟩ := low_u8 A 4 hA (by decide)
  rw [show ((2 ^ 4 - 1 : Nat) : Int) = 15 from rfl] at ea
  have WA := Lib.hid (w64n a (by omega))
  obtain ⟨b, eb, lb⟩ := low_u8 B 2 hB (by decide)
  rw [show ((2 ^ 2 - 1 : Nat) : Int) = 3 from rfl] at eb
  have WB := Lib.hid (w64n b (by omega))
  obtain ⟨y, hy⟩ : ∃ y : Int, m.tmod 8 = y := ⟨_, rfl⟩
  have ly : -8 ≤ y ∧ y ≤ 8 := by
    have h1 := Int.tmod_lt_of_pos m (show (0 : Int) < 8 by decide)
    have h2 := Int.lt_tmod_of_pos m (show (0 : Int) < 8 by decide)
    omega
  have WY : Hid (wrap32 (wrap32 y * 4) = y * 4) := Lib.hid (by unfold wrap32; omega)
  have WY2 : Hid (wrap32 (y * 4) = y * 4) := Lib.hid (by unfold wrap32; omega)
  have e8 : ((O : Int) % 8 == 1) = false := by rw [beq_eq_false_iff_ne]; omega
  have hG : (⟨2, u, false, a, b, 0, 0, y * 4⟩ : Ins).Good := good2 u false a b _ (by omega) (by omega) (by omega) (by omega)
  have cE := fun w => encR_good (⟨2, u, false, a, b, 0, 0, y * 4⟩) w hG
  have HG := Lib.hid hG
  obtain ⟨x, hx⟩ : ∃ x, enc (⟨2, u, false, a, b, 0, 0, y * 4⟩) = x := ⟨_, rfl⟩
  rw [hx] at cE
  unfold Ins.val Ins.cells at cE
  simp only at cE
  have HX := Lib.hid hx
  clear hG hx hF hA hB hC hO la lb hm1 hm2
  go_enter Try.func12, Try.ntmps12
  go_wp2_with fail
  go_region
  all_goals go_wp2_with fail
  rw [WA.out]
  try rw [WB.out]
  try rw [WY.out]
  try rw [WY2.out]
  with_reducible refine (cE _).mono ?_
  rintro e w1 ⟨rfl, ho1⟩
  clear cE
  go_wp2_with fail
  go_ret
  refine ⟨_, HG.out, by rw [HX.out]; rfl, ?_⟩
  refine Only.trans ?_ ho1 (fun _ _ h => h)
  repeat with_reducible first | exact Only.refl _ _ | refine Only.alloc ?_ _ | refine Only.drew ?_ | refine Only.setCell ?_ (fun h => absurd h (Nat.not_lt.2 (Nat.le_succ _))) _

set_option maxRecDepth 20000 in
set_option maxHeartbeats 800000 in
theorem word_2fy (F A B C O : Nat) (u : Bool) (m : Int) (w : World) (hF : F < 256) (hA : A < 256) (hB : B < 256) (hC : C < 256) (hO : O < 256) (hm1 : -32768 ≤ m) (hm2 : m ≤ 32767) (h0 : bits BinOp.and IntKind.u8 (F : Int) 3 = 2) (h8 : O % 8 = 1) :
    Calls Try.prog 12 #[.agg #[.int .u8 F, .int .u8 A, .int .u8 B, .int .u8 C, .int .u8 O, .bool u, .bool false, .int .i16 m]] w fun e w' => ∃ i : Ins, i.Good ∧ e = .returned (.int .u32 (enc i : Nat)) ∧ Only Nil w w' := by
  obtain ⟨a, ea, la⟩ := low_u8 A 4 hA (by decide)
  rw [show ((2 ^ 4 - 1 : Nat) : Int) = 15 from rfl] at ea
  have WA := Lib.hid (w64n a (by omega))
  obtain ⟨b, eb, lb⟩ := low_u8 B 2 hB (by decide)
  rw [show ((2 ^ 2 - 1 : Nat) : Int) = 3 from rfl] at eb
  have WB := Lib.hid (w64n b (by omega))
  obtain ⟨y, hy⟩ : ∃ y : Int, m.tmod 8 = y := ⟨_, rfl⟩
  have ly : -8 ≤ y ∧ y ≤ 8 := by
    have h1 := Int.tmod_lt_of_pos m (show (0 : Int) < 8 by decide)
    have h2 := Int.lt_tmod_of_pos m (show (0 : Int) < 8 by decide)
    omega
  obtain ⟨q, eq, lq⟩ := low_i16 m 1 (by decide)
  rw [show ((2 ^ 1 - 1 : Nat) : Int) = 1 from rfl] at eq
  have WY : Hid (wrap32 (-64 + wrap32 (wrap32 (q : Int) * 4)) = -64 + (q : Int) * 4) := Lib.hid (by have lq2 : q < 2 := lq; rw [w32n (q : Int) (by omega), w32n ((q : Int) * 4) (by omega), w32n _ (by omega)])
  have WY2 : Hid (wrap32 (-64 + wrap32 ((q : Int) * 4)) = -64 + (q : Int) * 4) := Lib.hid (by have lq2 : q < 2 := lq; rw [w32n ((q : Int) * 4) (by omega), w32n _ (by omega)])
  have e8 : ((O : Int) % 8 == 1) = true := by rw [beq_iff_eq]; omega
  have hG : (⟨2, u, false, a, 0, 0, 0, -64 + (q : Int) * 4⟩ : Ins).Good := good2 u false a 0 _ (by omega) (by omega) (by omega) (by omega)
  have cE := fun w => encR_good (⟨2, u, false, a, 0, 0, 0, -64 + (q : Int) * 4⟩) w hG
  have HG := Lib.hid hG
  obtain ⟨x, hx⟩ : ∃ x, enc (⟨2, u, false, a, 0, 0, 0, -64 + (q : Int) * 4⟩) = x := ⟨_, rfl⟩
  rw [hx] at cE
  unfold Ins.val Ins.cells at cE
  simp only at cE
  have HX := Lib.hid hx
  clear hG hx hF hA hB hC hO la lb hm1 hm2 lq ly h8
  go_enter Try.func12, Try.ntmps12
  go_wp2_with fail
  go_region
  all_goals go_wp2_with fail
  go_region
  all_goals go_wp2_with fail
  rw [WA.out]
  try rw [WB.out]
  try rw [WY.out]
  try rw [WY2.out]
  with_reducible refine (cE _).mono ?_
  rintro e w1 ⟨rfl, ho1⟩
  clear cE
  go_wp2_with fail
  go_ret
  refine ⟨_, HG.out, by rw [HX.out]; rfl, ?_⟩
  refine Only.trans ?_ ho1 (fun _ _ h => h)
  repeat with_reducible first | exact Only.refl _ _ | refine Only.alloc ?_ _ | refine Only.drew ?_ | refine Only.setCell ?_ (fun h => absurd h (Nat.not_lt.2 (Nat.le_succ _))) _

set_option maxRecDepth 20000 in
set_option maxHeartbeats 800000 in
theorem word_2tn (F A B C O : Nat) (u : Bool) (m : Int) (w : World) (hF : F < 256) (hA : A < 256) (hB : B < 256) (hC : C < 256) (hO : O < 256) (hm1 : -32768 ≤ m) (hm2 : m ≤ 32767) (h0 : bits BinOp.and IntKind.u8 (F : Int) 3 = 2) (h8 : O % 8 ≠ 1) (hz : ((O : Int) == 0) = false) :
    Calls Try.prog 12 #[.agg #[.int .u8 F, .int .u8 A, .int .u8 B, .int .u8 C, .int .u8 O, .bool u, .bool true, .int .i16 m]] w fun e w' => ∃ i : Ins, i.Good ∧ e = .returned (.int .u32 (enc i : Nat)) ∧ Only Nil w w' := by
  obtain ⟨a, ea, la⟩ := low_u8 A 4 hA (by decide)
  rw [show ((2 ^ 4 - 1 : Nat) : Int) = 15 from rfl] at ea
  have WA := Lib.hid (w64n a (by omega))
  obtain ⟨b, eb, lb⟩ := low_u8 B 2 hB (by decide)
  rw [show ((2 ^ 2 - 1 : Nat) : Int) = 3 from rfl] at eb
  have WB := Lib.hid (w64n b (by omega))
  obtain ⟨y, hy⟩ : ∃ y : Int, m.tmod 8 = y := ⟨_, rfl⟩
  have ly : -8 ≤ y ∧ y ≤ 8 := by
    have h1 := Int.tmod_lt_of_pos m (show (0 : Int) < 8 by decide)
    have h2 := Int.lt_tmod_of_pos m (show (0 : Int) < 8 by decide)
    omega
  have WY : Hid (wrap32 (wrap32 y * 4) = y * 4) := Lib.hid (by unfold wrap32; omega)
  have WY2 : Hid (wrap32 (y * 4) = y * 4) := Lib.hid (by unfold wrap32; omega)
  have e8 : ((O : Int) % 8 == 1) = false := by rw [beq_eq_false_iff_ne]; omega
  have hG : (⟨2, u, false, a, b, 0, 0, y * 4⟩ : Ins).Good := good2 u false a b _ (by omega) (by omega) (by omega) (by omega)
  have cE := fun w => encR_good (⟨2, u, false, a, b, 0, 0, y * 4⟩) w hG
  have HG := Lib.hid hG
  obtain ⟨x, hx⟩ : ∃ x, enc (⟨2, u, false, a, b, 0, 0, y * 4⟩) = x := ⟨_, rfl⟩
  rw [hx] at cE
  unfold Ins.val Ins.cells at cE
  simp only at cE
  have HX := Lib.hid hx
  clear hG hx hF hA hB hC hO la lb hm1 hm2
  go_enter Try.func12, Try.ntmps12
  go_wp2_with fail
  go_region
  all_goals go_wp2_with fail
  rw [WA.out]
  try rw [WB.out]
  try rw [WY.out]
  try rw [WY2.out]
  with_reducible refine (cE _).mono ?_
  rintro e w1 ⟨rfl, ho1⟩
  clear cE
  go_wp2_with fail
  go_ret
  refine ⟨_, HG.out, by rw [HX.out]; rfl, ?_⟩
  refine Only.trans ?_ ho1 (fun _ _ h => h)
  repeat with_reducible first | exact Only.refl _ _ | refine Only.alloc ?_ _ | refine Only.drew ?_ | refine Only.setCell ?_ (fun h => absurd h (Nat.not_lt.2 (Nat.le_succ _))) _

set_option maxRecDepth 20000 in
set_option maxHeartbeats 800000 in
theorem word_2ty (F A B C O : Nat) (u : Bool) (m : Int) (w : World) (hF : F < 256) (hA : A < 256) (hB : B < 256) (hC : C < 256) (hO : O < 256) (hm1 : -32768 ≤ m) (hm2 : m ≤ 32767) (h0 : bits BinOp.and IntKind.u8 (F : Int) 3 = 2) (h8 : O % 8 = 1) (hz : ((O : Int) == 0) = false) :
    Calls Try.prog 12 #[.agg #[.int .u8 F, .int .u8 A, .int .u8 B, .int .u8 C, .int .u8 O, .bool u, .bool true, .int .i16 m]] w fun e w' => ∃ i : Ins, i.Good ∧ e = .returned (.int .u32 (enc i : Nat)) ∧ Only Nil w w' := by
  obtain ⟨a, ea, la⟩ := low_u8 A 4 hA (by decide)
  rw [show ((2 ^ 4 - 1 : Nat) : Int) = 15 from rfl] at ea
  have WA := Lib.hid (w64n a (by omega))
  obtain ⟨b, eb, lb⟩ := low_u8 B 2 hB (by decide)
  rw [show ((2 ^ 2 - 1 : Nat) : Int) = 3 from rfl] at eb
  have WB := Lib.hid (w64n b (by omega))
  obtain ⟨y, hy⟩ : ∃ y : Int, m.tmod 8 = y := ⟨_, rfl⟩
  have ly : -8 ≤ y ∧ y ≤ 8 := by
    have h1 := Int.tmod_lt_of_pos m (show (0 : Int) < 8 by decide)
    have h2 := Int.lt_tmod_of_pos m (show (0 : Int) < 8 by decide)
    omega
  obtain ⟨q, eq, lq⟩ := low_i16 m 1 (by decide)
  rw [show ((2 ^ 1 - 1 : Nat) : Int) = 1 from rfl] at eq
  have WY : Hid (wrap32 (-64 + wrap32 (wrap32 (q : Int) * 4)) = -64 + (q : Int) * 4) := Lib.hid (by have lq2 : q < 2 := lq; rw [w32n (q : Int) (by omega), w32n ((q : Int) * 4) (by omega), w32n _ (by omega)])
  have WY2 : Hid (wrap32 (-64 + wrap32 ((q : Int) * 4)) = -64 + (q : Int) * 4) := Lib.hid (by have lq2 : q < 2 := lq; rw [w32n ((q : Int) * 4) (by omega), w32n _ (by omega)])
  have e8 : ((O : Int) % 8 == 1) = true := by rw [beq_iff_eq]; omega
  have hG : (⟨2, u, false, a, 0, 0, 0, -64 + (q : Int) * 4⟩ : Ins).Good := good2 u false a 0 _ (by omega) (by omega) (by omega) (by omega)
  have cE := fun w => encR_good (⟨2, u, false, a, 0, 0, 0, -64 + (q : Int) * 4⟩) w hG
  have HG := Lib.hid hG
  obtain ⟨x, hx⟩ : ∃ x, enc (⟨2, u, false, a, 0, 0, 0, -64 + (q : Int) * 4⟩) = x := ⟨_, rfl⟩
  rw [hx] at cE
  unfold Ins.val Ins.cells at cE
  simp only at cE
  have HX := Lib.hid hx
  clear hG hx hF hA hB hC hO la lb hm1 hm2 lq ly h8
  go_enter Try.func12, Try.ntmps12
  go_wp2_with fail
  go_region
  all_goals go_wp2_with fail
  go_region
  all_goals go_wp2_with fail
  rw [WA.out]
  try rw [WB.out]
  try rw [WY.out]
  try rw [WY2.out]
  with_reducible refine (cE _).mono ?_
  rintro e w1 ⟨rfl, ho1⟩
  clear cE
  go_wp2_with fail
  go_ret
  refine ⟨_, HG.out, by rw [HX.out]; rfl, ?_⟩
  refine Only.trans ?_ ho1 (fun _ _ h => h)
  repeat with_reducible first | exact Only.refl _ _ | refine Only.alloc ?_ _ | refine Only.drew ?_ | refine Only.setCell ?_ (fun h => absurd h (Nat.not_lt.2 (Nat.le_succ _))) _

set_option maxRecDepth 20000 in
set_option maxHeartbeats 800000 in
theorem word_2t0 (F A B C O : Nat) (u : Bool) (m : Int) (w : World) (hF : F < 256) (hA : A < 256) (hB : B < 256) (hC : C < 256) (hO : O < 256) (hm1 : -32768 ≤ m) (hm2 : m ≤ 32767) (h0 : bits BinOp.and IntKind.u8 (F : Int) 3 = 2) (h8 : O % 8 ≠ 1) (hz : ((O : Int) == 0) = true) :
    Calls Try.prog 12 #[.agg #[.int .u8 F, .int .u8 A, .int .u8 B, .int .u8 C, .int .u8 O, .bool u, .bool true, .int .i16 m]] w fun e w' => ∃ i : Ins, i.Good ∧ e = .returned (.int .u32 (enc i : Nat)) ∧ Only Nil w w' := by
  obtain ⟨a, ea, la⟩ := low_u8 A 4 hA (by decide)
  rw [show ((2 ^ 4 - 1 : Nat) : Int) = 15 from rfl] at ea
  have WA := Lib.hid (w64n a (by omega))
  obtain ⟨b, eb, lb⟩ := low_u8 B 2 hB (by decide)
  rw [show ((2 ^ 2 - 1 : Nat) : Int) = 3 from rfl] at eb
  have WB := Lib.hid (w64n b (by omega))
  obtain ⟨y, hy⟩ : ∃ y : Int, m.tmod 8 = y := ⟨_, rfl⟩
  have ly : -8 ≤ y ∧ y ≤ 8 := by
    have h1 := Int.tmod_lt_of_pos m (show (0 : Int) < 8 by decide)
    have h2 := Int.lt_tmod_of_pos m (show (0 : Int) < 8 by decide)
    omega
  have WY : Hid (wrap32 (wrap32 y * 4) = y * 4) := Lib.hid (by unfold wrap32; omega)
  have WY2 : Hid (wrap32 (y * 4) = y * 4) := Lib.hid (by unfold wrap32; omega)
  have e8 : ((O : Int) % 8 == 1) = false := by rw [beq_eq_false_iff_ne]; omega
  have hG : (⟨2, u, true, a, b, 0, 0, y * 4⟩ : Ins).Good := good2 u true a b _ (by omega) (by omega) (by omega) (by omega)
  have cE := fun w => encR_good (⟨2, u, true, a, b, 0, 0, y * 4⟩) w hG
  have HG := Lib.hid hG
  obtain ⟨x, hx⟩ : ∃ x, enc (⟨2, u, true, a, b, 0, 0, y * 4⟩) = x := ⟨_, rfl⟩
  rw [hx] at cE
  unfold Ins.val Ins.cells at cE
  simp only at cE
  have HX := Lib.hid hx
  clear hG hx hF hA hB hC hO la lb hm1 hm2
  go_enter Try.func12, Try.ntmps12
  go_wp2_with fail
  go_region
  all_goals go_wp2_with fail
  rw [WA.out]
  try rw [WB.out]
  try rw [WY.out]
  try rw [WY2.out]
  with_reducible refine (cE _).mono ?_
  rintro e w1 ⟨rfl, ho1⟩
  clear cE
  go_wp2_with fail
  go_ret
  refine ⟨_, HG.out, by rw [HX.out]; rfl, ?_⟩
  refine Only.trans ?_ ho1 (fun _ _ h => h)
  repeat with_reducible first | exact Only.refl _ _ | refine Only.alloc ?_ _ | refine Only.drew ?_ | refine Only.setCell ?_ (fun h => absurd h (Nat.not_lt.2 (Nat.le_succ _))) _

/-- Whatever the numbers: the word of an instruction that there is. -/
theorem word_of (F A B C O : Nat) (u v : Bool) (m : Int) (w : World) (hF : F < 256) (hA : A < 256) (hB : B < 256) (hC : C < 256) (hO : O < 256) (hm1 : -32768 ≤ m) (hm2 : m ≤ 32767) :
    Calls Try.prog 12 #[.agg #[.int .u8 F, .int .u8 A, .int .u8 B, .int .u8 C, .int .u8 O, .bool u, .bool v, .int .i16 m]] w fun e w' => ∃ i : Ins, i.Good ∧ e = .returned (.int .u32 (enc i : Nat)) ∧ Only Nil w w' := by
  obtain ⟨f, ef, lf⟩ := low_u8 F 2 hF (by decide)
  rw [show ((2 ^ 2 - 1 : Nat) : Int) = 3 from rfl] at ef
  rcases (show f = 0 ∨ f = 1 ∨ f = 2 ∨ f = 3 by omega) with rfl | rfl | rfl | rfl
  · exact word_0 F A B C O u v m w hF hA hB hC hO hm1 hm2 ef
  · by_cases hm : 0 < m
    · exact word_1a F A B C O u v m w hF hA hB hC hO hm1 hm2 ef hm
    · exact word_1b F A B C O u v m w hF hA hB hC hO hm1 hm2 ef (by omega)
  · by_cases h8 : O % 8 = 1
    · cases v
      · exact word_2fy F A B C O u m w hF hA hB hC hO hm1 hm2 ef h8
      · exact word_2ty F A B C O u m w hF hA hB hC hO hm1 hm2 ef h8 (by rw [beq_eq_false_iff_ne]; omega)
    · cases v
      · exact word_2fn F A B C O u m w hF hA hB hC hO hm1 hm2 ef h8
      · by_cases hz : O = 0
        · exact word_2t0 F A B C O u m w hF hA hB hC hO hm1 hm2 ef h8 (by rw [beq_iff_eq]; omega)
        · exact word_2tn F A B C O u m w hF hA hB hC hO hm1 hm2 ef h8 (by rw [beq_eq_false_iff_ne]; omega)
  · cases u
    · exact word_3a F A B C O v m w hF hA hB hC hO hm1 hm2 ef
    · exact word_3b F A B C O v m w hF hA hB hC hO hm1 hm2 ef
end Go.Proofs.Ythimhbfglgnohaa

/- The walk of the law RiscTogether. -/
set_option linter.unusedSimpArgs false
set_option linter.unusedVariables false
namespace Go.Proofs.Ythimhbfglgnohaa
open Go.RowKit M

/-- An instruction of few numbers, as the laws are handed it. -/
structure LIns where
  F : Nat
  A : Nat
  B : Nat
  C : Nat
  O : Nat
  u : Bool
  v : Bool
  m : Int
instance lIns_any : Inhabited LIns := ⟨⟨0, 0, 0, 0, 0, false, false, 0⟩⟩
def LIns.cells (i : LIns) : Array Value := #[.int .u8 i.F, .int .u8 i.A, .int .u8 i.B, .int .u8 i.C, .int .u8 i.O, .bool i.u, .bool i.v, .int .i16 i.m]
def LIns.Ok (i : LIns) : Prop := i.F < 256 ∧ i.A < 256 ∧ i.B < 256 ∧ i.C < 256 ∧ i.O < 256 ∧ -32768 ≤ i.m ∧ i.m ≤ 32767
def LRow (w : World) (b off : Nat) (L : List LIns) : Prop := ∀ (k : Nat) (i : LIns), L[k]? = some i → i.Ok ∧ ∀ j, j < 8 → w.cell? ⟨b, off + k * 8 + j, none⟩ = i.cells[j]?
theorem LRow.kept {S : Nat → Prop} {w w' : World} {b off : Nat} {L : List LIns} (h : LRow w b off L) (ho : Only S w w') (hS : ¬ S b) : LRow w' b off L := by
  intro k i hk
  refine ⟨(h k i hk).1, fun j hj => ?_⟩
  have h1 := (h k i hk).2 j hj
  have hi : j < i.cells.size := hj
  rw [Array.getElem?_eq_getElem hi] at h1 ⊢
  exact ho.cell h1 hS

/-- A machine that waits while another one runs. -/
theorem MAt.waits {wc w5 w' : World} {S : Nat → Prop} {mb wb : Nat} {code : List Nat} {s : St} {cv iv ov : Value} (h : MAt (fun k => k < wc.heap.size) w5 mb wb none code s cv iv ov) (hm : wc.heap.size ≤ mb) (hw : wc.heap.size ≤ wb) (ho : Only S w5 w')
    (hS : ∀ k, S k → k < wc.heap.size ∨ w5.heap.size ≤ k) : MAt Nil w' mb wb none code s cv iv ov := by
  have h1 := h.1.lt
  have h2 := h.2.1.lt
  have hl := h.less (T := fun k => k < wc.heap.size ∨ w5.heap.size ≤ k) (fun k hk h => h.elim id (fun h => absurd hk (by omega)))
  exact (hl.apart ho (fun h => by rcases hS _ h with h | h <;> omega) (fun h => by rcases hS _ h with h | h <;> omega) nofun hS).less (fun _ _ h => h.elim)

set_option maxRecDepth 20000 in
set_option maxHeartbeats 3200000 in
theorem together_any (b off : Nat) (ao : Option Addr) (n cap : Nat) (L : List LIns) (bi : Nat) (ai : Option Addr) (ni ci : Nat) (B : List Nat) (fa fb : Nat) (w : World) (hr : LRow w b off L) (hn : L.length = n) (ha : 0 < n → ao = some ⟨b, off, none⟩)
    (hs : Src w bi (.slice ai ni ci) (U8s B)) (hl : B.length = ni) (hB : ∀ x ∈ B, x < 256) (hfa : fa ≤ 255) (hfb : fb ≤ 255) :
    Calls Try.prog 5 #[.slice ao n cap, .slice ai ni ci, .int .u8 fa, .int .u8 fb] w fun e w' => e = .returned (.bool true) ∧ Only Nil w w' := by
  have cK := known_any w
  obtain ⟨i0, hi, hz0, hz1, hz2⟩ := info_parts infoU32
  by_cases h40 : 40 < n
  · have h40' : (40 : Int) < (n : Int) := by omega
    clear hr ha hs hl hB
    go_enter Try.func5, Try.ntmps5
    go_wp2_with fail
    refine cK.mono ?_
    rintro e w1 ⟨rfl, ho1⟩
    clear cK
    go_wp2_with fail
    go_ret
    exact ⟨rfl, ho1⟩
  · have h40' : (n : Int) ≤ 40 := by omega
    by_cases h20 : 20 < ni
    · have h20' : (20 : Int) < (ni : Int) := by omega
      clear hr ha hs hl hB
      go_enter Try.func5, Try.ntmps5
      go_wp2_with fail
      refine cK.mono ?_
      rintro e w1 ⟨rfl, ho1⟩
      clear cK
      go_wp2_with fail
      go_ret
      exact ⟨rfl, ho1⟩
    · have h20' : (ni : Int) ≤ 20 := by omega
      have HR := Lib.hid hr
      have HN := Lib.hid hn
      have HA := Lib.hid ha
      have HS := Lib.hid hs
      have HL := Lib.hid hl
      have HB := Lib.hid hB
      clear hr hn ha hs hl hB
      go_enter Try.func5, Try.ntmps5
      go_wp2_with fail
      refine cK.mono ?_
      rintro e w1 ⟨rfl, ho1⟩
      clear cK
      go_wp2_with fail
      go_loopg [9, 10] n (fun m t i wr => ∃ ws : List Ins, m ≤ n ∧ i = .int .i64 ((n - m : Nat) : Int) ∧ (∀ x ∈ ws, x.Good) ∧ ws.length = n - m ∧ wr.ownsRow w.heap.size 26 1 t (n - m) (U32s (ws.map enc)) ∧ Only Nil w wr)
      case atStart => exact ⟨[], Nat.le_refl _, by simp, nofun, by simp, by simpa [U32s] using World.ownsRow_nil _ _ _ _, ho1⟩
      case round =>
        clear ho1
        obtain ⟨ws, hm, rfl, hgood, hwl, hown, ho⟩ := hrel
        obtain ⟨m, rfl⟩ : ∃ m, m = gk := ⟨gk, rfl⟩
        obtain ⟨k, hk⟩ : ∃ k, n - m = k := ⟨_, rfl⟩
        rw [hk] at hown hwl ⊢
        have hkn : k ≤ n := by omega
        have HK := Lib.hid hk
        have HWS := Lib.hid hgood
        have HWL := Lib.hid hwl
        clear hk hgood hwl
        by_cases hkl : k < n
        · have hkl2 : k < L.length := by rw [HN.out]; exact hkl
          have hat : L[k]? = some L[k] := List.getElem?_eq_getElem hkl2
          obtain ⟨y, hy⟩ : ∃ y, L[k] = y := ⟨_, rfl⟩
          rw [hy] at hat
          have hao := HA.out (by omega)
          obtain ⟨hyk, hyc⟩ := (HR.out.kept ho (fun h => h)) k y hat
          have r0 := hyc 0 (by decide)
          have r1 := hyc 1 (by decide)
          have r2 := hyc 2 (by decide)
          have r3 := hyc 3 (by decide)
          have r4 := hyc 4 (by decide)
          have r5 := hyc 5 (by decide)
          have r6 := hyc 6 (by decide)
          have r7 := hyc 7 (by decide)
          obtain ⟨q1, q2, q3, q4, q5, q6, q7⟩ := hyk
          have cW := fun w => word_of y.F y.A y.B y.C y.O y.u y.v y.m w q1 q2 q3 q4 q5 q6 q7
          obtain ⟨F, A, Bx, C, O, u, v, mm⟩ := y
          unfold LIns.cells at r0 r1 r2 r3 r4 r5 r6 r7
          simp only [List.getElem?_toArray, List.getElem?_cons_zero, List.getElem?_cons_succ, Nat.add_zero] at r0 r1 r2 r3 r4 r5 r6 r7 cW
          subst hao
          have hsz := ho.size
          have k0 : (0 : Int) ≤ (k : Int) := Int.natCast_nonneg _
          have k1 : (k : Int) < (n : Int) := by omega
          clear hy hat hyc q1 q2 q3 q4 q5 q6 q7
          go_wp2_with fail
          refine (cW _).mono ?_
          rintro e w2 ⟨x, hxg, rfl, ho2⟩
          clear cW
          have hsz2 := ho2.size
          have hown2 : w2.ownsRow w.heap.size 26 1 u9 k (U32s (ws.map enc)) := ownsRow_only hown ho2 (fun _ _ h => h)
          have hown3 := hown2
          clear r0 r1 r2 r3 r4 r5 r6 r7 hown
          go_wp2_with (with_reducible refine wpList_append_one rfl _ _ 25 rfl w.heap.size 26 i0 (.int .u32 0) 4 Try.underlying25 hi hz0 hz1 hz2 rfl _ _ _ rfl hown3 _ rfl rfl ?c1 ?c2 ?c3 ?_)
          case c1 => simp [maxLen]; omega
          case c2 => omega
          case c3 => omega
          intro g cap2 w3 hown4 hc4 hc5 hg4 ho4
          have ho5 : Only Nil w w3 := (ho.trans ho2 (fun _ _ h => h)).nil_own hown2 ho4
          clear hown2 hown3 ho4 ho2 ho hsz hsz2 hg4
          go_wp2_with fail
          go_roundg (m - 1)
          case measure => have := HK.out; omega
          case rel =>
            refine ⟨ws ++ [x], by omega, by have := HK.out; go_num, ?_, ?_, ?_, ho5⟩
            · intro z hz
              rcases List.mem_append.1 hz with hz | hz
              · exact HWS.out z hz
              · rw [List.mem_singleton.1 hz]; exact hxg
            · rw [List.length_append, HWL.out, List.length_singleton]; have := HK.out; omega
            · rw [show n - (m - 1) = k + 1 by have := HK.out; omega, List.map_append, List.map_cons, List.map_nil]
              simpa [U32s] using hown4
        · have hkl2 : k = n := by omega
          subst hkl2
          obtain ⟨code, hcode⟩ : ∃ code, ws.map enc = code := ⟨_, rfl⟩
          have hcl : code.length = k := by rw [← hcode, List.length_map, HWL.out]
          have hclt : ∀ x ∈ code, x < 4294967296 := by rw [← hcode]; exact map_lt HWS.out
          rw [hcode] at hown
          have HCLT := Lib.hid hclt
          have HCL := Lib.hid hcl
          clear hcode hclt hcl
          obtain ⟨s, hs⟩ : ∃ s, s0 16 B = s := ⟨_, rfl⟩
          have hsok : s.Ok := by rw [← hs]; exact s0_ok 16 B (by decide) HB.out
          have hsout : s.out.length = 0 := by rw [← hs]; rfl
          obtain ⟨t1, ht1⟩ : ∃ t, M.run code fa s = t := ⟨_, rfl⟩
          obtain ⟨t2, ht2⟩ : ∃ t, M.run code fb t1 = t := ⟨_, rfl⟩
          have ht12 : M.run code (fa + fb) s = t2 := by rw [run_add, ht1, ht2]
          have hcl0 : code.length ≤ 1048576 := by have := HCL.out; omega
          have ok1 := run_ok HCLT.out hcl0 fa hsok
          rw [ht1] at ok1
          have HT1 := Lib.hid ht1
          have HT2 := Lib.hid ht2
          have HT12 := Lib.hid ht12
          have HOK1 := Lib.hid ok1
          have HSO := Lib.hid hsout
          have HSE := Lib.hid hs
          clear ht1 ht2 ht12 ok1 hsout hs
          have hsB := HS.out.kept ho (fun _ h => h)
          have cN1 := new_any (Q := Nil) code B 16 16 (by decide) (u9.ownBlock.getD 0) bi u9 (.slice ai ni ci) wr (Src.of_own hown) hsB hcl0 (by have := HL.out; omega) (by decide) (fun _ h => h.elim)
          go_wp2_with fail
          refine cN1.mono ?_
          rintro e w4 ⟨mb1, wb1, cv1, iv1, rfl, hmb1, hwb1, ho4, hM1⟩
          clear cN1
          rw [HSE.out] at hM1
          have hown4 := ownsRow_only hown ho4 (fun _ _ h => h)
          have cN2 := new_any (Q := fun k => k < w4.heap.size) code B 16 16 (by decide) (u9.ownBlock.getD 0) bi u9 (.slice ai ni ci) w4 (Src.of_own hown4) (hsB.kept ho4 (fun _ h => h)) hcl0 (by have := HL.out; omega) (by decide) (fun _ h => h)
          go_wp2_with fail
          refine cN2.mono ?_
          rintro e w5 ⟨mb2, wb2, cv2, iv2, rfl, hmb2, hwb2, ho5, hM2⟩
          clear cN2 hown hown4 hsB
          rw [HSE.out] at hM2
          have lm1 := hM1.1.lt
          have lw1 := hM1.2.1.lt
          have hM1' := hM1.quiet ho5
          have hw5 : Only Nil w w5 := (ho.trans ho4 (fun _ _ h => h)).trans ho5 (fun _ _ h => h)
          have gm1 : w.heap.size ≤ mb1 := Nat.le_trans ho.size hmb1
          have gw1 : w.heap.size ≤ wb1 := Nat.le_trans ho.size hwb1
          have g45 := ho5.size
          have gm2 : w.heap.size ≤ mb2 := by omega
          have gw2 : w.heap.size ≤ wb2 := by omega
          have cR1 := run_any mb1 wb1 none code cv1 iv1 (.slice none 0 0) s w5 hsok HCLT.out hcl0 hM1' (fa : Int) (by omega) (by omega) (by rw [HSO.out, Int.toNat_natCast]; omega) (t := t1) (by rw [Int.toNat_natCast]; exact HT1.out)
          clear hM1 hM1' ho4 ho5 ho
          go_wp2_with fail
          refine cR1.mono ?_
          rintro e w6 ⟨ob1, iv1', ov1, rv0, rfl, hw6, hown6, hM16⟩
          clear cR1 hown6
          have hob1 := went_ob hw6 (Nat.le_refl _)
          have g56 := hw6.1.size
          have cR2 := run_any mb1 wb1 ob1 code cv1 iv1' ov1 t1 w6 HOK1.out.1 HCLT.out hcl0 hM16 (fb : Int) (by omega) (by omega) (by rw [Int.toNat_natCast]; have h1 := HOK1.out.2.2; have h2 := HSO.out; omega) (t := t2) (by rw [Int.toNat_natCast]; exact HT2.out)
          clear hM16
          go_wp2_with fail
          refine cR2.mono ?_
          rintro e w7 ⟨ob1', iv1'', ov1', rv1, rfl, hw7, hown7, hM17⟩
          clear cR2
          have hS57 : Only (Own3 mb1 wb1 none) w5 w7 := (hw6.trans hw7).1
          have hM27 := MAt.waits hM2 hmb2 hwb2 hS57 (fun k h => by
            rcases h with h | h | h
            · left; omega
            · left; omega
            · cases h)
          have lm2 := hM2.1.lt
          have lw2 := hM2.2.1.lt
          have hsum : ((fa : Int) + (fb : Int)).toNat = fa + fb := by omega
          have cR3 := run_any mb2 wb2 none code cv2 iv2 (.slice none 0 0) s w7 hsok HCLT.out hcl0 hM27 ((fa : Int) + (fb : Int)) (by omega) (by omega) (by rw [HSO.out, hsum]; omega) (t := t2) (by rw [hsum]; exact HT12.out)
          have g67 := hw7.1.size
          have hw57 : Only Nil w w7 := hw5.trans hS57 (fun i hi h => by
            rcases h with h | h | h
            · exact absurd hi (by omega)
            · exact absurd hi (by omega)
            · cases h)
          clear hM2 hM27 hsum
          go_wp2_with fail
          refine cR3.mono ?_
          rintro e w8 ⟨ob2, iv2', ov2, rv2, rfl, hw8, hown8, hM28⟩
          clear cR3
          have hown78 := ownsRow_only hown7 hw8.1 (fun k hk h => by
            obtain ⟨q1, q2⟩ := own_lt hown7 hk
            rcases h with h | h | h
            · omega
            · omega
            · cases h)
          have hB1 := hM17.1.kept hw8.1 (fun h => by
            rcases h with h | h | h
            · omega
            · omega
            · cases h)
          have hO8 : Only Nil w w8 := went_fresh hw57 hw8 gm2 gw2
          have cH := helpResult_same _ _ rv1 rv2 t2.out t2.fin t2.trap w8 (Src.of_own hown78) (Src.of_own hown8)
          have cP1 := fun (w' : World) (ho : Only Nil w8 w') => pc_any mb1 cv1 _ iv1'' ov1' t2 w' (hB1.kept ho (fun h => h))
          have cP2 := fun (w' : World) (ho : Only Nil w8 w') => pc_any mb2 cv2 _ iv2' ov2 t2 w' (hM28.1.kept ho (fun h => h))
          have HO := Lib.hid hO8
          clear hown7 hown8 hown78 hM17 hM28 hB1 hw6 hw7 hw8 hS57 hw57 hw5 hO8
          go_wp2_with fail
          refine cH.mono ?_
          rintro e w9 ⟨rfl, ho9⟩
          clear cH
          go_wp2_with fail
          refine (cP1 _ ho9).mono ?_
          rintro e w10 ⟨rfl, rfl⟩
          clear cP1
          go_wp2_with fail
          refine (cP2 _ ho9).mono ?_
          rintro e w10 ⟨rfl, rfl⟩
          clear cP2
          go_wp2_with fail
          go_ret
          exact ⟨by simp, HO.out.trans ho9 (fun _ _ h => h)⟩
end Go.Proofs.Ythimhbfglgnohaa

