/- An instruction of few numbers becomes a word. -/
import Derived.Test.YthimhbfglgnohaaREnc
import Derived.Test.YthimhbfglgnohaaMLaw
import Derived.WalkKit
import Derived.BigRegion
import Derived.RegionTactic
set_option linter.unusedSimpArgs false
set_option linter.unusedVariables false
namespace Go.Proofs.Ythimhbfglgnohaa
open Go.RowKit M

theorem band_u8 (B N : Nat) (hB : B < 256) (hN : N < 256) : bits BinOp.and IntKind.u8 (B : Int) (N : Int) = ((B &&& N : Nat) : Int) := by
  have h : B &&& N < 2 ^ 8 := Nat.and_lt_two_pow _ hN
  show IntKind.u8.wrap ((BitVec.ofInt 8 (B : Int) &&& BitVec.ofInt 8 (N : Int)).toNat : Int) = _
  have e1 : BitVec.ofInt 8 (B : Int) = BitVec.ofNat 8 B := rfl
  have e2 : BitVec.ofInt 8 (N : Int) = BitVec.ofNat 8 N := rfl
  rw [e1, e2, BitVec.toNat_and, BitVec.toNat_ofNat, BitVec.toNat_ofNat, Nat.mod_eq_of_lt hB, Nat.mod_eq_of_lt hN, IntKind.wrap_u8]
  omega
theorem low_u8 (B k : Nat) (hB : B < 256) (hk : k ≤ 7) : ∃ x : Nat, bits BinOp.and IntKind.u8 (B : Int) ((2 ^ k - 1 : Nat) : Int) = (x : Int) ∧ x < 2 ^ k := by
  have hp : 2 ^ k ≤ 2 ^ 7 := Nat.pow_le_pow_right (by decide) hk
  have h1 : 1 ≤ 2 ^ k := Nat.one_le_two_pow
  refine ⟨B &&& (2 ^ k - 1), band_u8 B (2 ^ k - 1) hB (by omega), ?_⟩
  have := Nat.and_le_right (n := B) (m := 2 ^ k - 1)
  omega
theorem low_i16 (m : Int) (k : Nat) (hk : k ≤ 7) : ∃ x : Nat, bits BinOp.and IntKind.i16 m ((2 ^ k - 1 : Nat) : Int) = (x : Int) ∧ x < 2 ^ k := by
  have hp : 2 ^ k ≤ 2 ^ 7 := Nat.pow_le_pow_right (by decide) hk
  have h1 : 1 ≤ 2 ^ k := Nat.one_le_two_pow
  have e2 : BitVec.ofInt 16 ((2 ^ k - 1 : Nat) : Int) = BitVec.ofNat 16 (2 ^ k - 1) := rfl
  refine ⟨(BitVec.ofInt 16 m &&& BitVec.ofInt 16 ((2 ^ k - 1 : Nat) : Int)).toNat, ?_, ?_⟩
  · show IntKind.i16.wrap ((BitVec.ofInt 16 m &&& BitVec.ofInt 16 ((2 ^ k - 1 : Nat) : Int)).toNat : Int) = _
    have h3 : (BitVec.ofInt 16 m &&& BitVec.ofInt 16 ((2 ^ k - 1 : Nat) : Int)).toNat ≤ 2 ^ k - 1 := by
      rw [e2, BitVec.toNat_and, BitVec.toNat_ofNat, Nat.mod_eq_of_lt (by omega)]
      exact Nat.and_le_right
    exact IntWalk.i16_in _ (by omega)
  · rw [e2, BitVec.toNat_and, BitVec.toNat_ofNat, Nat.mod_eq_of_lt (by omega)]
    have := Nat.and_le_right (n := (BitVec.ofInt 16 m).toNat) (m := 2 ^ k - 1)
    omega

theorem w64n (x : Nat) (h : x < 256) : wrap64 (x : Int) = (x : Int) := by unfold wrap64; omega
theorem w32n (x : Int) (h : -1000000 ≤ x ∧ x ≤ 1000000) : wrap32 x = x := by unfold wrap32; omega
theorem good2 (u v : Bool) (a b : Nat) (m : Int) (ha : a ≤ 15) (hb : b ≤ 15) (h1 : -524288 ≤ m) (h2 : m ≤ 524287) : (Ins.mk 2 u v a b 0 0 m).Good := by
  unfold Ins.Good
  exact ⟨(by decide : (0 : Int) ≤ 2), (by decide : (2 : Int) ≤ 3), (by omega : (0 : Int) ≤ a), (by omega : (a : Int) ≤ 15), Or.inr (Or.inr (Or.inl ⟨rfl, (by omega : (0 : Int) ≤ b), (by omega : (b : Int) ≤ 15), rfl, rfl, h1, h2⟩))⟩
theorem good3 (v : Bool) (a c m : Nat) (ha : a ≤ 15) (hc : c ≤ 15) (hm : m ≤ 15) : (Ins.mk 3 false v a 0 c 0 m).Good := by
  unfold Ins.Good
  exact ⟨(by decide : (0 : Int) ≤ 3), (by decide : (3 : Int) ≤ 3), (by omega : (0 : Int) ≤ a), (by omega : (a : Int) ≤ 15), Or.inr (Or.inr (Or.inr (Or.inl ⟨rfl, rfl, rfl, rfl, (by omega : (0 : Int) ≤ c), (by omega : (c : Int) ≤ 15), (by omega : (0 : Int) ≤ m), (by omega : (m : Int) ≤ 15)⟩)))⟩

set_option maxRecDepth 20000 in
set_option maxHeartbeats 800000 in
theorem word_0 (F A B C O : Nat) (u v : Bool) (m : Int) (w : World) (hF : F < 256) (hA : A < 256) (hB : B < 256) (hC : C < 256) (hO : O < 256) (hm1 : -32768 ≤ m) (hm2 : m ≤ 32767) (h0 : bits BinOp.and IntKind.u8 (F : Int) 3 = 0) :
    Calls Try.prog 12 #[.agg #[.int .u8 F, .int .u8 A, .int .u8 B, .int .u8 C, .int .u8 O, .bool u, .bool v, .int .i16 m]] w fun e w' => ∃ i : Ins, i.Good ∧ e = .returned (.int .u32 (enc i : Nat)) ∧ Only Nil w w' := by
  obtain ⟨a, ea, la⟩ := low_u8 A 4 hA (by decide)
  rw [show ((2 ^ 4 - 1 : Nat) : Int) = 15 from rfl] at ea
  have WA := Lib.hid (w64n a (by omega))
  obtain ⟨b, eb, lb⟩ := low_u8 B 4 hB (by decide)
  rw [show ((2 ^ 4 - 1 : Nat) : Int) = 15 from rfl] at eb
  have WB := Lib.hid (w64n b (by omega))
  obtain ⟨c, ec, lc⟩ := low_u8 C 4 hC (by decide)
  rw [show ((2 ^ 4 - 1 : Nat) : Int) = 15 from rfl] at ec
  have WC := Lib.hid (w64n c (by omega))
  obtain ⟨o, ho⟩ : ∃ o, O % 12 = o := ⟨_, rfl⟩
  have eo : (O : Int) % 12 = (o : Int) := by omega
  have lo : o ≤ 15 := by omega
  have hG : (⟨0, u, v, a, b, c, o, 0⟩ : Ins).Good := good0 u v a b c o (by omega) (by omega) (by omega) lo
  have cE := fun w => encR_good (⟨0, u, v, a, b, c, o, 0⟩) w hG
  have HG := Lib.hid hG
  obtain ⟨x, hx⟩ : ∃ x, enc (⟨0, u, v, a, b, c, o, 0⟩) = x := ⟨_, rfl⟩
  rw [hx] at cE
  unfold Ins.val Ins.cells at cE
  simp only at cE
  have HX := Lib.hid hx
  clear hG hx hF hA hB hC hO la hm1 hm2 ho lb lc
  go_enter Try.func12, Try.ntmps12
  go_wp2_with fail
  go_region
  all_goals go_wp2_with fail
  rw [WA.out, WB.out, WC.out]
  with_reducible refine (cE _).mono ?_
  rintro e w1 ⟨rfl, ho1⟩
  clear cE
  go_wp2_with fail
  go_ret
  refine ⟨_, HG.out, by rw [HX.out]; rfl, ?_⟩
  refine Only.trans ?_ ho1 (fun _ _ h => h)
  repeat with_reducible first | exact Only.refl _ _ | refine Only.alloc ?_ _ | refine Only.drew ?_ | refine Only.setCell ?_ (fun h => absurd h (Nat.not_lt.2 (Nat.le_succ _))) _

set_option maxRecDepth 20000 in
set_option maxHeartbeats 800000 in
theorem word_1b (F A B C O : Nat) (u v : Bool) (m : Int) (w : World) (hF : F < 256) (hA : A < 256) (hB : B < 256) (hC : C < 256) (hO : O < 256) (hm1 : -32768 ≤ m) (hm2 : m ≤ 32767) (h0 : bits BinOp.and IntKind.u8 (F : Int) 3 = 1) (hm0 : m ≤ 0) :
    Calls Try.prog 12 #[.agg #[.int .u8 F, .int .u8 A, .int .u8 B, .int .u8 C, .int .u8 O, .bool u, .bool v, .int .i16 m]] w fun e w' => ∃ i : Ins, i.Good ∧ e = .returned (.int .u32 (enc i : Nat)) ∧ Only Nil w w' := by
  obtain ⟨a, ea, la⟩ := low_u8 A 4 hA (by decide)
  rw [show ((2 ^ 4 - 1 : Nat) : Int) = 15 from rfl] at ea
  have WA := Lib.hid (w64n a (by omega))
  obtain ⟨b, eb, lb⟩ := low_u8 B 4 hB (by decide)
  rw [show ((2 ^ 4 - 1 : Nat) : Int) = 15 from rfl] at eb
  have WB := Lib.hid (w64n b (by omega))
  obtain ⟨o, ho⟩ : ∃ o, O % 12 = o := ⟨_, rfl⟩
  have eo : (O : Int) % 12 = (o : Int) := by omega
  have lo : o ≤ 15 := by omega
  obtain ⟨z, hz⟩ : ∃ z : Nat, (m % 65536).toNat = z := ⟨_, rfl⟩
  have ez : m % 65536 = (z : Int) := by omega
  have WZ : Hid (wrap32 (z : Int) = (z : Int)) := Lib.hid (w32n _ (by omega))
  have lz : z ≤ 65535 := by omega
  have EZ : Hid (IntKind.u16.wrap m = (z : Int)) := Lib.hid (by rw [show IntKind.u16.wrap m = m % 65536 by simp [IntKind.wrap, IntKind.bits, IntKind.signed]]; exact ez)
  have hG : (⟨1, u, v, a, b, 0, o, z⟩ : Ins).Good := good1 u v a b o z (by omega) (by omega) lo lz
  have cE := fun w => encR_good (⟨1, u, v, a, b, 0, o, z⟩) w hG
  have HG := Lib.hid hG
  obtain ⟨x, hx⟩ : ∃ x, enc (⟨1, u, v, a, b, 0, o, z⟩) = x := ⟨_, rfl⟩
  rw [hx] at cE
  unfold Ins.val Ins.cells at cE
  simp only at cE
  have HX := Lib.hid hx
  clear hG hx hF hA hB hC hO la hm1 hm2 ho lb hz
  go_enter Try.func12, Try.ntmps12
  go_wp2_with fail
  go_region
  all_goals go_wp2_with fail
  rw [WA.out, WB.out]
  rw [EZ.out, WZ.out]
  with_reducible refine (cE _).mono ?_
  rintro e w1 ⟨rfl, ho1⟩
  clear cE
  go_wp2_with fail
  go_ret
  refine ⟨_, HG.out, by rw [HX.out]; rfl, ?_⟩
  refine Only.trans ?_ ho1 (fun _ _ h => h)
  repeat with_reducible first | exact Only.refl _ _ | refine Only.alloc ?_ _ | refine Only.drew ?_ | refine Only.setCell ?_ (fun h => absurd h (Nat.not_lt.2 (Nat.le_succ _))) _

set_option maxRecDepth 20000 in
set_option maxHeartbeats 800000 in
theorem word_1a (F A B C O : Nat) (u v : Bool) (m : Int) (w : World) (hF : F < 256) (hA : A < 256) (hB : B < 256) (hC : C < 256) (hO : O < 256) (hm1 : -32768 ≤ m) (hm2 : m ≤ 32767) (h0 : bits BinOp.and IntKind.u8 (F : Int) 3 = 1) (hm0 : 0 < m) :
    Calls Try.prog 12 #[.agg #[.int .u8 F, .int .u8 A, .int .u8 B, .int .u8 C, .int .u8 O, .bool u, .bool v, .int .i16 m]] w fun e w' => ∃ i : Ins, i.Good ∧ e = .returned (.int .u32 (enc i : Nat)) ∧ Only Nil w w' := by
  obtain ⟨a, ea, la⟩ := low_u8 A 4 hA (by decide)
  rw [show ((2 ^ 4 - 1 : Nat) : Int) = 15 from rfl] at ea
  have WA := Lib.hid (w64n a (by omega))
  obtain ⟨b, eb, lb⟩ := low_u8 B 4 hB (by decide)
  rw [show ((2 ^ 4 - 1 : Nat) : Int) = 15 from rfl] at eb
  have WB := Lib.hid (w64n b (by omega))
  obtain ⟨o, ho⟩ : ∃ o, O % 12 = o := ⟨_, rfl⟩
  have eo : (O : Int) % 12 = (o : Int) := by omega
  have lo : o ≤ 15 := by omega
  obtain ⟨z, hz⟩ : ∃ z : Nat, (m % 65536).toNat = z := ⟨_, rfl⟩
  have ez : m % 65536 = (z : Int) := by omega
  have WZ : Hid (wrap32 (z : Int) = (z : Int)) := Lib.hid (w32n _ (by omega))
  have lz : z ≤ 65535 := by omega
  obtain ⟨y, hy⟩ : ∃ y : Nat, (m % 64).toNat = y := ⟨_, rfl⟩
  have ey : m % 64 = (y : Int) := by omega
  have ey2 : m.tmod 64 = (y : Int) := by rw [Int.tmod_eq_emod_of_nonneg (by omega)]; exact ey
  have WY : Hid (wrap32 (y : Int) = (y : Int)) := Lib.hid (w32n _ (by omega))
  have ly : y ≤ 65535 := by omega
  have hG : (⟨1, u, v, a, b, 0, o, y⟩ : Ins).Good := good1 u v a b o y (by omega) (by omega) lo ly
  have cE := fun w => encR_good (⟨1, u, v, a, b, 0, o, y⟩) w hG
  have HG := Lib.hid hG
  obtain ⟨x, hx⟩ : ∃ x, enc (⟨1, u, v, a, b, 0, o, y⟩) = x := ⟨_, rfl⟩
  rw [hx] at cE
  unfold Ins.val Ins.cells at cE
  simp only at cE
  have HX := Lib.hid hx
  clear hG hx hF hA hB hC hO la hm1 hm2 ho lb hz hy
  go_enter Try.func12, Try.ntmps12
  go_wp2_with fail
  go_region
  all_goals go_wp2_with fail
  rw [WA.out, WB.out]
  try rw [WZ.out]
  try rw [WY.out]
  with_reducible refine (cE _).mono ?_
  rintro e w1 ⟨rfl, ho1⟩
  clear cE
  go_wp2_with fail
  go_ret
  refine ⟨_, HG.out, by rw [HX.out]; rfl, ?_⟩
  refine Only.trans ?_ ho1 (fun _ _ h => h)
  repeat with_reducible first | exact Only.refl _ _ | refine Only.alloc ?_ _ | refine Only.drew ?_ | refine Only.setCell ?_ (fun h => absurd h (Nat.not_lt.2 (Nat.le_succ _))) _

set_option maxRecDepth 20000 in
set_option maxHeartbeats 800000 in
theorem word_3a (F A B C O : Nat) (v : Bool) (m : Int) (w : World) (hF : F < 256) (hA : A < 256) (hB : B < 256) (hC : C < 256) (hO : O < 256) (hm1 : -32768 ≤ m) (hm2 : m ≤ 32767) (h0 : bits BinOp.and IntKind.u8 (F : Int) 3 = 3) :
    Calls Try.prog 12 #[.agg #[.int .u8 F, .int .u8 A, .int .u8 B, .int .u8 C, .int .u8 O, .bool false, .bool v, .int .i16 m]] w fun e w' => ∃ i : Ins, i.Good ∧ e = .returned (.int .u32 (enc i : Nat)) ∧ Only Nil w w' := by
  obtain ⟨a, ea, la⟩ := low_u8 A 4 hA (by decide)
  rw [show ((2 ^ 4 - 1 : Nat) : Int) = 15 from rfl] at ea
  have WA := Lib.hid (w64n a (by omega))
  obtain ⟨c, ec, lc⟩ := low_u8 C 4 hC (by decide)
  rw [show ((2 ^ 4 - 1 : Nat) : Int) = 15 from rfl] at ec
  have WC := Lib.hid (w64n c (by omega))
  obtain ⟨q, eq, lq⟩ := low_i16 m 4 (by decide)
  rw [show ((2 ^ 4 - 1 : Nat) : Int) = 15 from rfl] at eq
  have WQ : Hid (wrap32 (q : Int) = (q : Int)) := Lib.hid (w32n _ (by omega))
  have hG : (⟨3, false, v, a, 0, c, 0, q⟩ : Ins).Good := good3 v a c q (by omega) (by omega) (by omega)
  have cE := fun w => encR_good (⟨3, false, v, a, 0, c, 0, q⟩) w hG
  have HG := Lib.hid hG
  obtain ⟨x, hx⟩ : ∃ x, enc (⟨3, false, v, a, 0, c, 0, q⟩) = x := ⟨_, rfl⟩
  rw [hx] at cE
  unfold Ins.val Ins.cells at cE
  simp only at cE
  have HX := Lib.hid hx
  clear hG hx hF hA hB hC hO la hm1 hm2 lc lq
  go_enter Try.func12, Try.ntmps12
  go_wp2_with fail
  go_region
  all_goals go_wp2_with fail
  rw [WA.out, WC.out]
  try rw [WQ.out]
  with_reducible refine (cE _).mono ?_
  rintro e w1 ⟨rfl, ho1⟩
  clear cE
  go_wp2_with fail
  go_ret
  refine ⟨_, HG.out, by rw [HX.out]; rfl, ?_⟩
  refine Only.trans ?_ ho1 (fun _ _ h => h)
  repeat with_reducible first | exact Only.refl _ _ | refine Only.alloc ?_ _ | refine Only.drew ?_ | refine Only.setCell ?_ (fun h => absurd h (Nat.not_lt.2 (Nat.le_succ _))) _

set_option maxRecDepth 20000 in
set_option maxHeartbeats 800000 in
theorem word_3b (F A B C O : Nat) (v : Bool) (m : Int) (w : World) (hF : F < 256) (hA : A < 256) (hB : B < 256) (hC : C < 256) (hO : O < 256) (hm1 : -32768 ≤ m) (hm2 : m ≤ 32767) (h0 : bits BinOp.and IntKind.u8 (F : Int) 3 = 3) :
    Calls Try.prog 12 #[.agg #[.int .u8 F, .int .u8 A, .int .u8 B, .int .u8 C, .int .u8 O, .bool true, .bool v, .int .i16 m]] w fun e w' => ∃ i : Ins, i.Good ∧ e = .returned (.int .u32 (enc i : Nat)) ∧ Only Nil w w' := by
  obtain ⟨a, ea, la⟩ := low_u8 A 4 hA (by decide)
  rw [show ((2 ^ 4 - 1 : Nat) : Int) = 15 from rfl] at ea
  have WA := Lib.hid (w64n a (by omega))
  obtain ⟨y, hy⟩ : ∃ y : Int, m.tmod 6 = y := ⟨_, rfl⟩
  have ly : -6 ≤ y ∧ y ≤ 6 := by
    have h1 := Int.tmod_lt_of_pos m (show (0 : Int) < 6 by decide)
    have h2 := Int.lt_tmod_of_pos m (show (0 : Int) < 6 by decide)
    omega
  have WY : Hid (wrap32 y = y) := Lib.hid (w32n _ (by omega))
  have hG : (⟨3, true, v, a, 0, 0, 0, y⟩ : Ins).Good := goodB v a (by omega) y (by omega) (by omega)
  have cE := fun w => encR_good (⟨3, true, v, a, 0, 0, 0, y⟩) w hG
  have HG := Lib.hid hG
  obtain ⟨x, hx⟩ : ∃ x, enc (⟨3, true, v, a, 0, 0, 0, y⟩) = x := ⟨_, rfl⟩
  rw [hx] at cE
  unfold Ins.val Ins.cells at cE
  simp only at cE
  have HX := Lib.hid hx
  clear hG hx hF hA hB hC hO la hm1 hm2
  go_enter Try.func12, Try.ntmps12
  go_wp2_with fail
  rw [WA.out]
  try rw [WY.out]
  with_reducible refine (cE _).mono ?_
  rintro e w1 ⟨rfl, ho1⟩
  clear cE
  go_wp2_with fail
  go_ret
  refine ⟨_, HG.out, by rw [HX.out]; rfl, ?_⟩
  refine Only.trans ?_ ho1 (fun _ _ h => h)
  repeat with_reducible first | exact Only.refl _ _ | refine Only.alloc ?_ _ | refine Only.drew ?_ | refine Only.setCell ?_ (fun h => absurd h (Nat.not_lt.2 (Nat.le_succ _))) _

set_option maxRecDepth 20000 in
set_option maxHeartbeats 800000 in
theorem word_2fn (F A B C O : Nat) (u : Bool) (m : Int) (w : World) (hF : F < 256) (hA : A < 256) (hB : B < 256) (hC : C < 256) (hO : O < 256) (hm1 : -32768 ≤ m) (hm2 : m ≤ 32767) (h0 : bits BinOp.and IntKind.u8 (F : Int) 3 = 2) (h8 : O % 8 ≠ 1) :
    Calls Try.prog 12 #[.agg #[.int .u8 F, .int .u8 A, .int .u8 B, .int .u8 C, .int .u8 O, .bool u, .bool false, .int .i16 m]] w fun e w' => ∃ i : Ins, i.Good ∧ e = .returned (.int .u32 (enc i : Nat)) ∧ Only Nil w w' := by
  obtain ⟨a, ea, la⟩ := low_u8 A 4 hA (by decide)
  rw [show ((2 ^ 4 - 1 : Nat) : Int) = 15 from rfl] at ea
  have WA := Lib.hid (w64n a (by omega))
  obtain ⟨b, eb, lb⟩ := low_u8 B 2 hB (by decide)
  rw [show ((2 ^ 2 - 1 : Nat) : Int) = 3 from rfl] at eb
  have WB := Lib.hid (w64n b (by omega))
  obtain ⟨y, hy⟩ : ∃ y : Int, m.tmod 8 = y := ⟨_, rfl⟩
  have ly : -8 ≤ y ∧ y ≤ 8 := by
    have h1 := Int.tmod_lt_of_pos m (show (0 : Int) < 8 by decide)
    have h2 := Int.lt_tmod_of_pos m (show (0 : Int) < 8 by decide)
    omega
  have WY : Hid (wrap32 (wrap32 y * 4) = y * 4) := Lib.hid (by unfold wrap32; omega)
  have WY2 : Hid (wrap32 (y * 4) = y * 4) := Lib.hid (by unfold wrap32; omega)
  have e8 : ((O : Int) % 8 == 1) = false := by rw [beq_eq_false_iff_ne]; omega
  have hG : (⟨2, u, false, a, b, 0, 0, y * 4⟩ : Ins).Good := good2 u false a b _ (by omega) (by omega) (by omega) (by omega)
  have cE := fun w => encR_good (⟨2, u, false, a, b, 0, 0, y * 4⟩) w hG
  have HG := Lib.hid hG
  obtain ⟨x, hx⟩ : ∃ x, enc (⟨2, u, false, a, b, 0, 0, y * 4⟩) = x := ⟨_, rfl⟩
  rw [hx] at cE
  unfold Ins.val Ins.cells at cE
  simp only at cE
  have HX := Lib.hid hx
  clear hG hx hF hA hB hC hO la lb hm1 hm2
  go_enter Try.func12, Try.ntmps12
  go_wp2_with fail
  go_region
  all_goals go_wp2_with fail
  rw [WA.out]
  try rw [WB.out]
  try rw [WY.out]
  try rw [WY2.out]
  with_reducible refine (cE _).mono ?_
  rintro e w1 ⟨rfl, ho1⟩
  clear cE
  go_wp2_with fail
  go_ret
  refine ⟨_, HG.out, by rw [HX.out]; rfl, ?_⟩
  refine Only.trans ?_ ho1 (fun _ _ h => h)
  repeat with_reducible first | exact Only.refl _ _ | refine Only.alloc ?_ _ | refine Only.drew ?_ | refine Only.setCell ?_ (fun h => absurd h (Nat.not_lt.2 (Nat.le_succ _))) _

set_option maxRecDepth 20000 in
set_option maxHeartbeats 800000 in
theorem word_2fy (F A B C O : Nat) (u : Bool) (m : Int) (w : World) (hF : F < 256) (hA : A < 256) (hB : B < 256) (hC : C < 256) (hO : O < 256) (hm1 : -32768 ≤ m) (hm2 : m ≤ 32767) (h0 : bits BinOp.and IntKind.u8 (F : Int) 3 = 2) (h8 : O % 8 = 1) :
    Calls Try.prog 12 #[.agg #[.int .u8 F, .int .u8 A, .int .u8 B, .int .u8 C, .int .u8 O, .bool u, .bool false, .int .i16 m]] w fun e w' => ∃ i : Ins, i.Good ∧ e = .returned (.int .u32 (enc i : Nat)) ∧ Only Nil w w' := by
  obtain ⟨a, ea, la⟩ := low_u8 A 4 hA (by decide)
  rw [show ((2 ^ 4 - 1 : Nat) : Int) = 15 from rfl] at ea
  have WA := Lib.hid (w64n a (by omega))
  obtain ⟨b, eb, lb⟩ := low_u8 B 2 hB (by decide)
  rw [show ((2 ^ 2 - 1 : Nat) : Int) = 3 from rfl] at eb
  have WB := Lib.hid (w64n b (by omega))
  obtain ⟨y, hy⟩ : ∃ y : Int, m.tmod 8 = y := ⟨_, rfl⟩
  have ly : -8 ≤ y ∧ y ≤ 8 := by
    have h1 := Int.tmod_lt_of_pos m (show (0 : Int) < 8 by decide)
    have h2 := Int.lt_tmod_of_pos m (show (0 : Int) < 8 by decide)
    omega
  obtain ⟨q, eq, lq⟩ := low_i16 m 1 (by decide)
  rw [show ((2 ^ 1 - 1 : Nat) : Int) = 1 from rfl] at eq
  have WY : Hid (wrap32 (-64 + wrap32 (wrap32 (q : Int) * 4)) = -64 + (q : Int) * 4) := Lib.hid (by have lq2 : q < 2 := lq; rw [w32n (q : Int) (by omega), w32n ((q : Int) * 4) (by omega), w32n _ (by omega)])
  have WY2 : Hid (wrap32 (-64 + wrap32 ((q : Int) * 4)) = -64 + (q : Int) * 4) := Lib.hid (by have lq2 : q < 2 := lq; rw [w32n ((q : Int) * 4) (by omega), w32n _ (by omega)])
  have e8 : ((O : Int) % 8 == 1) = true := by rw [beq_iff_eq]; omega
  have hG : (⟨2, u, false, a, 0, 0, 0, -64 + (q : Int) * 4⟩ : Ins).Good := good2 u false a 0 _ (by omega) (by omega) (by omega) (by omega)
  have cE := fun w => encR_good (⟨2, u, false, a, 0, 0, 0, -64 + (q : Int) * 4⟩) w hG
  have HG := Lib.hid hG
  obtain ⟨x, hx⟩ : ∃ x, enc (⟨2, u, false, a, 0, 0, 0, -64 + (q : Int) * 4⟩) = x := ⟨_, rfl⟩
  rw [hx] at cE
  unfold Ins.val Ins.cells at cE
  simp only at cE
  have HX := Lib.hid hx
  clear hG hx hF hA hB hC hO la lb hm1 hm2 lq ly h8
  go_enter Try.func12, Try.ntmps12
  go_wp2_with fail
  go_region
  all_goals go_wp2_with fail
  go_region
  all_goals go_wp2_with fail
  rw [WA.out]
  try rw [WB.out]
  try rw [WY.out]
  try rw [WY2.out]
  with_reducible refine (cE _).mono ?_
  rintro e w1 ⟨rfl, ho1⟩
  clear cE
  go_wp2_with fail
  go_ret
  refine ⟨_, HG.out, by rw [HX.out]; rfl, ?_⟩
  refine Only.trans ?_ ho1 (fun _ _ h => h)
  repeat with_reducible first | exact Only.refl _ _ | refine Only.alloc ?_ _ | refine Only.drew ?_ | refine Only.setCell ?_ (fun h => absurd h (Nat.not_lt.2 (Nat.le_succ _))) _

set_option maxRecDepth 20000 in
set_option maxHeartbeats 800000 in
theorem word_2tn (F A B C O : Nat) (u : Bool) (m : Int) (w : World) (hF : F < 256) (hA : A < 256) (hB : B < 256) (hC : C < 256) (hO : O < 256) (hm1 : -32768 ≤ m) (hm2 : m ≤ 32767) (h0 : bits BinOp.and IntKind.u8 (F : Int) 3 = 2) (h8 : O % 8 ≠ 1) (hz : ((O : Int) == 0) = false) :
    Calls Try.prog 12 #[.agg #[.int .u8 F, .int .u8 A, .int .u8 B, .int .u8 C, .int .u8 O, .bool u, .bool true, .int .i16 m]] w fun e w' => ∃ i : Ins, i.Good ∧ e = .returned (.int .u32 (enc i : Nat)) ∧ Only Nil w w' := by
  obtain ⟨a, ea, la⟩ := low_u8 A 4 hA (by decide)
  rw [show ((2 ^ 4 - 1 : Nat) : Int) = 15 from rfl] at ea
  have WA := Lib.hid (w64n a (by omega))
  obtain ⟨b, eb, lb⟩ := low_u8 B 2 hB (by decide)
  rw [show ((2 ^ 2 - 1 : Nat) : Int) = 3 from rfl] at eb
  have WB := Lib.hid (w64n b (by omega))
  obtain ⟨y, hy⟩ : ∃ y : Int, m.tmod 8 = y := ⟨_, rfl⟩
  have ly : -8 ≤ y ∧ y ≤ 8 := by
    have h1 := Int.tmod_lt_of_pos m (show (0 : Int) < 8 by decide)
    have h2 := Int.lt_tmod_of_pos m (show (0 : Int) < 8 by decide)
    omega
  have WY : Hid (wrap32 (wrap32 y * 4) = y * 4) := Lib.hid (by unfold wrap32; omega)
  have WY2 : Hid (wrap32 (y * 4) = y * 4) := Lib.hid (by unfold wrap32; omega)
  have e8 : ((O : Int) % 8 == 1) = false := by rw [beq_eq_false_iff_ne]; omega
  have hG : (⟨2, u, false, a, b, 0, 0, y * 4⟩ : Ins).Good := good2 u false a b _ (by omega) (by omega) (by omega) (by omega)
  have cE := fun w => encR_good (⟨2, u, false, a, b, 0, 0, y * 4⟩) w hG
  have HG := Lib.hid hG
  obtain ⟨x, hx⟩ : ∃ x, enc (⟨2, u, false, a, b, 0, 0, y * 4⟩) = x := ⟨_, rfl⟩
  rw [hx] at cE
  unfold Ins.val Ins.cells at cE
  simp only at cE
  have HX := Lib.hid hx
  clear hG hx hF hA hB hC hO la lb hm1 hm2
  go_enter Try.func12, Try.ntmps12
  go_wp2_with fail
  go_region
  all_goals go_wp2_with fail
  rw [WA.out]
  try rw [WB.out]
  try rw [WY.out]
  try rw [WY2.out]
  with_reducible refine (cE _).mono ?_
  rintro e w1 ⟨rfl, ho1⟩
  clear cE
  go_wp2_with fail
  go_ret
  refine ⟨_, HG.out, by rw [HX.out]; rfl, ?_⟩
  refine Only.trans ?_ ho1 (fun _ _ h => h)
  repeat with_reducible first | exact Only.refl _ _ | refine Only.alloc ?_ _ | refine Only.drew ?_ | refine Only.setCell ?_ (fun h => absurd h (Nat.not_lt.2 (Nat.le_succ _))) _

set_option maxRecDepth 20000 in
set_option maxHeartbeats 800000 in
theorem word_2ty (F A B C O : Nat) (u : Bool) (m : Int) (w : World) (hF : F < 256) (hA : A < 256) (hB : B < 256) (hC : C < 256) (hO : O < 256) (hm1 : -32768 ≤ m) (hm2 : m ≤ 32767) (h0 : bits BinOp.and IntKind.u8 (F : Int) 3 = 2) (h8 : O % 8 = 1) (hz : ((O : Int) == 0) = false) :
    Calls Try.prog 12 #[.agg #[.int .u8 F, .int .u8 A, .int .u8 B, .int .u8 C, .int .u8 O, .bool u, .bool true, .int .i16 m]] w fun e w' => ∃ i : Ins, i.Good ∧ e = .returned (.int .u32 (enc i : Nat)) ∧ Only Nil w w' := by
  obtain ⟨a, ea, la⟩ := low_u8 A 4 hA (by decide)
  rw [show ((2 ^ 4 - 1 : Nat) : Int) = 15 from rfl] at ea
  have WA := Lib.hid (w64n a (by omega))
  obtain ⟨b, eb, lb⟩ := low_u8 B 2 hB (by decide)
  rw [show ((2 ^ 2 - 1 : Nat) : Int) = 3 from rfl] at eb
  have WB := Lib.hid (w64n b (by omega))
  obtain ⟨y, hy⟩ : ∃ y : Int, m.tmod 8 = y := ⟨_, rfl⟩
  have ly : -8 ≤ y ∧ y ≤ 8 := by
    have h1 := Int.tmod_lt_of_pos m (show (0 : Int) < 8 by decide)
    have h2 := Int.lt_tmod_of_pos m (show (0 : Int) < 8 by decide)
    omega
  obtain ⟨q, eq, lq⟩ := low_i16 m 1 (by decide)
  rw [show ((2 ^ 1 - 1 : Nat) : Int) = 1 from rfl] at eq
  have WY : Hid (wrap32 (-64 + wrap32 (wrap32 (q : Int) * 4)) = -64 + (q : Int) * 4) := Lib.hid (by have lq2 : q < 2 := lq; rw [w32n (q : Int) (by omega), w32n ((q : Int) * 4) (by omega), w32n _ (by omega)])
  have WY2 : Hid (wrap32 (-64 + wrap32 ((q : Int) * 4)) = -64 + (q : Int) * 4) := Lib.hid (by have lq2 : q < 2 := lq; rw [w32n ((q : Int) * 4) (by omega), w32n _ (by omega)])
  have e8 : ((O : Int) % 8 == 1) = true := by rw [beq_iff_eq]; omega
  have hG : (⟨2, u, false, a, 0, 0, 0, -64 + (q : Int) * 4⟩ : Ins).Good := good2 u false a 0 _ (by omega) (by omega) (by omega) (by omega)
  have cE := fun w => encR_good (⟨2, u, false, a, 0, 0, 0, -64 + (q : Int) * 4⟩) w hG
  have HG := Lib.hid hG
  obtain ⟨x, hx⟩ : ∃ x, enc (⟨2, u, false, a, 0, 0, 0, -64 + (q : Int) * 4⟩) = x := ⟨_, rfl⟩
  rw [hx] at cE
  unfold Ins.val Ins.cells at cE
  simp only at cE
  have HX := Lib.hid hx
  clear hG hx hF hA hB hC hO la lb hm1 hm2 lq ly h8
  go_enter Try.func12, Try.ntmps12
  go_wp2_with fail
  go_region
  all_goals go_wp2_with fail
  go_region
  all_goals go_wp2_with fail
  rw [WA.out]
  try rw [WB.out]
  try rw [WY.out]
  try rw [WY2.out]
  with_reducible refine (cE _).mono ?_
  rintro e w1 ⟨rfl, ho1⟩
  clear cE
  go_wp2_with fail
  go_ret
  refine ⟨_, HG.out, by rw [HX.out]; rfl, ?_⟩
  refine Only.trans ?_ ho1 (fun _ _ h => h)
  repeat with_reducible first | exact Only.refl _ _ | refine Only.alloc ?_ _ | refine Only.drew ?_ | refine Only.setCell ?_ (fun h => absurd h (Nat.not_lt.2 (Nat.le_succ _))) _

set_option maxRecDepth 20000 in
set_option maxHeartbeats 800000 in
theorem word_2t0 (F A B C O : Nat) (u : Bool) (m : Int) (w : World) (hF : F < 256) (hA : A < 256) (hB : B < 256) (hC : C < 256) (hO : O < 256) (hm1 : -32768 ≤ m) (hm2 : m ≤ 32767) (h0 : bits BinOp.and IntKind.u8 (F : Int) 3 = 2) (h8 : O % 8 ≠ 1) (hz : ((O : Int) == 0) = true) :
    Calls Try.prog 12 #[.agg #[.int .u8 F, .int .u8 A, .int .u8 B, .int .u8 C, .int .u8 O, .bool u, .bool true, .int .i16 m]] w fun e w' => ∃ i : Ins, i.Good ∧ e = .returned (.int .u32 (enc i : Nat)) ∧ Only Nil w w' := by
  obtain ⟨a, ea, la⟩ := low_u8 A 4 hA (by decide)
  rw [show ((2 ^ 4 - 1 : Nat) : Int) = 15 from rfl] at ea
  have WA := Lib.hid (w64n a (by omega))
  obtain ⟨b, eb, lb⟩ := low_u8 B 2 hB (by decide)
  rw [show ((2 ^ 2 - 1 : Nat) : Int) = 3 from rfl] at eb
  have WB := Lib.hid (w64n b (by omega))
  obtain ⟨y, hy⟩ : ∃ y : Int, m.tmod 8 = y := ⟨_, rfl⟩
  have ly : -8 ≤ y ∧ y ≤ 8 := by
    have h1 := Int.tmod_lt_of_pos m (show (0 : Int) < 8 by decide)
    have h2 := Int.lt_tmod_of_pos m (show (0 : Int) < 8 by decide)
    omega
  have WY : Hid (wrap32 (wrap32 y * 4) = y * 4) := Lib.hid (by unfold wrap32; omega)
  have WY2 : Hid (wrap32 (y * 4) = y * 4) := Lib.hid (by unfold wrap32; omega)
  have e8 : ((O : Int) % 8 == 1) = false := by rw [beq_eq_false_iff_ne]; omega
  have hG : (⟨2, u, true, a, b, 0, 0, y * 4⟩ : Ins).Good := good2 u true a b _ (by omega) (by omega) (by omega) (by omega)
  have cE := fun w => encR_good (⟨2, u, true, a, b, 0, 0, y * 4⟩) w hG
  have HG := Lib.hid hG
  obtain ⟨x, hx⟩ : ∃ x, enc (⟨2, u, true, a, b, 0, 0, y * 4⟩) = x := ⟨_, rfl⟩
  rw [hx] at cE
  unfold Ins.val Ins.cells at cE
  simp only at cE
  have HX := Lib.hid hx
  clear hG hx hF hA hB hC hO la lb hm1 hm2
  go_enter Try.func12, Try.ntmps12
  go_wp2_with fail
  go_region
  all_goals go_wp2_with fail
  rw [WA.out]
  try rw [WB.out]
  try rw [WY.out]
  try rw [WY2.out]
  with_reducible refine (cE _).mono ?_
  rintro e w1 ⟨rfl, ho1⟩
  clear cE
  go_wp2_with fail
  go_ret
  refine ⟨_, HG.out, by rw [HX.out]; rfl, ?_⟩
  refine Only.trans ?_ ho1 (fun _ _ h => h)
  repeat with_reducible first | exact Only.refl _ _ | refine Only.alloc ?_ _ | refine Only.drew ?_ | refine Only.setCell ?_ (fun h => absurd h (Nat.not_lt.2 (Nat.le_succ _))) _

/-- Whatever the numbers: the word of an instruction that there is. -/
theorem word_of (F A B C O : Nat) (u v : Bool) (m : Int) (w : World) (hF : F < 256) (hA : A < 256) (hB : B < 256) (hC : C < 256) (hO : O < 256) (hm1 : -32768 ≤ m) (hm2 : m ≤ 32767) :
    Calls Try.prog 12 #[.agg #[.int .u8 F, .int .u8 A, .int .u8 B, .int .u8 C, .int .u8 O, .bool u, .bool v, .int .i16 m]] w fun e w' => ∃ i : Ins, i.Good ∧ e = .returned (.int .u32 (enc i : Nat)) ∧ Only Nil w w' := by
  obtain ⟨f, ef, lf⟩ := low_u8 F 2 hF (by decide)
  rw [show ((2 ^ 2 - 1 : Nat) : Int) = 3 from rfl] at ef
  rcases (show f = 0 ∨ f = 1 ∨ f = 2 ∨ f = 3 by omega) with rfl | rfl | rfl | rfl
  · exact word_0 F A B C O u v m w hF hA hB hC hO hm1 hm2 ef
  · by_cases hm : 0 < m
    · exact word_1a F A B C O u v m w hF hA hB hC hO hm1 hm2 ef hm
    · exact word_1b F A B C O u v m w hF hA hB hC hO hm1 hm2 ef (by omega)
  · by_cases h8 : O % 8 = 1
    · cases v
      · exact word_2fy F A B C O u m w hF hA hB hC hO hm1 hm2 ef h8
      · exact word_2ty F A B C O u m w hF hA hB hC hO hm1 hm2 ef h8 (by rw [beq_eq_false_iff_ne]; omega)
    · cases v
      · exact word_2fn F A B C O u m w hF hA hB hC hO hm1 hm2 ef h8
      · by_cases hz : O = 0
        · exact word_2t0 F A B C O u m w hF hA hB hC hO hm1 hm2 ef h8 (by rw [beq_iff_eq]; omega)
        · exact word_2tn F A B C O u m w hF hA hB hC hO hm1 hm2 ef h8 (by rw [beq_eq_false_iff_ne]; omega)
  · cases u
    · exact word_3a F A B C O v m w hF hA hB hC hO hm1 hm2 ef
    · exact word_3b F A B C O v m w hF hA hB hC hO hm1 hm2 ef
end Go.Proofs.Ythimhbfglgnohaa
