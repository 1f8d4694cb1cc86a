/- The document's Encode, of instructions of one kind. -/
import Derived.Test.YthimhbfglgnohaaREncR
set_option linter.unusedSimpArgs false
set_option linter.unusedVariables false
namespace Go.Proofs.Ythimhbfglgnohaa
open Go.RowKit M

set_option maxRecDepth 100000 in
set_option maxHeartbeats 1600000 in
theorem encR_0 (u v : Bool) (a b c o : Nat) (w : World) (ha : a < 16) (hb : b < 16) (hc : c < 16) (ho : o < 16) :
    Calls Try.prog 23 #[(Ins.mk 0 u v a b c o 0).val] w fun e w' => e = .returned (.tuple #[.int .u32 ((enc (Ins.mk 0 u v a b c o 0) : Nat) : Int), .bool true]) ∧ Only Nil w w' := by
  unfold Ins.val Ins.cells
  have i1 := inB_yes (n := 0) (a := 0) (b := 3) (by omega)
  have i2 := inB_yes (n := (a : Int)) (a := 0) (b := 15) (by omega)
  have i3 := inB_yes (n := (b : Int)) (a := 0) (b := 15) (by omega)
  have i4 := inB_yes (n := (o : Int)) (a := 0) (b := 15) (by omega)
  have i5 := inB_yes (n := (c : Int)) (a := 0) (b := 15) (by omega)
  have hu1 := b2_le u
  have hv1 := b2_le v
  have hen : enc (Ins.mk 0 u v a b c o 0) = 0 + b2 u * 536870912 + b2 v * 268435456 + a * 16777216 + (b * 1048576 + o * 65536 + c) := by
    exact put_var 0 _ _ _ _ _ _ (by decide) (by unfold enc; rw [tail_0 rfl]; rfl)
  have bm : bits BinOp.and IntKind.u32 (IntKind.u32.wrap (c : Int)) 15 = (c : Int) := by rw [wrap_u32, Nat.mod_eq_of_lt (by omega)]; exact and_low (k := 4) (by omega) rfl (by decide) (by omega)
  obtain ⟨x0, hx0⟩ : ∃ x, 0 + b2 u * 536870912 = x := ⟨_, rfl⟩
  have e0 : bits BinOp.or IntKind.u32 (0 : Int) ((b2 u : Int) * 536870912) = (x0 : Int) := or_sum (x := 0) 30 (by omega) (by omega) (by omega) hx0 (by omega)
  obtain ⟨x1, hx1⟩ : ∃ x, x0 + b2 v * 268435456 = x := ⟨_, rfl⟩
  have e1 : bits BinOp.or IntKind.u32 (x0 : Int) ((b2 v : Int) * 268435456) = (x1 : Int) := or_sum (x := x0) 29 (by omega) (by omega) (by omega) hx1 (by omega)
  obtain ⟨x2, hx2⟩ : ∃ x, x1 + a * 16777216 = x := ⟨_, rfl⟩
  have e2 : bits BinOp.or IntKind.u32 (x1 : Int) ((a : Int) * 16777216) = (x2 : Int) := or_sum (x := x1) 28 (by omega) (by omega) (by omega) hx2 (by omega)
  obtain ⟨x3, hx3⟩ : ∃ x, x2 + b * 1048576 = x := ⟨_, rfl⟩
  have e3 : bits BinOp.or IntKind.u32 (x2 : Int) ((b : Int) * 1048576) = (x3 : Int) := or_sum (x := x2) 24 (by omega) (by omega) (by omega) hx3 (by omega)
  obtain ⟨x4, hx4⟩ : ∃ x, x3 + o * 65536 = x := ⟨_, rfl⟩
  have e4 : bits BinOp.or IntKind.u32 (x3 : Int) ((o : Int) * 65536) = (x4 : Int) := or_sum (x := x3) 20 (by omega) (by omega) (by omega) hx4 (by omega)
  obtain ⟨x5, hx5⟩ : ∃ x, x4 + c = x := ⟨_, rfl⟩
  have e5 : bits BinOp.or IntKind.u32 (x4 : Int) ((c : Int)) = (x5 : Int) := or_sum (x := x4) 16 (by omega) (by omega) (by omega) hx5 (by omega)
  have HE : enc (Ins.mk 0 u v a b c o 0) = x5 := by omega
  rw [HE]
  clear hen HE hx0 hx1 hx2 hx3 hx4 hx5
  go_enter Try.func23, Try.ntmps23
  go_wp2_with (go_at_call 38; refine (in_any _ _ _ _).mono ?_; rintro e w1 ⟨rfl, rfl⟩)
  go_quiet ((go_at_call 39; exact Calls.quiet_of_same (bit_q _ _)))
  go_wp2_with (go_at_call 38; refine (in_any _ _ _ _).mono ?_; rintro e w1 ⟨rfl, rfl⟩)
  go_quiet ((go_at_call 38; exact quiet_add_same (in_q _ _ _ _)))
  go_wp2_with (go_at_call 38; refine (in_any _ _ _ _).mono ?_; rintro e w1 ⟨rfl, rfl⟩)
  go_ret2
  exact ⟨rfl, by (repeat with_reducible first | exact Only.refl _ _ | refine Only.alloc ?_ _ | refine Only.drewN ?_ _ | refine Only.setNew ?_ (by simp) _)⟩
end Go.Proofs.Ythimhbfglgnohaa

/- The document's Encode, of instructions of one kind. -/
namespace Go.Proofs.Ythimhbfglgnohaa
open Go.RowKit M

set_option maxRecDepth 100000 in
set_option maxHeartbeats 1600000 in
theorem encR_1 (u v : Bool) (a b o m : Nat) (w : World) (ha : a < 16) (hb : b < 16) (ho : o < 16) (hm : m < 65536) :
    Calls Try.prog 23 #[(Ins.mk 1 u v a b 0 o m).val] w fun e w' => e = .returned (.tuple #[.int .u32 ((enc (Ins.mk 1 u v a b 0 o m) : Nat) : Int), .bool true]) ∧ Only Nil w w' := by
  unfold Ins.val Ins.cells
  have i1 := inB_yes (n := 1) (a := 0) (b := 3) (by omega)
  have i2 := inB_yes (n := (a : Int)) (a := 0) (b := 15) (by omega)
  have i3 := inB_yes (n := (b : Int)) (a := 0) (b := 15) (by omega)
  have i4 := inB_yes (n := (o : Int)) (a := 0) (b := 15) (by omega)
  have i6 := inB_yes (n := (m : Int)) (a := 0) (b := 65535) (by omega)
  have hu1 := b2_le u
  have hv1 := b2_le v
  have hen : enc (Ins.mk 1 u v a b 0 o m) = 1073741824 + b2 u * 536870912 + b2 v * 268435456 + a * 16777216 + (b * 1048576 + o * 65536 + m) := by
    exact put_var 1 _ _ _ _ _ _ (by decide) (by unfold enc; rw [tail_1 rfl]; rfl)
  have bm : bits BinOp.and IntKind.u32 (m : Int) 65535 = (m : Int) := and_low (k := 16) (by omega) rfl (by decide) (by omega)
  obtain ⟨x0, hx0⟩ : ∃ x, 1073741824 + b2 u * 536870912 = x := ⟨_, rfl⟩
  have e0 : bits BinOp.or IntKind.u32 (1073741824 : Int) ((b2 u : Int) * 536870912) = (x0 : Int) := or_sum (x := 1073741824) 30 (by omega) (by omega) (by omega) hx0 (by omega)
  obtain ⟨x1, hx1⟩ : ∃ x, x0 + b2 v * 268435456 = x := ⟨_, rfl⟩
  have e1 : bits BinOp.or IntKind.u32 (x0 : Int) ((b2 v : Int) * 268435456) = (x1 : Int) := or_sum (x := x0) 29 (by omega) (by omega) (by omega) hx1 (by omega)
  obtain ⟨x2, hx2⟩ : ∃ x, x1 + a * 16777216 = x := ⟨_, rfl⟩
  have e2 : bits BinOp.or IntKind.u32 (x1 : Int) ((a : Int) * 16777216) = (x2 : Int) := or_sum (x := x1) 28 (by omega) (by omega) (by omega) hx2 (by omega)
  obtain ⟨x3, hx3⟩ : ∃ x, x2 + b * 1048576 = x := ⟨_, rfl⟩
  have e3 : bits BinOp.or IntKind.u32 (x2 : Int) ((b : Int) * 1048576) = (x3 : Int) := or_sum (x := x2) 24 (by omega) (by omega) (by omega) hx3 (by omega)
  obtain ⟨x4, hx4⟩ : ∃ x, x3 + o * 65536 = x := ⟨_, rfl⟩
  have e4 : bits BinOp.or IntKind.u32 (x3 : Int) ((o : Int) * 65536) = (x4 : Int) := or_sum (x := x3) 20 (by omega) (by omega) (by omega) hx4 (by omega)
  obtain ⟨x5, hx5⟩ : ∃ x, x4 + m = x := ⟨_, rfl⟩
  have e5 : bits BinOp.or IntKind.u32 (x4 : Int) ((m : Int)) = (x5 : Int) := or_sum (x := x4) 16 (by omega) (by omega) (by omega) hx5 (by omega)
  have HE : enc (Ins.mk 1 u v a b 0 o m) = x5 := by omega
  rw [HE]
  clear hen HE hx0 hx1 hx2 hx3 hx4 hx5
  go_enter Try.func23, Try.ntmps23
  go_wp2_with (go_at_call 38; refine (in_any _ _ _ _).mono ?_; rintro e w1 ⟨rfl, rfl⟩)
  go_quiet ((go_at_call 39; exact Calls.quiet_of_same (bit_q _ _)))
  go_wp2_with (go_at_call 38; refine (in_any _ _ _ _).mono ?_; rintro e w1 ⟨rfl, rfl⟩)
  go_quiet ((go_at_call 38; exact quiet_add_same (in_q _ _ _ _)))
  go_wp2_with (go_at_call 38; refine (in_any _ _ _ _).mono ?_; rintro e w1 ⟨rfl, rfl⟩)
  go_ret2
  exact ⟨rfl, by (repeat with_reducible first | exact Only.refl _ _ | refine Only.alloc ?_ _ | refine Only.drewN ?_ _ | refine Only.setNew ?_ (by simp) _)⟩
end Go.Proofs.Ythimhbfglgnohaa

/- The document's Encode, of instructions of one kind. -/
namespace Go.Proofs.Ythimhbfglgnohaa
open Go.RowKit M

set_option maxRecDepth 100000 in
set_option maxHeartbeats 1600000 in
theorem encR_2 (u v : Bool) (a b : Nat) (m : Int) (w : World) (ha : a < 16) (hb : b < 16) (hm1 : -524288 ≤ m) (hm2 : m ≤ 524287) :
    Calls Try.prog 23 #[(Ins.mk 2 u v a b 0 0 m).val] w fun e w' => e = .returned (.tuple #[.int .u32 ((enc (Ins.mk 2 u v a b 0 0 m) : Nat) : Int), .bool true]) ∧ Only Nil w w' := by
  unfold Ins.val Ins.cells
  have i1 := inB_yes (n := 2) (a := 0) (b := 3) (by omega)
  have i2 := inB_yes (n := (a : Int)) (a := 0) (b := 15) (by omega)
  have i3 := inB_yes (n := (b : Int)) (a := 0) (b := 15) (by omega)
  have i6 := inB_yes (n := m) (a := -524288) (b := 524287) (by omega)
  have hu1 := b2_le u
  have hv1 := b2_le v
  have hen : enc (Ins.mk 2 u v a b 0 0 m) = 2147483648 + b2 u * 536870912 + b2 v * 268435456 + a * 16777216 + (b * 1048576 + (m % 1048576).toNat) := by
    exact put_var 2 _ _ _ _ _ _ (by decide) (by unfold enc; rw [tail_2 rfl]; rfl)
  obtain ⟨y, hy⟩ : ∃ y, (m % 1048576).toNat = y := ⟨_, rfl⟩
  have hy2 : y < 1048576 := by omega
  have bm : bits BinOp.and IntKind.u32 (m % 4294967296) 1048575 = (y : Int) := by
    have h := and_low (v := (m % 4294967296).toNat) (k := 20) (n := y) (K := 1048575) (by omega) rfl (by decide) (by omega)
    rw [show (((m % 4294967296).toNat : Nat) : Int) = m % 4294967296 by omega] at h
    exact h
  rw [hy] at hen
  obtain ⟨x0, hx0⟩ : ∃ x, 2147483648 + b2 u * 536870912 = x := ⟨_, rfl⟩
  have e0 : bits BinOp.or IntKind.u32 (2147483648 : Int) ((b2 u : Int) * 536870912) = (x0 : Int) := or_sum (x := 2147483648) 30 (by omega) (by omega) (by omega) hx0 (by omega)
  obtain ⟨x1, hx1⟩ : ∃ x, x0 + b2 v * 268435456 = x := ⟨_, rfl⟩
  have e1 : bits BinOp.or IntKind.u32 (x0 : Int) ((b2 v : Int) * 268435456) = (x1 : Int) := or_sum (x := x0) 29 (by omega) (by omega) (by omega) hx1 (by omega)
  obtain ⟨x2, hx2⟩ : ∃ x, x1 + a * 16777216 = x := ⟨_, rfl⟩
  have e2 : bits BinOp.or IntKind.u32 (x1 : Int) ((a : Int) * 16777216) = (x2 : Int) := or_sum (x := x1) 28 (by omega) (by omega) (by omega) hx2 (by omega)
  obtain ⟨x3, hx3⟩ : ∃ x, x2 + b * 1048576 = x := ⟨_, rfl⟩
  have e3 : bits BinOp.or IntKind.u32 (x2 : Int) ((b : Int) * 1048576) = (x3 : Int) := or_sum (x := x2) 24 (by omega) (by omega) (by omega) hx3 (by omega)
  obtain ⟨x4, hx4⟩ : ∃ x, x3 + y = x := ⟨_, rfl⟩
  have e4 : bits BinOp.or IntKind.u32 (x3 : Int) ((y : Int)) = (x4 : Int) := or_sum (x := x3) 20 (by omega) (by omega) (by omega) hx4 (by omega)
  have HE : enc (Ins.mk 2 u v a b 0 0 m) = x4 := by omega
  rw [HE]
  clear hen HE hx0 hx1 hx2 hx3 hx4 hy
  go_enter Try.func23, Try.ntmps23
  go_wp2_with (go_at_call 38; refine (in_any _ _ _ _).mono ?_; rintro e w1 ⟨rfl, rfl⟩)
  go_quiet ((go_at_call 39; exact Calls.quiet_of_same (bit_q _ _)))
  go_wp2_with (go_at_call 38; refine (in_any _ _ _ _).mono ?_; rintro e w1 ⟨rfl, rfl⟩)
  go_quiet ((go_at_call 38; exact quiet_add_same (in_q _ _ _ _)))
  go_wp2_with (go_at_call 38; refine (in_any _ _ _ _).mono ?_; rintro e w1 ⟨rfl, rfl⟩)
  go_ret2
  exact ⟨rfl, by (repeat with_reducible first | exact Only.refl _ _ | refine Only.alloc ?_ _ | refine Only.drewN ?_ _ | refine Only.setNew ?_ (by simp) _)⟩
end Go.Proofs.Ythimhbfglgnohaa

/- The document's Encode, of instructions of one kind. -/
namespace Go.Proofs.Ythimhbfglgnohaa
open Go.RowKit M

set_option maxRecDepth 100000 in
set_option maxHeartbeats 1600000 in
theorem encR_3 (v : Bool) (a : Nat) (m : Int) (w : World) (ha : a < 16) (hm1 : -8388608 ≤ m) (hm2 : m ≤ 8388607) :
    Calls Try.prog 23 #[(Ins.mk 3 true v a 0 0 0 m).val] w fun e w' => e = .returned (.tuple #[.int .u32 ((enc (Ins.mk 3 true v a 0 0 0 m) : Nat) : Int), .bool true]) ∧ Only Nil w w' := by
  unfold Ins.val Ins.cells
  have i1 := inB_yes (n := 3) (a := 0) (b := 3) (by omega)
  have i2 := inB_yes (n := (a : Int)) (a := 0) (b := 15) (by omega)
  have i6 := inB_yes (n := m) (a := -8388608) (b := 8388607) (by omega)
  have hv1 := b2_le v
  have hen : enc (Ins.mk 3 true v a 0 0 0 m) = 3758096384 + b2 v * 268435456 + a * 16777216 + (m % 16777216).toNat := by
    exact put_lit 3 true _ _ _ _ _ (by decide) (by unfold enc; rw [tail_3 rfl rfl]; rfl)
  obtain ⟨y, hy⟩ : ∃ y, (m % 16777216).toNat = y := ⟨_, rfl⟩
  have hy2 : y < 16777216 := by omega
  have bm : bits BinOp.and IntKind.u32 (m % 4294967296) 16777215 = (y : Int) := by
    have h := and_low (v := (m % 4294967296).toNat) (k := 24) (n := y) (K := 16777215) (by omega) rfl (by decide) (by omega)
    rw [show (((m % 4294967296).toNat : Nat) : Int) = m % 4294967296 by omega] at h
    exact h
  rw [hy] at hen
  have e0 : bits BinOp.or IntKind.u32 3221225472 536870912 = 3758096384 := or_sum (x := 3221225472) 30 (by decide) (y := 536870912) (by decide) rfl rfl (by decide)
  obtain ⟨x1, hx1⟩ : ∃ x, 3758096384 + b2 v * 268435456 = x := ⟨_, rfl⟩
  have e1 : bits BinOp.or IntKind.u32 3758096384 ((b2 v : Int) * 268435456) = (x1 : Int) := or_sum (x := 3758096384) 29 (by omega) (by omega) (by omega) hx1 (by omega)
  obtain ⟨x2, hx2⟩ : ∃ x, x1 + a * 16777216 = x := ⟨_, rfl⟩
  have e2 : bits BinOp.or IntKind.u32 (x1 : Int) ((a : Int) * 16777216) = (x2 : Int) := or_sum (x := x1) 28 (by omega) (by omega) (by omega) hx2 (by omega)
  obtain ⟨x3, hx3⟩ : ∃ x, x2 + y = x := ⟨_, rfl⟩
  have e3 : bits BinOp.or IntKind.u32 (x2 : Int) ((y : Int)) = (x3 : Int) := or_sum (x := x2) 24 (by omega) (by omega) (by omega) hx3 (by omega)
  have HE : enc (Ins.mk 3 true v a 0 0 0 m) = x3 := by omega
  rw [HE]
  clear hen HE hx1 hx2 hx3 hy
  go_enter Try.func23, Try.ntmps23
  go_wp2_with (go_at_call 38; refine (in_any _ _ _ _).mono ?_; rintro e w1 ⟨rfl, rfl⟩)
  go_quiet ((first | (go_at_call 39; exact Calls.quiet_of_same (bit_t _)) | (go_at_call 39; exact Calls.quiet_of_same (bit_q v _))))
  go_wp2_with (go_at_call 38; refine (in_any _ _ _ _).mono ?_; rintro e w1 ⟨rfl, rfl⟩)
  go_quiet ((go_at_call 38; exact quiet_add_same (in_q _ _ _ _)))
  go_wp2_with (go_at_call 38; refine (in_any _ _ _ _).mono ?_; rintro e w1 ⟨rfl, rfl⟩)
  go_ret2
  exact ⟨rfl, by (repeat with_reducible first | exact Only.refl _ _ | refine Only.alloc ?_ _ | refine Only.drewN ?_ _ | refine Only.setNew ?_ (by simp) _)⟩
end Go.Proofs.Ythimhbfglgnohaa

/- The document's Encode, of instructions of one kind. -/
namespace Go.Proofs.Ythimhbfglgnohaa
open Go.RowKit M

set_option maxRecDepth 100000 in
set_option maxHeartbeats 1600000 in
theorem encR_4 (v : Bool) (a c m : Nat) (w : World) (ha : a < 16) (hc : c < 16) (hm : m < 16) :
    Calls Try.prog 23 #[(Ins.mk 3 false v a 0 c 0 m).val] w fun e w' => e = .returned (.tuple #[.int .u32 ((enc (Ins.mk 3 false v a 0 c 0 m) : Nat) : Int), .bool true]) ∧ Only Nil w w' := by
  unfold Ins.val Ins.cells
  have i1 := inB_yes (n := 3) (a := 0) (b := 3) (by omega)
  have i2 := inB_yes (n := (a : Int)) (a := 0) (b := 15) (by omega)
  have i5 := inB_yes (n := (c : Int)) (a := 0) (b := 15) (by omega)
  have i6 := inB_yes (n := (m : Int)) (a := 0) (b := 15) (by omega)
  have hv1 := b2_le v
  have hen : enc (Ins.mk 3 false v a 0 c 0 m) = 3221225472 + b2 v * 268435456 + a * 16777216 + (m * 16 + c) := by
    exact put_lit 3 false _ _ _ _ _ (by decide) (by unfold enc; rw [tail_4 rfl rfl]; rfl)
  have bm : bits BinOp.and IntKind.u32 (m : Int) 15 = (m : Int) := and_low (k := 4) (by omega) rfl (by decide) (by omega)
  have bn' : bits BinOp.and IntKind.u32 (c : Int) 15 = (c : Int) := and_low (k := 4) (by omega) rfl (by decide) (by omega)
  have bn : bits BinOp.and IntKind.u32 (IntKind.u32.wrap (c : Int)) 15 = (c : Int) := by rw [wrap_u32, Nat.mod_eq_of_lt (by omega)]; exact and_low (k := 4) (by omega) rfl (by decide) (by omega)
  have e0 : bits BinOp.or IntKind.u32 3221225472 0 = 3221225472 := or_sum (x := 3221225472) 30 (by decide) (y := 0) (by decide) rfl rfl (by decide)
  obtain ⟨x1, hx1⟩ : ∃ x, 3221225472 + b2 v * 268435456 = x := ⟨_, rfl⟩
  have e1 : bits BinOp.or IntKind.u32 3221225472 ((b2 v : Int) * 268435456) = (x1 : Int) := or_sum (x := 3221225472) 29 (by omega) (by omega) (by omega) hx1 (by omega)
  obtain ⟨x2, hx2⟩ : ∃ x, x1 + a * 16777216 = x := ⟨_, rfl⟩
  have e2 : bits BinOp.or IntKind.u32 (x1 : Int) ((a : Int) * 16777216) = (x2 : Int) := or_sum (x := x1) 28 (by omega) (by omega) (by omega) hx2 (by omega)
  obtain ⟨x3, hx3⟩ : ∃ x, x2 + m * 16 = x := ⟨_, rfl⟩
  have e3 : bits BinOp.or IntKind.u32 (x2 : Int) ((m : Int) * 16) = (x3 : Int) := or_sum (x := x2) 24 (by omega) (by omega) (by omega) hx3 (by omega)
  obtain ⟨x4, hx4⟩ : ∃ x, x3 + c = x := ⟨_, rfl⟩
  have e4 : bits BinOp.or IntKind.u32 (x3 : Int) ((c : Int)) = (x4 : Int) := or_sum (x := x3) 4 (by omega) (by omega) (by omega) hx4 (by omega)
  have HE : enc (Ins.mk 3 false v a 0 c 0 m) = x4 := by omega
  rw [HE]
  clear hen HE hx1 hx2 hx3 hx4
  go_enter Try.func23, Try.ntmps23
  go_wp2_with (go_at_call 38; refine (in_any _ _ _ _).mono ?_; rintro e w1 ⟨rfl, rfl⟩)
  go_quiet ((first | (go_at_call 39; exact Calls.quiet_of_same (bit_f _)) | (go_at_call 39; exact Calls.quiet_of_same (bit_q v _))))
  go_wp2_with (go_at_call 38; refine (in_any _ _ _ _).mono ?_; rintro e w1 ⟨rfl, rfl⟩)
  go_quiet ((go_at_call 38; exact quiet_add_same (in_q _ _ _ _)))
  go_wp2_with (go_at_call 38; refine (in_any _ _ _ _).mono ?_; rintro e w1 ⟨rfl, rfl⟩)
  go_ret2
  exact ⟨rfl, by (repeat with_reducible first | exact Only.refl _ _ | refine Only.alloc ?_ _ | refine Only.drewN ?_ _ | refine Only.setNew ?_ (by simp) _)⟩
end Go.Proofs.Ythimhbfglgnohaa

