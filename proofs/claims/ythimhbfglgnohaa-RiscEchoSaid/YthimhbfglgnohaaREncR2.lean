/- The document's Encode, of instructions of one kind. -/
import Derived.Test.YthimhbfglgnohaaREncR
namespace Go.Proofs.Ythimhbfglgnohaa
open Go.RowKit M

set_option maxRecDepth 100000 in
set_option maxHeartbeats 1600000 in
theorem encR_2 (u v : Bool) (a b : Nat) (m : Int) (w : World) (ha : a < 16) (hb : b < 16) (hm1 : -524288 ≤ m) (hm2 : m ≤ 524287) :
    Calls Try.prog 23 #[(Ins.mk 2 u v a b 0 0 m).val] w fun e w' => e = .returned (.tuple #[.int .u32 ((enc (Ins.mk 2 u v a b 0 0 m) : Nat) : Int), .bool true]) ∧ Only Nil w w' := by
  unfold Ins.val Ins.cells
  have i1 := inB_yes (n := 2) (a := 0) (b := 3) (by omega)
  have i2 := inB_yes (n := (a : Int)) (a := 0) (b := 15) (by omega)
  have i3 := inB_yes (n := (b : Int)) (a := 0) (b := 15) (by omega)
  have i6 := inB_yes (n := m) (a := -524288) (b := 524287) (by omega)
  have hu1 := b2_le u
  have hv1 := b2_le v
  have hen : enc (Ins.mk 2 u v a b 0 0 m) = 2147483648 + b2 u * 536870912 + b2 v * 268435456 + a * 16777216 + (b * 1048576 + (m % 1048576).toNat) := by
    exact put_var 2 _ _ _ _ _ _ (by decide) (by unfold enc; rw [tail_2 rfl]; rfl)
  obtain ⟨y, hy⟩ : ∃ y, (m % 1048576).toNat = y := ⟨_, rfl⟩
  have hy2 : y < 1048576 := by omega
  have bm : bits BinOp.and IntKind.u32 (m % 4294967296) 1048575 = (y : Int) := by
    have h := and_low (v := (m % 4294967296).toNat) (k := 20) (n := y) (K := 1048575) (by omega) rfl (by decide) (by omega)
    rw [show (((m % 4294967296).toNat : Nat) : Int) = m % 4294967296 by omega] at h
    exact h
  rw [hy] at hen
  obtain ⟨x0, hx0⟩ : ∃ x, 2147483648 + b2 u * 536870912 = x := ⟨_, rfl⟩
  have e0 : bits BinOp.or IntKind.u32 (2147483648 : Int) ((b2 u : Int) * 536870912) = (x0 : Int) := or_sum (x := 2147483648) 30 (by omega) (by omega) (by omega) hx0 (by omega)
  obtain ⟨x1, hx1⟩ : ∃ x, x0 + b2 v * 268435456 = x := ⟨_, rfl⟩
  have e1 : bits BinOp.or IntKind.u32 (x0 : Int) ((b2 v : Int) * 268435456) = (x1 : Int) := or_sum (x := x0) 29 (by omega) (by omega) (by omega) hx1 (by omega)
  obtain ⟨x2, hx2⟩ : ∃ x, x1 + a * 16777216 = x := ⟨_, rfl⟩
  have e2 : bits BinOp.or IntKind.u32 (x1 : Int) ((a : Int) * 16777216) = (x2 : Int) := or_sum (x := x1) 28 (by omega) (by omega) (by omega) hx2 (by omega)
  obtain ⟨x3, hx3⟩ : ∃ x, x2 + b * 1048576 = x := ⟨_, rfl⟩
  have e3 : bits BinOp.or IntKind.u32 (x2 : Int) ((b : Int) * 1048576) = (x3 : Int) := or_sum (x := x2) 24 (by omega) (by omega) (by omega) hx3 (by omega)
  obtain ⟨x4, hx4⟩ : ∃ x, x3 + y = x := ⟨_, rfl⟩
  have e4 : bits BinOp.or IntKind.u32 (x3 : Int) ((y : Int)) = (x4 : Int) := or_sum (x := x3) 20 (by omega) (by omega) (by omega) hx4 (by omega)
  have HE : enc (Ins.mk 2 u v a b 0 0 m) = x4 := by omega
  rw [HE]
  clear hen HE hx0 hx1 hx2 hx3 hx4 hy
  go_enter Try.func23, Try.ntmps23
  go_wp2_with (go_at_call 38; refine (in_any _ _ _ _).mono ?_; rintro e w1 ⟨rfl, rfl⟩)
  go_quiet ((go_at_call 39; exact Calls.quiet_of_same (bit_q _ _)))
  go_wp2_with (go_at_call 38; refine (in_any _ _ _ _).mono ?_; rintro e w1 ⟨rfl, rfl⟩)
  go_quiet ((go_at_call 38; exact quiet_add_same (in_q _ _ _ _)))
  go_wp2_with (go_at_call 38; refine (in_any _ _ _ _).mono ?_; rintro e w1 ⟨rfl, rfl⟩)
  go_ret2
  exact ⟨rfl, by (repeat with_reducible first | exact Only.refl _ _ | refine Only.alloc ?_ _ | refine Only.drewN ?_ _ | refine Only.setNew ?_ (by simp) _)⟩
end Go.Proofs.Ythimhbfglgnohaa
