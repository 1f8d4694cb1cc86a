/- The document's Encode, of instructions of one kind. -/
import Derived.Test.YthimhbfglgnohaaREncR
namespace Go.Proofs.Ythimhbfglgnohaa
open Go.RowKit M

set_option maxRecDepth 100000 in
set_option maxHeartbeats 1600000 in
theorem encR_1 (u v : Bool) (a b o m : Nat) (w : World) (ha : a < 16) (hb : b < 16) (ho : o < 16) (hm : m < 65536) :
    Calls Try.prog 23 #[(Ins.mk 1 u v a b 0 o m).val] w fun e w' => e = .returned (.tuple #[.int .u32 ((enc (Ins.mk 1 u v a b 0 o m) : Nat) : Int), .bool true]) ∧ Only Nil w w' := by
  unfold Ins.val Ins.cells
  have i1 := inB_yes (n := 1) (a := 0) (b := 3) (by omega)
  have i2 := inB_yes (n := (a : Int)) (a := 0) (b := 15) (by omega)
  have i3 := inB_yes (n := (b : Int)) (a := 0) (b := 15) (by omega)
  have i4 := inB_yes (n := (o : Int)) (a := 0) (b := 15) (by omega)
  have i6 := inB_yes (n := (m : Int)) (a := 0) (b := 65535) (by omega)
  have hu1 := b2_le u
  have hv1 := b2_le v
  have hen : enc (Ins.mk 1 u v a b 0 o m) = 1073741824 + b2 u * 536870912 + b2 v * 268435456 + a * 16777216 + (b * 1048576 + o * 65536 + m) := by
    exact put_var 1 _ _ _ _ _ _ (by decide) (by unfold enc; rw [tail_1 rfl]; rfl)
  have bm : bits BinOp.and IntKind.u32 (m : Int) 65535 = (m : Int) := and_low (k := 16) (by omega) rfl (by decide) (by omega)
  obtain ⟨x0, hx0⟩ : ∃ x, 1073741824 + b2 u * 536870912 = x := ⟨_, rfl⟩
  have e0 : bits BinOp.or IntKind.u32 (1073741824 : Int) ((b2 u : Int) * 536870912) = (x0 : Int) := or_sum (x := 1073741824) 30 (by omega) (by omega) (by omega) hx0 (by omega)
  obtain ⟨x1, hx1⟩ : ∃ x, x0 + b2 v * 268435456 = x := ⟨_, rfl⟩
  have e1 : bits BinOp.or IntKind.u32 (x0 : Int) ((b2 v : Int) * 268435456) = (x1 : Int) := or_sum (x := x0) 29 (by omega) (by omega) (by omega) hx1 (by omega)
  obtain ⟨x2, hx2⟩ : ∃ x, x1 + a * 16777216 = x := ⟨_, rfl⟩
  have e2 : bits BinOp.or IntKind.u32 (x1 : Int) ((a : Int) * 16777216) = (x2 : Int) := or_sum (x := x1) 28 (by omega) (by omega) (by omega) hx2 (by omega)
  obtain ⟨x3, hx3⟩ : ∃ x, x2 + b * 1048576 = x := ⟨_, rfl⟩
  have e3 : bits BinOp.or IntKind.u32 (x2 : Int) ((b : Int) * 1048576) = (x3 : Int) := or_sum (x := x2) 24 (by omega) (by omega) (by omega) hx3 (by omega)
  obtain ⟨x4, hx4⟩ : ∃ x, x3 + o * 65536 = x := ⟨_, rfl⟩
  have e4 : bits BinOp.or IntKind.u32 (x3 : Int) ((o : Int) * 65536) = (x4 : Int) := or_sum (x := x3) 20 (by omega) (by omega) (by omega) hx4 (by omega)
  obtain ⟨x5, hx5⟩ : ∃ x, x4 + m = x := ⟨_, rfl⟩
  have e5 : bits BinOp.or IntKind.u32 (x4 : Int) ((m : Int)) = (x5 : Int) := or_sum (x := x4) 16 (by omega) (by omega) (by omega) hx5 (by omega)
  have HE : enc (Ins.mk 1 u v a b 0 o m) = x5 := by omega
  rw [HE]
  clear hen HE hx0 hx1 hx2 hx3 hx4 hx5
  go_enter Try.func23, Try.ntmps23
  go_wp2_with (go_at_call 38; refine (in_any _ _ _ _).mono ?_; rintro e w1 ⟨rfl, rfl⟩)
  go_quiet ((go_at_call 39; exact Calls.quiet_of_same (bit_q _ _)))
  go_wp2_with (go_at_call 38; refine (in_any _ _ _ _).mono ?_; rintro e w1 ⟨rfl, rfl⟩)
  go_quiet ((go_at_call 38; exact quiet_add_same (in_q _ _ _ _)))
  go_wp2_with (go_at_call 38; refine (in_any _ _ _ _).mono ?_; rintro e w1 ⟨rfl, rfl⟩)
  go_ret2
  exact ⟨rfl, by (repeat with_reducible first | exact Only.refl _ _ | refine Only.alloc ?_ _ | refine Only.drewN ?_ _ | refine Only.setNew ?_ (by simp) _)⟩
end Go.Proofs.Ythimhbfglgnohaa
