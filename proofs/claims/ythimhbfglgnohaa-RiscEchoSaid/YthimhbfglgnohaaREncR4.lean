/- The document's Encode, of instructions of one kind. -/
import Derived.Test.YthimhbfglgnohaaREncR
namespace Go.Proofs.Ythimhbfglgnohaa
open Go.RowKit M

set_option maxRecDepth 100000 in
set_option maxHeartbeats 1600000 in
theorem encR_4 (v : Bool) (a c m : Nat) (w : World) (ha : a < 16) (hc : c < 16) (hm : m < 16) :
    Calls Try.prog 23 #[(Ins.mk 3 false v a 0 c 0 m).val] w fun e w' => e = .returned (.tuple #[.int .u32 ((enc (Ins.mk 3 false v a 0 c 0 m) : Nat) : Int), .bool true]) ∧ Only Nil w w' := by
  unfold Ins.val Ins.cells
  have i1 := inB_yes (n := 3) (a := 0) (b := 3) (by omega)
  have i2 := inB_yes (n := (a : Int)) (a := 0) (b := 15) (by omega)
  have i5 := inB_yes (n := (c : Int)) (a := 0) (b := 15) (by omega)
  have i6 := inB_yes (n := (m : Int)) (a := 0) (b := 15) (by omega)
  have hv1 := b2_le v
  have hen : enc (Ins.mk 3 false v a 0 c 0 m) = 3221225472 + b2 v * 268435456 + a * 16777216 + (m * 16 + c) := by
    exact put_lit 3 false _ _ _ _ _ (by decide) (by unfold enc; rw [tail_4 rfl rfl]; rfl)
  have bm : bits BinOp.and IntKind.u32 (m : Int) 15 = (m : Int) := and_low (k := 4) (by omega) rfl (by decide) (by omega)
  have bn' : bits BinOp.and IntKind.u32 (c : Int) 15 = (c : Int) := and_low (k := 4) (by omega) rfl (by decide) (by omega)
  have bn : bits BinOp.and IntKind.u32 (IntKind.u32.wrap (c : Int)) 15 = (c : Int) := by rw [wrap_u32, Nat.mod_eq_of_lt (by omega)]; exact and_low (k := 4) (by omega) rfl (by decide) (by omega)
  have e0 : bits BinOp.or IntKind.u32 3221225472 0 = 3221225472 := or_sum (x := 3221225472) 30 (by decide) (y := 0) (by decide) rfl rfl (by decide)
  obtain ⟨x1, hx1⟩ : ∃ x, 3221225472 + b2 v * 268435456 = x := ⟨_, rfl⟩
  have e1 : bits BinOp.or IntKind.u32 3221225472 ((b2 v : Int) * 268435456) = (x1 : Int) := or_sum (x := 3221225472) 29 (by omega) (by omega) (by omega) hx1 (by omega)
  obtain ⟨x2, hx2⟩ : ∃ x, x1 + a * 16777216 = x := ⟨_, rfl⟩
  have e2 : bits BinOp.or IntKind.u32 (x1 : Int) ((a : Int) * 16777216) = (x2 : Int) := or_sum (x := x1) 28 (by omega) (by omega) (by omega) hx2 (by omega)
  obtain ⟨x3, hx3⟩ : ∃ x, x2 + m * 16 = x := ⟨_, rfl⟩
  have e3 : bits BinOp.or IntKind.u32 (x2 : Int) ((m : Int) * 16) = (x3 : Int) := or_sum (x := x2) 24 (by omega) (by omega) (by omega) hx3 (by omega)
  obtain ⟨x4, hx4⟩ : ∃ x, x3 + c = x := ⟨_, rfl⟩
  have e4 : bits BinOp.or IntKind.u32 (x3 : Int) ((c : Int)) = (x4 : Int) := or_sum (x := x3) 4 (by omega) (by omega) (by omega) hx4 (by omega)
  have HE : enc (Ins.mk 3 false v a 0 c 0 m) = x4 := by omega
  rw [HE]
  clear hen HE hx1 hx2 hx3 hx4
  go_enter Try.func23, Try.ntmps23
  go_wp2_with (go_at_call 38; refine (in_any _ _ _ _).mono ?_; rintro e w1 ⟨rfl, rfl⟩)
  go_quiet ((first | (go_at_call 39; exact Calls.quiet_of_same (bit_f _)) | (go_at_call 39; exact Calls.quiet_of_same (bit_q v _))))
  go_wp2_with (go_at_call 38; refine (in_any _ _ _ _).mono ?_; rintro e w1 ⟨rfl, rfl⟩)
  go_quiet ((go_at_call 38; exact quiet_add_same (in_q _ _ _ _)))
  go_wp2_with (go_at_call 38; refine (in_any _ _ _ _).mono ?_; rintro e w1 ⟨rfl, rfl⟩)
  go_ret2
  exact ⟨rfl, by (repeat with_reducible first | exact Only.refl _ _ | refine Only.alloc ?_ _ | refine Only.drewN ?_ _ | refine Only.setNew ?_ (by simp) _)⟩
end Go.Proofs.Ythimhbfglgnohaa
