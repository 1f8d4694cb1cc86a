/- The document's Encode, of instructions of one kind. -/
import Derived.Test.YthimhbfglgnohaaREncR
namespace Go.Proofs.Ythimhbfglgnohaa
open Go.RowKit M

set_option maxRecDepth 100000 in
set_option maxHeartbeats 1600000 in
theorem encR_3 (v : Bool) (a : Nat) (m : Int) (w : World) (ha : a < 16) (hm1 : -8388608 ≤ m) (hm2 : m ≤ 8388607) :
    Calls Try.prog 23 #[(Ins.mk 3 true v a 0 0 0 m).val] w fun e w' => e = .returned (.tuple #[.int .u32 ((enc (Ins.mk 3 true v a 0 0 0 m) : Nat) : Int), .bool true]) ∧ Only Nil w w' := by
  unfold Ins.val Ins.cells
  have i1 := inB_yes (n := 3) (a := 0) (b := 3) (by omega)
  have i2 := inB_yes (n := (a : Int)) (a := 0) (b := 15) (by omega)
  have i6 := inB_yes (n := m) (a := -8388608) (b := 8388607) (by omega)
  have hv1 := b2_le v
  have hen : enc (Ins.mk 3 true v a 0 0 0 m) = 3758096384 + b2 v * 268435456 + a * 16777216 + (m % 16777216).toNat := by
    exact put_lit 3 true _ _ _ _ _ (by decide) (by unfold enc; rw [tail_3 rfl rfl]; rfl)
  obtain ⟨y, hy⟩ : ∃ y, (m % 16777216).toNat = y := ⟨_, rfl⟩
  have hy2 : y < 16777216 := by omega
  have bm : bits BinOp.and IntKind.u32 (m % 4294967296) 16777215 = (y : Int) := by
    have h := and_low (v := (m % 4294967296).toNat) (k := 24) (n := y) (K := 16777215) (by omega) rfl (by decide) (by omega)
    rw [show (((m % 4294967296).toNat : Nat) : Int) = m % 4294967296 by omega] at h
    exact h
  rw [hy] at hen
  have e0 : bits BinOp.or IntKind.u32 3221225472 536870912 = 3758096384 := or_sum (x := 3221225472) 30 (by decide) (y := 536870912) (by decide) rfl rfl (by decide)
  obtain ⟨x1, hx1⟩ : ∃ x, 3758096384 + b2 v * 268435456 = x := ⟨_, rfl⟩
  have e1 : bits BinOp.or IntKind.u32 3758096384 ((b2 v : Int) * 268435456) = (x1 : Int) := or_sum (x := 3758096384) 29 (by omega) (by omega) (by omega) hx1 (by omega)
  obtain ⟨x2, hx2⟩ : ∃ x, x1 + a * 16777216 = x := ⟨_, rfl⟩
  have e2 : bits BinOp.or IntKind.u32 (x1 : Int) ((a : Int) * 16777216) = (x2 : Int) := or_sum (x := x1) 28 (by omega) (by omega) (by omega) hx2 (by omega)
  obtain ⟨x3, hx3⟩ : ∃ x, x2 + y = x := ⟨_, rfl⟩
  have e3 : bits BinOp.or IntKind.u32 (x2 : Int) ((y : Int)) = (x3 : Int) := or_sum (x := x2) 24 (by omega) (by omega) (by omega) hx3 (by omega)
  have HE : enc (Ins.mk 3 true v a 0 0 0 m) = x3 := by omega
  rw [HE]
  clear hen HE hx1 hx2 hx3 hy
  go_enter Try.func23, Try.ntmps23
  go_wp2_with (go_at_call 38; refine (in_any _ _ _ _).mono ?_; rintro e w1 ⟨rfl, rfl⟩)
  go_quiet ((first | (go_at_call 39; exact Calls.quiet_of_same (bit_t _)) | (go_at_call 39; exact Calls.quiet_of_same (bit_q v _))))
  go_wp2_with (go_at_call 38; refine (in_any _ _ _ _).mono ?_; rintro e w1 ⟨rfl, rfl⟩)
  go_quiet ((go_at_call 38; exact quiet_add_same (in_q _ _ _ _)))
  go_wp2_with (go_at_call 38; refine (in_any _ _ _ _).mono ?_; rintro e w1 ⟨rfl, rfl⟩)
  go_ret2
  exact ⟨rfl, by (repeat with_reducible first | exact Only.refl _ _ | refine Only.alloc ?_ _ | refine Only.drewN ?_ _ | refine Only.setNew ?_ (by simp) _)⟩
end Go.Proofs.Ythimhbfglgnohaa
