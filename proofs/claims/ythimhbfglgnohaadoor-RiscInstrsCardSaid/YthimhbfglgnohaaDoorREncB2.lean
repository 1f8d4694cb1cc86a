/- The document's Encode, of what is no instruction: one part of the ways. -/
import Derived.Test.YthimhbfglgnohaaDoorREncBad
namespace Go.Proofs.YthimhbfglgnohaaDoor
open Go.RowKit M

set_option maxRecDepth 100000 in
set_option maxHeartbeats 1600000 in
theorem encB_b0 (u v : Bool) (A B C Op Imm : Int) (w : World) (i2 : inB A 0 15 = true) (i3 : inB B 0 15 = false) :
    Calls Tryd.prog 11 #[(Ins.mk 0 u v A B C Op Imm).val] w (EncBad w) := by
  unfold Ins.val Ins.cells
  have i1 : inB 0 0 3 = true := inB_yes (by omega)
  go_enter Tryd.func11, Tryd.ntmps11
  go_wp2_with (go_at_call 25; refine (in_any _ _ _ _).mono ?_; rintro e w1 ⟨rfl, rfl⟩)
  go_quiet ((go_at_call 26; exact Calls.quiet_of_same (bit_q _ _)))
  go_wp2_with (go_at_call 25; refine (in_any _ _ _ _).mono ?_; rintro e w1 ⟨rfl, rfl⟩)
  go_ret2
  exact ⟨⟨_, rfl⟩, by (repeat with_reducible first | exact Only.refl _ _ | refine Only.alloc ?_ _ | refine Only.drewN ?_ _ | refine Only.setNew ?_ (by simp) _)⟩

set_option maxRecDepth 100000 in
set_option maxHeartbeats 1600000 in
theorem encB_o1 (u v : Bool) (A B C Op Imm : Int) (w : World) (i2 : inB A 0 15 = true) (i3 : inB B 0 15 = true) (i4 : inB Op 0 15 = false) :
    Calls Tryd.prog 11 #[(Ins.mk 1 u v A B C Op Imm).val] w (EncBad w) := by
  unfold Ins.val Ins.cells
  have i1 : inB 1 0 3 = true := inB_yes (by omega)
  go_enter Tryd.func11, Tryd.ntmps11
  go_wp2_with (go_at_call 25; refine (in_any _ _ _ _).mono ?_; rintro e w1 ⟨rfl, rfl⟩)
  go_quiet ((go_at_call 26; exact Calls.quiet_of_same (bit_q _ _)))
  go_wp2_with (go_at_call 25; refine (in_any _ _ _ _).mono ?_; rintro e w1 ⟨rfl, rfl⟩)
  go_ret2
  exact ⟨⟨_, rfl⟩, by (repeat with_reducible first | exact Only.refl _ _ | refine Only.alloc ?_ _ | refine Only.drewN ?_ _ | refine Only.setNew ?_ (by simp) _)⟩

set_option maxRecDepth 100000 in
set_option maxHeartbeats 1600000 in
theorem encB_m1 (u v : Bool) (A B Op Imm : Int) (w : World) (m1 : -2147483648 ≤ Imm) (m2 : Imm ≤ 2147483647) (i2 : inB A 0 15 = true) (i3 : inB B 0 15 = true) (i4 : inB Op 0 15 = true) (i6 : inB Imm 0 65535 = false) :
    Calls Tryd.prog 11 #[(Ins.mk 1 u v A B 0 Op Imm).val] w (EncBad w) := by
  unfold Ins.val Ins.cells
  have i1 : inB 1 0 3 = true := inB_yes (by omega)
  go_enter Tryd.func11, Tryd.ntmps11
  go_wp2_with (go_at_call 25; refine (in_any _ _ _ _).mono ?_; rintro e w1 ⟨rfl, rfl⟩)
  go_quiet ((go_at_call 26; exact Calls.quiet_of_same (bit_q _ _)))
  go_wp2_with (go_at_call 25; refine (in_any _ _ _ _).mono ?_; rintro e w1 ⟨rfl, rfl⟩)
  go_quiet ((go_at_call 25; exact quiet_add_same (in_q _ _ _ _)))
  go_wp2_with (go_at_call 25; refine (in_any _ _ _ _).mono ?_; rintro e w1 ⟨rfl, rfl⟩)
  go_ret2
  exact ⟨⟨_, rfl⟩, by (repeat with_reducible first | exact Only.refl _ _ | refine Only.alloc ?_ _ | refine Only.drewN ?_ _ | refine Only.setNew ?_ (by simp) _)⟩

set_option maxRecDepth 100000 in
set_option maxHeartbeats 1600000 in
theorem encB_b3 (v : Bool) (A B C Op Imm : Int) (w : World) (i2 : inB A 0 15 = true) (i3 : (B == 0) = false) :
    Calls Tryd.prog 11 #[(Ins.mk 3 true v A B C Op Imm).val] w (EncBad w) := by
  unfold Ins.val Ins.cells
  have i1 : inB 3 0 3 = true := inB_yes (by omega)
  go_enter Tryd.func11, Tryd.ntmps11
  go_wp2_with (go_at_call 25; refine (in_any _ _ _ _).mono ?_; rintro e w1 ⟨rfl, rfl⟩)
  go_quiet ((first | (go_at_call 26; exact Calls.quiet_of_same (bit_t _)) | (go_at_call 26; exact Calls.quiet_of_same (bit_q v _))))
  go_wp2_with (go_at_call 25; refine (in_any _ _ _ _).mono ?_; rintro e w1 ⟨rfl, rfl⟩)
  go_quiet ((go_at_call 25; exact quiet_add_same (in_q _ _ _ _)))
  go_wp2_with (go_at_call 25; refine (in_any _ _ _ _).mono ?_; rintro e w1 ⟨rfl, rfl⟩)
  go_ret2
  exact ⟨⟨_, rfl⟩, by (repeat with_reducible first | exact Only.refl _ _ | refine Only.alloc ?_ _ | refine Only.drewN ?_ _ | refine Only.setNew ?_ (by simp) _)⟩

set_option maxRecDepth 100000 in
set_option maxHeartbeats 1600000 in
theorem encB_b4 (v : Bool) (A B C Op Imm : Int) (w : World) (i2 : inB A 0 15 = true) (i3 : (B == 0) = false) :
    Calls Tryd.prog 11 #[(Ins.mk 3 false v A B C Op Imm).val] w (EncBad w) := by
  unfold Ins.val Ins.cells
  have i1 : inB 3 0 3 = true := inB_yes (by omega)
  go_enter Tryd.func11, Tryd.ntmps11
  go_wp2_with (go_at_call 25; refine (in_any _ _ _ _).mono ?_; rintro e w1 ⟨rfl, rfl⟩)
  go_quiet ((first | (go_at_call 26; exact Calls.quiet_of_same (bit_f _)) | (go_at_call 26; exact Calls.quiet_of_same (bit_q v _))))
  go_wp2_with (go_at_call 25; refine (in_any _ _ _ _).mono ?_; rintro e w1 ⟨rfl, rfl⟩)
  go_quiet ((go_at_call 25; exact quiet_add_same (in_q _ _ _ _)))
  go_wp2_with (go_at_call 25; refine (in_any _ _ _ _).mono ?_; rintro e w1 ⟨rfl, rfl⟩)
  go_ret2
  exact ⟨⟨_, rfl⟩, by (repeat with_reducible first | exact Only.refl _ _ | refine Only.alloc ?_ _ | refine Only.drewN ?_ _ | refine Only.setNew ?_ (by simp) _)⟩

end Go.Proofs.YthimhbfglgnohaaDoor
