/- The document's Encode, of instructions that may be. -/
import Derived.Test.YthimhbfglgnohaaRDecR
set_option linter.unusedSimpArgs false
set_option linter.unusedVariables false
namespace Go.Proofs.Ythimhbfglgnohaa
open Go.RowKit M

def inB (n a b : Int) : Bool := decide (a ≤ n ∧ n ≤ b)
theorem inB_yes {n a b : Int} (h : a ≤ n ∧ n ≤ b) : inB n a b = true := by unfold inB; exact decide_eq_true h
theorem inB_no {n a b : Int} (h : ¬ (a ≤ n ∧ n ≤ b)) : inB n a b = false := by unfold inB; exact decide_eq_false h

theorem in_any (n a b : Int) (w : World) :
    Calls Try.prog 38 #[.int .i64 n, .int .i64 a, .int .i64 b] w fun e w' => e = .returned (.bool (inB n a b)) ∧ w = w' := by
  by_cases h1 : a ≤ n
  · have e : inB n a b = decide (n ≤ b) := by unfold inB; simp [h1]
    have E := Lib.hid e
    clear e
    by_cases h2 : n ≤ b
    · go_enter Try.func38, Try.ntmps38
      go_wp2
      go_ret
      exact ⟨by rw [E.out]; simp [h2], rfl⟩
    · have h3 : b < n := by omega
      go_enter Try.func38, Try.ntmps38
      go_wp2
      go_ret
      exact ⟨by rw [E.out]; simp; omega, rfl⟩
  · have e : inB n a b = false := inB_no (by omega)
    have E := Lib.hid e
    have h3 : n < a := by omega
    clear e h1
    go_enter Try.func38, Try.ntmps38
    go_wp2
    go_ret
    exact ⟨by rw [E.out]; rfl, rfl⟩

theorem bit_any (u : Bool) (w : World) :
    Calls Try.prog 39 #[.bool u] w fun e w' => e = .returned (.int .u32 (b2 u : Int)) ∧ w = w' := by
  cases u
  · go_enter Try.func39, Try.ntmps39
    go_wp2
    go_ret
    exact ⟨rfl, rfl⟩
  · go_enter Try.func39, Try.ntmps39
    go_wp2
    go_ret
    exact ⟨rfl, rfl⟩

theorem quiet_add_same {P : Program} {f : FuncId} {args : Array Value} {w : World} {a n : Nat} {v : Value}
    (h : Calls P f args (w.drewN (a + n)) fun e w' => e = .returned v ∧ w' = w.drewN (a + n)) :
    Calls P f args (w.drewN (a + n)) fun e w'' => e = .returned v ∧ ∃ m, w'' = w.drewN (a + m) :=
  h.mono fun _ _ ⟨he, hm⟩ => ⟨he, n, hm⟩
theorem in_q (n a b : Int) (w : World) :
    Calls Try.prog 38 #[.int .i64 n, .int .i64 a, .int .i64 b] w fun e w' => e = .returned (.bool (inB n a b)) ∧ w' = w := (in_any n a b w).mono fun _ _ ⟨h1, h2⟩ => ⟨h1, h2.symm⟩
theorem bit_q (u : Bool) (w : World) :
    Calls Try.prog 39 #[.bool u] w fun e w' => e = .returned (.int .u32 (b2 u : Int)) ∧ w' = w := (bit_any u w).mono fun _ _ ⟨h1, h2⟩ => ⟨h1, h2.symm⟩

theorem bit_t (w : World) : Calls Try.prog 39 #[.bool true] w fun e w' => e = .returned (.int .u32 1) ∧ w' = w := bit_q true w
theorem bit_f (w : World) : Calls Try.prog 39 #[.bool false] w fun e w' => e = .returned (.int .u32 0) ∧ w' = w := bit_q false w

theorem put_lit (f : Nat) (u v : Bool) (a X F n : Nat) (h : f * 1073741824 + b2 u * 536870912 = F) (hn : n = put f u v a X) : n = F + b2 v * 268435456 + a * 16777216 + X := by
    rw [hn]; unfold put; rw [h]
theorem put_var (f : Nat) (u v : Bool) (a X F n : Nat) (h : f * 1073741824 = F) (hn : n = put f u v a X) : n = F + b2 u * 536870912 + b2 v * 268435456 + a * 16777216 + X := by
    rw [hn]; unfold put; rw [h]

/-- A field put beside what stands above it. -/
theorem or_sum {x y z : Nat} {Y : Int} (k : Nat) (hx : x % 2 ^ k = 0) (hy : y < 2 ^ k) (hY : Y = (y : Int)) (hz : x + y = z) (hb : z < 4294967296) :
    bits BinOp.or IntKind.u32 (x : Int) Y = (z : Int) := by
  rw [hY, u32_or_nat _ _ (by omega) (by omega), ← hz]
  have h := Nat.two_pow_add_eq_or_of_lt (i := k) (b := y) hy (x / 2 ^ k)
  have e : 2 ^ k * (x / 2 ^ k) = x := by have := Nat.div_add_mod x (2 ^ k); omega
  rw [e] at h
  rw [h]

end Go.Proofs.Ythimhbfglgnohaa

/- The document's Encode, of instructions of one kind. -/
set_option linter.unusedSimpArgs false
set_option linter.unusedVariables false
namespace Go.Proofs.Ythimhbfglgnohaa
open Go.RowKit M

set_option maxRecDepth 100000 in
set_option maxHeartbeats 1600000 in
theorem encR_0 (u v : Bool) (a b c o : Nat) (w : World) (ha : a < 16) (hb : b < 16) (hc : c < 16) (ho : o < 16) :
    Calls Try.prog 23 #[(Ins.mk 0 u v a b c o 0).val] w fun e w' => e = .returned (.tuple #[.int .u32 ((enc (Ins.mk 0 u v a b c o 0) : Nat) : Int), .bool true]) ∧ Only Nil w w' := by
  unfold Ins.val Ins.cells
  have i1 := inB_yes (n := 0) (a := 0) (b := 3) (by omega)
  have i2 := inB_yes (n := (a : Int)) (a := 0) (b := 15) (by omega)
  have i3 := inB_yes (n := (b : Int)) (a := 0) (b := 15) (by omega)
  have i4 := inB_yes (n := (o : Int)) (a := 0) (b := 15) (by omega)
  have i5 := inB_yes (n := (c : Int)) (a := 0) (b := 15) (by omega)
  have hu1 := b2_le u
  have hv1 := b2_le v
  have hen : enc (Ins.mk 0 u v a b c o 0) = 0 + b2 u * 536870912 + b2 v * 268435456 + a * 16777216 + (b * 1048576 + o * 65536 + c) := by
    exact put_var 0 _ _ _ _ _ _ (by decide) (by unfold enc; rw [tail_0 rfl]; rfl)
  have bm : bits BinOp.and IntKind.u32 (IntKind.u32.wrap (c : Int)) 15 = (c : Int) := by rw [wrap_u32, Nat.mod_eq_of_lt (by omega)]; exact and_low (k := 4) (by omega) rfl (by decide) (by omega)
  obtain ⟨x0, hx0⟩ : ∃ x, 0 + b2 u * 536870912 = x := ⟨_, rfl⟩
  have e0 : bits BinOp.or IntKind.u32 (0 : Int) ((b2 u : Int) * 536870912) = (x0 : Int) := or_sum (x := 0) 30 (by omega) (by omega) (by omega) hx0 (by omega)
  obtain ⟨x1, hx1⟩ : ∃ x, x0 + b2 v * 268435456 = x := ⟨_, rfl⟩
  have e1 : bits BinOp.or IntKind.u32 (x0 : Int) ((b2 v : Int) * 268435456) = (x1 : Int) := or_sum (x := x0) 29 (by omega) (by omega) (by omega) hx1 (by omega)
  obtain ⟨x2, hx2⟩ : ∃ x, x1 + a * 16777216 = x := ⟨_, rfl⟩
  have e2 : bits BinOp.or IntKind.u32 (x1 : Int) ((a : Int) * 16777216) = (x2 : Int) := or_sum (x := x1) 28 (by omega) (by omega) (by omega) hx2 (by omega)
  obtain ⟨x3, hx3⟩ : ∃ x, x2 + b * 1048576 = x := ⟨_, rfl⟩
  have e3 : bits BinOp.or IntKind.u32 (x2 : Int) ((b : Int) * 1048576) = (x3 : Int) := or_sum (x := x2) 24 (by omega) (by omega) (by omega) hx3 (by omega)
  obtain ⟨x4, hx4⟩ : ∃ x, x3 + o * 65536 = x := ⟨_, rfl⟩
  have e4 : bits BinOp.or IntKind.u32 (x3 : Int) ((o : Int) * 65536) = (x4 : Int) := or_sum (x := x3) 20 (by omega) (by omega) (by omega) hx4 (by omega)
  obtain ⟨x5, hx5⟩ : ∃ x, x4 + c = x := ⟨_, rfl⟩
  have e5 : bits BinOp.or IntKind.u32 (x4 : Int) ((c : Int)) = (x5 : Int) := or_sum (x := x4) 16 (by omega) (by omega) (by omega) hx5 (by omega)
  have HE : enc (Ins.mk 0 u v a b c o 0) = x5 := by omega
  rw [HE]
  clear hen HE hx0 hx1 hx2 hx3 hx4 hx5
  go_enter Try.func23, Try.ntmps23
  go_wp2_with (go_at_call 38; refine (in_any _ _ _ _).mono ?_; rintro e w1 ⟨rfl, rfl⟩)
  go_quiet ((go_at_call 39; exact Calls.quiet_of_same (bit_q _ _)))
  go_wp2_with (go_at_call 38; refine (in_any _ _ _ _).mono ?_; rintro e w1 ⟨rfl, rfl⟩)
  go_quiet ((go_at_call 38; exact quiet_add_same (in_q _ _ _ _)))
  go_wp2_with (go_at_call 38; refine (in_any _ _ _ _).mono ?_; rintro e w1 ⟨rfl, rfl⟩)
  go_ret2
  exact ⟨rfl, by (repeat with_reducible first | exact Only.refl _ _ | refine Only.alloc ?_ _ | refine Only.drewN ?_ _ | refine Only.setNew ?_ (by simp) _)⟩
end Go.Proofs.Ythimhbfglgnohaa

/- The document's Encode, of instructions of one kind. -/
namespace Go.Proofs.Ythimhbfglgnohaa
open Go.RowKit M

set_option maxRecDepth 100000 in
set_option maxHeartbeats 1600000 in
theorem encR_1 (u v : Bool) (a b o m : Nat) (w : World) (ha : a < 16) (hb : b < 16) (ho : o < 16) (hm : m < 65536) :
    Calls Try.prog 23 #[(Ins.mk 1 u v a b 0 o m).val] w fun e w' => e = .returned (.tuple #[.int .u32 ((enc (Ins.mk 1 u v a b 0 o m) : Nat) : Int), .bool true]) ∧ Only Nil w w' := by
  unfold Ins.val Ins.cells
  have i1 := inB_yes (n := 1) (a := 0) (b := 3) (by omega)
  have i2 := inB_yes (n := (a : Int)) (a := 0) (b := 15) (by omega)
  have i3 := inB_yes (n := (b : Int)) (a := 0) (b := 15) (by omega)
  have i4 := inB_yes (n := (o : Int)) (a := 0) (b := 15) (by omega)
  have i6 := inB_yes (n := (m : Int)) (a := 0) (b := 65535) (by omega)
  have hu1 := b2_le u
  have hv1 := b2_le v
  have hen : enc (Ins.mk 1 u v a b 0 o m) = 1073741824 + b2 u * 536870912 + b2 v * 268435456 + a * 16777216 + (b * 1048576 + o * 65536 + m) := by
    exact put_var 1 _ _ _ _ _ _ (by decide) (by unfold enc; rw [tail_1 rfl]; rfl)
  have bm : bits BinOp.and IntKind.u32 (m : Int) 65535 = (m : Int) := and_low (k := 16) (by omega) rfl (by decide) (by omega)
  obtain ⟨x0, hx0⟩ : ∃ x, 1073741824 + b2 u * 536870912 = x := ⟨_, rfl⟩
  have e0 : bits BinOp.or IntKind.u32 (1073741824 : Int) ((b2 u : Int) * 536870912) = (x0 : Int) := or_sum (x := 1073741824) 30 (by omega) (by omega) (by omega) hx0 (by omega)
  obtain ⟨x1, hx1⟩ : ∃ x, x0 + b2 v * 268435456 = x := ⟨_, rfl⟩
  have e1 : bits BinOp.or IntKind.u32 (x0 : Int) ((b2 v : Int) * 268435456) = (x1 : Int) := or_sum (x := x0) 29 (by omega) (by omega) (by omega) hx1 (by omega)
  obtain ⟨x2, hx2⟩ : ∃ x, x1 + a * 16777216 = x := ⟨_, rfl⟩
  have e2 : bits BinOp.or IntKind.u32 (x1 : Int) ((a : Int) * 16777216) = (x2 : Int) := or_sum (x := x1) 28 (by omega) (by omega) (by omega) hx2 (by omega)
  obtain ⟨x3, hx3⟩ : ∃ x, x2 + b * 1048576 = x := ⟨_, rfl⟩
  have e3 : bits BinOp.or IntKind.u32 (x2 : Int) ((b : Int) * 1048576) = (x3 : Int) := or_sum (x := x2) 24 (by omega) (by omega) (by omega) hx3 (by omega)
  obtain ⟨x4, hx4⟩ : ∃ x, x3 + o * 65536 = x := ⟨_, rfl⟩
  have e4 : bits BinOp.or IntKind.u32 (x3 : Int) ((o : Int) * 65536) = (x4 : Int) := or_sum (x := x3) 20 (by omega) (by omega) (by omega) hx4 (by omega)
  obtain ⟨x5, hx5⟩ : ∃ x, x4 + m = x := ⟨_, rfl⟩
  have e5 : bits BinOp.or IntKind.u32 (x4 : Int) ((m : Int)) = (x5 : Int) := or_sum (x := x4) 16 (by omega) (by omega) (by omega) hx5 (by omega)
  have HE : enc (Ins.mk 1 u v a b 0 o m) = x5 := by omega
  rw [HE]
  clear hen HE hx0 hx1 hx2 hx3 hx4 hx5
  go_enter Try.func23, Try.ntmps23
  go_wp2_with (go_at_call 38; refine (in_any _ _ _ _).mono ?_; rintro e w1 ⟨rfl, rfl⟩)
  go_quiet ((go_at_call 39; exact Calls.quiet_of_same (bit_q _ _)))
  go_wp2_with (go_at_call 38; refine (in_any _ _ _ _).mono ?_; rintro e w1 ⟨rfl, rfl⟩)
  go_quiet ((go_at_call 38; exact quiet_add_same (in_q _ _ _ _)))
  go_wp2_with (go_at_call 38; refine (in_any _ _ _ _).mono ?_; rintro e w1 ⟨rfl, rfl⟩)
  go_ret2
  exact ⟨rfl, by (repeat with_reducible first | exact Only.refl _ _ | refine Only.alloc ?_ _ | refine Only.drewN ?_ _ | refine Only.setNew ?_ (by simp) _)⟩
end Go.Proofs.Ythimhbfglgnohaa

/- The document's Encode, of instructions of one kind. -/
namespace Go.Proofs.Ythimhbfglgnohaa
open Go.RowKit M

set_option maxRecDepth 100000 in
set_option maxHeartbeats 1600000 in
theorem encR_2 (u v : Bool) (a b : Nat) (m : Int) (w : World) (ha : a < 16) (hb : b < 16) (hm1 : -524288 ≤ m) (hm2 : m ≤ 524287) :
    Calls Try.prog 23 #[(Ins.mk 2 u v a b 0 0 m).val] w fun e w' => e = .returned (.tuple #[.int .u32 ((enc (Ins.mk 2 u v a b 0 0 m) : Nat) : Int), .bool true]) ∧ Only Nil w w' := by
  unfold Ins.val Ins.cells
  have i1 := inB_yes (n := 2) (a := 0) (b := 3) (by omega)
  have i2 := inB_yes (n := (a : Int)) (a := 0) (b := 15) (by omega)
  have i3 := inB_yes (n := (b : Int)) (a := 0) (b := 15) (by omega)
  have i6 := inB_yes (n := m) (a := -524288) (b := 524287) (by omega)
  have hu1 := b2_le u
  have hv1 := b2_le v
  have hen : enc (Ins.mk 2 u v a b 0 0 m) = 2147483648 + b2 u * 536870912 + b2 v * 268435456 + a * 16777216 + (b * 1048576 + (m % 1048576).toNat) := by
    exact put_var 2 _ _ _ _ _ _ (by decide) (by unfold enc; rw [tail_2 rfl]; rfl)
  obtain ⟨y, hy⟩ : ∃ y, (m % 1048576).toNat = y := ⟨_, rfl⟩
  have hy2 : y < 1048576 := by omega
  have bm : bits BinOp.and IntKind.u32 (m % 4294967296) 1048575 = (y : Int) := by
    have h := and_low (v := (m % 4294967296).toNat) (k := 20) (n := y) (K := 1048575) (by omega) rfl (by decide) (by omega)
    rw [show (((m % 4294967296).toNat : Nat) : Int) = m % 4294967296 by omega] at h
    exact h
  rw [hy] at hen
  obtain ⟨x0, hx0⟩ : ∃ x, 2147483648 + b2 u * 536870912 = x := ⟨_, rfl⟩
  have e0 : bits BinOp.or IntKind.u32 (2147483648 : Int) ((b2 u : Int) * 536870912) = (x0 : Int) := or_sum (x := 2147483648) 30 (by omega) (by omega) (by omega) hx0 (by omega)
  obtain ⟨x1, hx1⟩ : ∃ x, x0 + b2 v * 268435456 = x := ⟨_, rfl⟩
  have e1 : bits BinOp.or IntKind.u32 (x0 : Int) ((b2 v : Int) * 268435456) = (x1 : Int) := or_sum (x := x0) 29 (by omega) (by omega) (by omega) hx1 (by omega)
  obtain ⟨x2, hx2⟩ : ∃ x, x1 + a * 16777216 = x := ⟨_, rfl⟩
  have e2 : bits BinOp.or IntKind.u32 (x1 : Int) ((a : Int) * 16777216) = (x2 : Int) := or_sum (x := x1) 28 (by omega) (by omega) (by omega) hx2 (by omega)
  obtain ⟨x3, hx3⟩ : ∃ x, x2 + b * 1048576 = x := ⟨_, rfl⟩
  have e3 : bits BinOp.or IntKind.u32 (x2 : Int) ((b : Int) * 1048576) = (x3 : Int) := or_sum (x := x2) 24 (by omega) (by omega) (by omega) hx3 (by omega)
  obtain ⟨x4, hx4⟩ : ∃ x, x3 + y = x := ⟨_, rfl⟩
  have e4 : bits BinOp.or IntKind.u32 (x3 : Int) ((y : Int)) = (x4 : Int) := or_sum (x := x3) 20 (by omega) (by omega) (by omega) hx4 (by omega)
  have HE : enc (Ins.mk 2 u v a b 0 0 m) = x4 := by omega
  rw [HE]
  clear hen HE hx0 hx1 hx2 hx3 hx4 hy
  go_enter Try.func23, Try.ntmps23
  go_wp2_with (go_at_call 38; refine (in_any _ _ _ _).mono ?_; rintro e w1 ⟨rfl, rfl⟩)
  go_quiet ((go_at_call 39; exact Calls.quiet_of_same (bit_q _ _)))
  go_wp2_with (go_at_call 38; refine (in_any _ _ _ _).mono ?_; rintro e w1 ⟨rfl, rfl⟩)
  go_quiet ((go_at_call 38; exact quiet_add_same (in_q _ _ _ _)))
  go_wp2_with (go_at_call 38; refine (in_any _ _ _ _).mono ?_; rintro e w1 ⟨rfl, rfl⟩)
  go_ret2
  exact ⟨rfl, by (repeat with_reducible first | exact Only.refl _ _ | refine Only.alloc ?_ _ | refine Only.drewN ?_ _ | refine Only.setNew ?_ (by simp) _)⟩
end Go.Proofs.Ythimhbfglgnohaa

/- The document's Encode, of instructions of one kind. -/
namespace Go.Proofs.Ythimhbfglgnohaa
open Go.RowKit M

set_option maxRecDepth 100000 in
set_option maxHeartbeats 1600000 in
theorem encR_3 (v : Bool) (a : Nat) (m : Int) (w : World) (ha : a < 16) (hm1 : -8388608 ≤ m) (hm2 : m ≤ 8388607) :
    Calls Try.prog 23 #[(Ins.mk 3 true v a 0 0 0 m).val] w fun e w' => e = .returned (.tuple #[.int .u32 ((enc (Ins.mk 3 true v a 0 0 0 m) : Nat) : Int), .bool true]) ∧ Only Nil w w' := by
  unfold Ins.val Ins.cells
  have i1 := inB_yes (n := 3) (a := 0) (b := 3) (by omega)
  have i2 := inB_yes (n := (a : Int)) (a := 0) (b := 15) (by omega)
  have i6 := inB_yes (n := m) (a := -8388608) (b := 8388607) (by omega)
  have hv1 := b2_le v
  have hen : enc (Ins.mk 3 true v a 0 0 0 m) = 3758096384 + b2 v * 268435456 + a * 16777216 + (m % 16777216).toNat := by
    exact put_lit 3 true _ _ _ _ _ (by decide) (by unfold enc; rw [tail_3 rfl rfl]; rfl)
  obtain ⟨y, hy⟩ : ∃ y, (m % 16777216).toNat = y := ⟨_, rfl⟩
  have hy2 : y < 16777216 := by omega
  have bm : bits BinOp.and IntKind.u32 (m % 4294967296) 16777215 = (y : Int) := by
    have h := and_low (v := (m % 4294967296).toNat) (k := 24) (n := y) (K := 16777215) (by omega) rfl (by decide) (by omega)
    rw [show (((m % 4294967296).toNat : Nat) : Int) = m % 4294967296 by omega] at h
    exact h
  rw [hy] at hen
  have e0 : bits BinOp.or IntKind.u32 3221225472 536870912 = 3758096384 := or_sum (x := 3221225472) 30 (by decide) (y := 536870912) (by decide) rfl rfl (by decide)
  obtain ⟨x1, hx1⟩ : ∃ x, 3758096384 + b2 v * 268435456 = x := ⟨_, rfl⟩
  have e1 : bits BinOp.or IntKind.u32 3758096384 ((b2 v : Int) * 268435456) = (x1 : Int) := or_sum (x := 3758096384) 29 (by omega) (by omega) (by omega) hx1 (by omega)
  obtain ⟨x2, hx2⟩ : ∃ x, x1 + a * 16777216 = x := ⟨_, rfl⟩
  have e2 : bits BinOp.or IntKind.u32 (x1 : Int) ((a : Int) * 16777216) = (x2 : Int) := or_sum (x := x1) 28 (by omega) (by omega) (by omega) hx2 (by omega)
  obtain ⟨x3, hx3⟩ : ∃ x, x2 + y = x := ⟨_, rfl⟩
  have e3 : bits BinOp.or IntKind.u32 (x2 : Int) ((y : Int)) = (x3 : Int) := or_sum (x := x2) 24 (by omega) (by omega) (by omega) hx3 (by omega)
  have HE : enc (Ins.mk 3 true v a 0 0 0 m) = x3 := by omega
  rw [HE]
  clear hen HE hx1 hx2 hx3 hy
  go_enter Try.func23, Try.ntmps23
  go_wp2_with (go_at_call 38; refine (in_any _ _ _ _).mono ?_; rintro e w1 ⟨rfl, rfl⟩)
  go_quiet ((first | (go_at_call 39; exact Calls.quiet_of_same (bit_t _)) | (go_at_call 39; exact Calls.quiet_of_same (bit_q v _))))
  go_wp2_with (go_at_call 38; refine (in_any _ _ _ _).mono ?_; rintro e w1 ⟨rfl, rfl⟩)
  go_quiet ((go_at_call 38; exact quiet_add_same (in_q _ _ _ _)))
  go_wp2_with (go_at_call 38; refine (in_any _ _ _ _).mono ?_; rintro e w1 ⟨rfl, rfl⟩)
  go_ret2
  exact ⟨rfl, by (repeat with_reducible first | exact Only.refl _ _ | refine Only.alloc ?_ _ | refine Only.drewN ?_ _ | refine Only.setNew ?_ (by simp) _)⟩
end Go.Proofs.Ythimhbfglgnohaa

/- The document's Encode, of instructions of one kind. -/
namespace Go.Proofs.Ythimhbfglgnohaa
open Go.RowKit M

set_option maxRecDepth 100000 in
set_option maxHeartbeats 1600000 in
theorem encR_4 (v : Bool) (a c m : Nat) (w : World) (ha : a < 16) (hc : c < 16) (hm : m < 16) :
    Calls Try.prog 23 #[(Ins.mk 3 false v a 0 c 0 m).val] w fun e w' => e = .returned (.tuple #[.int .u32 ((enc (Ins.mk 3 false v a 0 c 0 m) : Nat) : Int), .bool true]) ∧ Only Nil w w' := by
  unfold Ins.val Ins.cells
  have i1 := inB_yes (n := 3) (a := 0) (b := 3) (by omega)
  have i2 := inB_yes (n := (a : Int)) (a := 0) (b := 15) (by omega)
  have i5 := inB_yes (n := (c : Int)) (a := 0) (b := 15) (by omega)
  have i6 := inB_yes (n := (m : Int)) (a := 0) (b := 15) (by omega)
  have hv1 := b2_le v
  have hen : enc (Ins.mk 3 false v a 0 c 0 m) = 3221225472 + b2 v * 268435456 + a * 16777216 + (m * 16 + c) := by
    exact put_lit 3 false _ _ _ _ _ (by decide) (by unfold enc; rw [tail_4 rfl rfl]; rfl)
  have bm : bits BinOp.and IntKind.u32 (m : Int) 15 = (m : Int) := and_low (k := 4) (by omega) rfl (by decide) (by omega)
  have bn' : bits BinOp.and IntKind.u32 (c : Int) 15 = (c : Int) := and_low (k := 4) (by omega) rfl (by decide) (by omega)
  have bn : bits BinOp.and IntKind.u32 (IntKind.u32.wrap (c : Int)) 15 = (c : Int) := by rw [wrap_u32, Nat.mod_eq_of_lt (by omega)]; exact and_low (k := 4) (by omega) rfl (by decide) (by omega)
  have e0 : bits BinOp.or IntKind.u32 3221225472 0 = 3221225472 := or_sum (x := 3221225472) 30 (by decide) (y := 0) (by decide) rfl rfl (by decide)
  obtain ⟨x1, hx1⟩ : ∃ x, 3221225472 + b2 v * 268435456 = x := ⟨_, rfl⟩
  have e1 : bits BinOp.or IntKind.u32 3221225472 ((b2 v : Int) * 268435456) = (x1 : Int) := or_sum (x := 3221225472) 29 (by omega) (by omega) (by omega) hx1 (by omega)
  obtain ⟨x2, hx2⟩ : ∃ x, x1 + a * 16777216 = x := ⟨_, rfl⟩
  have e2 : bits BinOp.or IntKind.u32 (x1 : Int) ((a : Int) * 16777216) = (x2 : Int) := or_sum (x := x1) 28 (by omega) (by omega) (by omega) hx2 (by omega)
  obtain ⟨x3, hx3⟩ : ∃ x, x2 + m * 16 = x := ⟨_, rfl⟩
  have e3 : bits BinOp.or IntKind.u32 (x2 : Int) ((m : Int) * 16) = (x3 : Int) := or_sum (x := x2) 24 (by omega) (by omega) (by omega) hx3 (by omega)
  obtain ⟨x4, hx4⟩ : ∃ x, x3 + c = x := ⟨_, rfl⟩
  have e4 : bits BinOp.or IntKind.u32 (x3 : Int) ((c : Int)) = (x4 : Int) := or_sum (x := x3) 4 (by omega) (by omega) (by omega) hx4 (by omega)
  have HE : enc (Ins.mk 3 false v a 0 c 0 m) = x4 := by omega
  rw [HE]
  clear hen HE hx1 hx2 hx3 hx4
  go_enter Try.func23, Try.ntmps23
  go_wp2_with (go_at_call 38; refine (in_any _ _ _ _).mono ?_; rintro e w1 ⟨rfl, rfl⟩)
  go_quiet ((first | (go_at_call 39; exact Calls.quiet_of_same (bit_f _)) | (go_at_call 39; exact Calls.quiet_of_same (bit_q v _))))
  go_wp2_with (go_at_call 38; refine (in_any _ _ _ _).mono ?_; rintro e w1 ⟨rfl, rfl⟩)
  go_quiet ((go_at_call 38; exact quiet_add_same (in_q _ _ _ _)))
  go_wp2_with (go_at_call 38; refine (in_any _ _ _ _).mono ?_; rintro e w1 ⟨rfl, rfl⟩)
  go_ret2
  exact ⟨rfl, by (repeat with_reducible first | exact Only.refl _ _ | refine Only.alloc ?_ _ | refine Only.drewN ?_ _ | refine Only.setNew ?_ (by simp) _)⟩
end Go.Proofs.Ythimhbfglgnohaa

/- The document's Encode, whatever the instruction. -/
set_option linter.unusedSimpArgs false
set_option linter.unusedVariables false
namespace Go.Proofs.Ythimhbfglgnohaa
open Go.RowKit M

/-- An instruction that may be. -/
theorem encR_good (i : Ins) (w : World) (h : i.Good) :
    Calls Try.prog 23 #[i.val] w fun e w' => e = .returned (.tuple #[.int .u32 ((enc i : Nat) : Int), .bool true]) ∧ Only Nil w w' := by
  obtain ⟨F, u, v, A, B, C, Op, m⟩ := i
  obtain ⟨_, _, h3, h4, h5⟩ := h
  simp only at h3 h4 h5
  obtain ⟨a, rfl⟩ := Int.eq_ofNat_of_zero_le h3
  rcases h5 with ⟨rfl, h5⟩ | ⟨rfl, h5⟩ | ⟨rfl, h5⟩ | ⟨rfl, rfl, h5⟩ | ⟨rfl, rfl, h5⟩
  · obtain ⟨b1, b2, o1, o2, c1, c2, rfl⟩ := h5
    obtain ⟨b, rfl⟩ := Int.eq_ofNat_of_zero_le b1
    obtain ⟨o, rfl⟩ := Int.eq_ofNat_of_zero_le o1
    obtain ⟨c, rfl⟩ := Int.eq_ofNat_of_zero_le c1
    exact encR_0 u v a b c o w (by omega) (by omega) (by omega) (by omega)
  · obtain ⟨b1, b2, o1, o2, rfl, m1, m2⟩ := h5
    obtain ⟨b, rfl⟩ := Int.eq_ofNat_of_zero_le b1
    obtain ⟨o, rfl⟩ := Int.eq_ofNat_of_zero_le o1
    obtain ⟨m, rfl⟩ := Int.eq_ofNat_of_zero_le m1
    exact encR_1 u v a b o m w (by omega) (by omega) (by omega) (by omega)
  · obtain ⟨b1, b2, rfl, rfl, m1, m2⟩ := h5
    obtain ⟨b, rfl⟩ := Int.eq_ofNat_of_zero_le b1
    exact encR_2 u v a b m w (by omega) (by omega) m1 m2
  · obtain ⟨rfl, rfl, c1, c2, m1, m2⟩ := h5
    obtain ⟨c, rfl⟩ := Int.eq_ofNat_of_zero_le c1
    obtain ⟨m, rfl⟩ := Int.eq_ofNat_of_zero_le m1
    exact encR_4 v a c m w (by omega) (by omega) (by omega)
  · obtain ⟨rfl, rfl, rfl, m1, m2⟩ := h5
    exact encR_3 v a m w (by omega) m1 m2
end Go.Proofs.Ythimhbfglgnohaa

