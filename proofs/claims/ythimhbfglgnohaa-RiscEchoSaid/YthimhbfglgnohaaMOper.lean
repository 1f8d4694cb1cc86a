/- The machine's quotient, operand; conditions; places. -/
import Derived.Test.YthimhbfglgnohaaMMore
namespace Go.Proofs.Ythimhbfglgnohaa
open Go.RowKit M

set_option maxHeartbeats 800000 in
theorem quotient_no (mb b n : Nat) (w : World) (hb : b < 4294967296) (hn : n < 4294967296) (h : S n < 1) :
    Calls Try.prog 69 #[.pointer (some ⟨mb, 0, none⟩), .int .u32 b, .int .u32 n] w fun e w' => e = .returned (.tuple #[.int .u32 0, .bool false]) ∧ w = w' := by
  have eb := w32_nat b hb
  have en := w32_nat n hn
  have c1 := fun w => div_no (S b) (S n) w h
  obtain ⟨B, hB'⟩ : ∃ B, S b = B := ⟨_, rfl⟩
  obtain ⟨N, hN'⟩ : ∃ N, S n = N := ⟨_, rfl⟩
  rw [hB'] at eb c1
  rw [hN'] at en c1
  clear hB' hN' h
  go_enter Try.func69, Try.ntmps69
  go_wp2_with fail
  refine (c1 _).mono ?_
  rintro e w1 ⟨rfl, rfl⟩
  go_wp2_with fail
  go_ret2
  exact ⟨rfl, rfl⟩

set_option maxHeartbeats 800000 in
theorem quotient_any (mb b n : Nat) (cv wv iv ov : Value) (s : St) (w : World) (hB : Blk w mb (icells cv wv iv ov s) 65) (hb : b < 4294967296) (hn : n < 4294967296) (h : 1 ≤ S n) :
    Calls Try.prog 69 #[.pointer (some ⟨mb, 0, none⟩), .int .u32 b, .int .u32 n] w fun e w' => e = .returned (.tuple #[.int .u32 (U (S b / S n) : Nat), .bool true]) ∧
      Blk w' mb (icells cv wv iv ov { s with H := U (S b % S n) }) 65 ∧ Only (One mb) w w' := by
  have c20 : w.cell? ⟨mb, 20, none⟩ = some (.int .u32 s.H) := hB.cell 20
  have f20 := hB.free 20
  have hb1 := S_i32 b hb
  have hn1 := S_i32 n hn
  have eb := w32_nat b hb
  have en := w32_nat n hn
  have c1 := fun w => div_any (S b) (S n) w hb1 h hn1.2
  have c2 := fun w => mod_any (S b) (S n) w hb1 h hn1.2
  have h1 := hB.setCell 20 (.int .u32 (U (S b % S n)))
  rw [icells_H] at h1
  have H1 := Lib.hid h1
  obtain ⟨q, hq⟩ : ∃ q, S b / S n = q := ⟨_, rfl⟩
  obtain ⟨r, hr⟩ : ∃ r, S b % S n = r := ⟨_, rfl⟩
  rw [hq] at c1 ⊢
  rw [hr] at c2 H1 ⊢
  obtain ⟨B, hB'⟩ : ∃ B, S b = B := ⟨_, rfl⟩
  obtain ⟨N, hN'⟩ : ∃ N, S n = N := ⟨_, rfl⟩
  rw [hB'] at eb c1 c2
  rw [hN'] at en c1 c2
  have eq : q % 4294967296 = ((U q : Nat) : Int) := by unfold U; omega
  have er : r % 4294967296 = ((U r : Nat) : Int) := by unfold U; omega
  clear hB' hN' h h1 hq hr hb1 hn1
  go_enter Try.func69, Try.ntmps69
  go_wp2_with fail
  refine (c1 _).mono ?_
  rintro e w1 ⟨rfl, rfl⟩
  go_wp2_with fail
  refine (c2 _).mono ?_
  rintro e w1 ⟨rfl, rfl⟩
  go_wp2_with fail
  go_ret2
  refine ⟨?_, ?_, ?_⟩
  · rw [eq]; rfl
  · first | exact H1.out | (rw [er]; exact H1.out)
  · (repeat with_reducible first | exact Only.refl _ _ | refine Only.alloc ?_ _ | refine Only.drewN ?_ _ | refine Only.drew ?_ | refine Only.setOne ?_ _ _)

def ic (F : Int) (u v : Bool) (a b c : Nat) (o : Nat) (m : Int) : Value := .agg #[.int .i64 F, .bool u, .bool v, .int .i64 a, .int .i64 b, .int .i64 c, .int .i64 o, .int .i32 m]

set_option maxHeartbeats 800000 in
theorem operand_0 (mb : Nat) (u v : Bool) (a b c o : Nat) (m : Int) (cv wv iv ov : Value) (s : St) (w : World) (hB : Blk w mb (icells cv wv iv ov s) 65) (hc : c < 16) :
    Calls Try.prog 61 #[.pointer (some ⟨mb, 0, none⟩), ic 0 u v a b c o m] w fun e w' => e = .returned (.int .u32 (s.R c)) ∧ Only Nil w w' := by
  have cR := (hB.cell (4 + c)).trans (icells_reg cv wv iv ov s hc)
  have hlt := hB.lt
  have c0 : (0 : Int) ≤ (c : Int) := Int.natCast_nonneg _
  have c1 : (c : Int) < 16 := by omega
  unfold ic
  go_enter Try.func61, Try.ntmps61
  go_wp2_with fail
  go_quiet (fail)
  go_wp2_with fail
  go_ret
  exact ⟨rfl, by (repeat with_reducible first | exact Only.refl _ _ | refine Only.alloc ?_ _ | refine Only.drewN ?_ _ | refine Only.drew ?_ | refine Only.setOne ?_ _ _)⟩

set_option maxHeartbeats 800000 in
theorem operand_1 (mb : Nat) (u v : Bool) (a b c o : Nat) (m : Int) (w : World) (h1 : 0 ≤ m) (h2 : m ≤ 65535) :
    Calls Try.prog 61 #[.pointer (some ⟨mb, 0, none⟩), ic 1 u v a b c o m] w fun e w' => e = .returned (.int .u32 ((if v then U (m - 65536) else U m : Nat) : Int)) ∧ Only Nil w w' := by
  have e1 : (m - 65536) % 4294967296 = ((U (m - 65536) : Nat) : Int) := by unfold U; omega
  have e2 : m = ((U m : Nat) : Int) := by unfold U; omega
  unfold ic
  have E2 := Lib.hid e2
  clear e2
  cases v
  · go_enter Try.func61, Try.ntmps61
    go_wp2_with fail
    go_ret
    exact ⟨congrArg (fun x => Ending.returned (.int .u32 x)) E2.out, by (repeat with_reducible first | exact Only.refl _ _ | refine Only.alloc ?_ _ | refine Only.drewN ?_ _ | refine Only.drew ?_ | refine Only.setOne ?_ _ _)⟩
  · go_enter Try.func61, Try.ntmps61
    go_wp2_with fail
    go_ret
    exact ⟨rfl, by (repeat with_reducible first | exact Only.refl _ _ | refine Only.alloc ?_ _ | refine Only.drewN ?_ _ | refine Only.drew ?_ | refine Only.setOne ?_ _ _)⟩
end Go.Proofs.Ythimhbfglgnohaa
