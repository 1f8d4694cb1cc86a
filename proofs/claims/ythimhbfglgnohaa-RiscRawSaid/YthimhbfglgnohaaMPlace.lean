/- The machine's moves, conditions, places. -/
import Derived.Test.YthimhbfglgnohaaMOper
set_option linter.unusedSimpArgs false
set_option linter.unusedVariables false
namespace Go.Proofs.Ythimhbfglgnohaa
open Go.RowKit M

set_option maxHeartbeats 800000 in
theorem moved_any (mb n : Nat) (F : Int) (hF : F = 0 ∨ F = 1) (u v : Bool) (a b c o : Nat) (m : Int) (h1 : -2147483648 ≤ m) (h2 : m ≤ 2147483647) (cv wv iv ov : Value) (s : St) (w : World) (hB : Blk w mb (icells cv wv iv ov s) 65)
    {r : Nat} (hr : (if u then (if F = 0 then s.H else U m * 65536 % 4294967296) else n) = r) :
    Calls Try.prog 62 #[.pointer (some ⟨mb, 0, none⟩), ic F u v a b c o m, .int .u32 n] w fun e w' => e = .returned (.int .u32 r) ∧ Only Nil w w' := by
  have c20 : w.cell? ⟨mb, 20, none⟩ = some (.int .u32 s.H) := hB.cell 20
  have hlt := hB.lt
  obtain ⟨k, hk⟩ : ∃ k, U m = k := ⟨_, rfl⟩
  have em : Hid (m % 4294967296 = (k : Int) ∧ k < 4294967296) := Lib.hid (by rw [← hk]; unfold U; omega)
  rw [hk] at hr
  have HR := Lib.hid hr
  clear hr hk hB
  unfold ic
  rcases hF with rfl | rfl <;> cases u
  · have e : n = r := by have := HR.out; simpa using this
    subst e
    clear HR em
    go_enter Try.func62, Try.ntmps62
    go_wp2_with fail
    go_ret
    exact ⟨rfl, (by (repeat with_reducible first | exact Only.refl _ _ | refine Only.alloc ?_ _ | refine Only.drewN ?_ _ | refine Only.drew ?_ | refine Only.setOne ?_ _ _))⟩
  · have e : s.H = r := by have := HR.out; simpa using this
    rw [e] at c20
    clear HR em e
    go_enter Try.func62, Try.ntmps62
    go_wp2_with fail
    go_ret
    exact ⟨rfl, (by (repeat with_reducible first | exact Only.refl _ _ | refine Only.alloc ?_ _ | refine Only.drewN ?_ _ | refine Only.drew ?_ | refine Only.setOne ?_ _ _))⟩
  · have e : n = r := by have := HR.out; simpa using this
    subst e
    clear HR em
    go_enter Try.func62, Try.ntmps62
    go_wp2_with fail
    go_ret
    exact ⟨rfl, (by (repeat with_reducible first | exact Only.refl _ _ | refine Only.alloc ?_ _ | refine Only.drewN ?_ _ | refine Only.drew ?_ | refine Only.setOne ?_ _ _))⟩
  · have e : ((r : Nat) : Int) = (m % 4294967296 * 65536) % 4294967296 := by
      have h := HR.out
      have h' := em.out
      rw [if_pos rfl, if_neg (by decide)] at h
      rw [h'.1]
      omega
    have H2 := Lib.hid e
    clear HR em e
    go_enter Try.func62, Try.ntmps62
    go_wp2_with fail
    go_ret
    exact ⟨congrArg (fun x => Ending.returned (.int .u32 x)) H2.out.symm, (by (repeat with_reducible first | exact Only.refl _ _ | refine Only.alloc ?_ _ | refine Only.drewN ?_ _ | refine Only.drew ?_ | refine Only.setOne ?_ _ _))⟩

set_option maxHeartbeats 800000 in
theorem place_any (mb : Nat) (F : Int) (u v : Bool) (a b c o : Nat) (m : Int) (hb : b < 16) (h1 : -2147483648 ≤ m) (h2 : m ≤ 2147483647) (cv wv iv ov : Value) (s : St) (w : World) (hB : Blk w mb (icells cv wv iv ov s) 65) :
    Calls Try.prog 57 #[.pointer (some ⟨mb, 0, none⟩), ic F u v a b c o m] w fun e w' => e = .returned (.int .u32 ((s.R b + U m) % 4294967296 : Nat)) ∧ Only Nil w w' := by
  have cR := (hB.cell (4 + b)).trans (icells_reg cv wv iv ov s hb)
  have hlt := hB.lt
  have c0 : (0 : Int) ≤ (b : Int) := Int.natCast_nonneg _
  have c1 : (b : Int) < 16 := by omega
  have EM : Hid (((s.R b : Int) + m % 4294967296) % 4294967296 = (((s.R b + U m) % 4294967296 : Nat) : Int)) := Lib.hid (by unfold U; omega)
  unfold ic
  go_enter Try.func57, Try.ntmps57
  go_wp2_with fail
  go_quiet (fail)
  go_wp2_with fail
  go_ret
  exact ⟨congrArg (fun x => Ending.returned (.int .u32 x)) EM.out, by (repeat with_reducible first | exact Only.refl _ _ | refine Only.alloc ?_ _ | refine Only.drewN ?_ _ | refine Only.drew ?_ | refine Only.setOne ?_ _ _)⟩

set_option maxHeartbeats 800000 in
theorem wordAt_any (mb wb p : Nat) (hp : p < 4294967296) (cv iv ov : Value) (s : St) (w : World) (hl : s.mem.length ≤ 1048576) (hB : Blk w mb (icells cv (.slice (some ⟨wb, 0, none⟩) s.mem.length s.mem.length) iv ov s) 65) :
    Calls Try.prog 58 #[.pointer (some ⟨mb, 0, none⟩), .int .u32 p] w fun e w' => e = .returned (.tuple #[.int .i64 (p / 4 : Nat), .bool (decide (p % 4 = 0 ∧ p / 4 < s.mem.length))]) ∧ Only Nil w w' := by
  have c1 : w.cell? ⟨mb, 1, none⟩ = some (.slice (some ⟨wb, 0, none⟩) s.mem.length s.mem.length) := hB.cell 1
  have hlt := hB.lt
  obtain ⟨L, hL⟩ : ∃ L, s.mem.length = L := ⟨_, rfl⟩
  rw [hL] at c1 hl ⊢
  clear hL
  by_cases h4 : p % 4 = 0
  · have h4' : (p : Int).tmod 4 = 0 := by rw [Int.tmod_eq_emod_of_nonneg (by omega)]; omega
    have hs : decide (p % 4 = 0 ∧ p / 4 < L) = decide ((p : Int) / 4 < L) := by rw [decide_eq_decide]; omega
    rw [hs]
    clear h4 hs
    go_enter Try.func58, Try.ntmps58
    go_wp2_with fail
    go_quiet (fail)
    go_wp2_with fail
    go_ret2
    exact ⟨rfl, by (repeat with_reducible first | exact Only.refl _ _ | refine Only.alloc ?_ _ | refine Only.drewN ?_ _ | refine Only.drew ?_ | refine Only.setOne ?_ _ _)⟩
  · have h4' : (p : Int).tmod 4 ≠ 0 := by rw [Int.tmod_eq_emod_of_nonneg (by omega)]; omega
    have hs : decide (p % 4 = 0 ∧ p / 4 < L) = false := by rw [decide_eq_false_iff_not]; omega
    rw [hs]
    clear h4 hs
    go_enter Try.func58, Try.ntmps58
    go_wp2_with fail
    go_quiet (fail)
    go_wp2_with fail
    go_ret2
    exact ⟨rfl, by (repeat with_reducible first | exact Only.refl _ _ | refine Only.alloc ?_ _ | refine Only.drewN ?_ _ | refine Only.drew ?_ | refine Only.setOne ?_ _ _)⟩
end Go.Proofs.Ythimhbfglgnohaa
