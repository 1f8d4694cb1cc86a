/- The machine's small methods. -/
import Derived.Test.YthimhbfglgnohaaMRep
import Derived.Test.YthimhbfglgnohaaMem
import Derived.Deep.QuietTactic
import Derived.BigQuiet
import Derived.Outline
set_option linter.unusedSimpArgs false
set_option linter.unusedVariables false
namespace Go.Proofs.Ythimhbfglgnohaa
open Go.RowKit M

theorem M.Only.drewN {S : Nat → Prop} {a w : World} (h : Only S a w) (q : Nat) : Only S a (w.drewN q) := ⟨h.os, h.tape, h.output, h.size, h.block⟩
theorem M.Blk.drewN {w : World} {b : Nat} {cs : Array Value} {t : TypeId} (h : Blk w b cs t) (q : Nat) : Blk (w.drewN q) b cs t := h
theorem M.Blk.of {w : World} {b : Nat} {cs cs' : Array Value} {t : TypeId} (h : Blk w b cs t) (e : cs = cs') : Blk w b cs' t := e ▸ h

theorem M.Only.setOne {mb : Nat} {a w : World} (h : Only (One mb) a w) (o : Nat) (u : Value) : Only (One mb) a (w.setCell ⟨mb, o, none⟩ u) := h.setCell' (One mb) rfl u

theorem set_any (mb a r : Nat) (cv wv iv ov : Value) (s : St) (w : World) (hB : Blk w mb (icells cv wv iv ov s) 65) (ha : a < 16) (hr : r < 4294967296) :
    Calls Try.prog 59 #[.pointer (some ⟨mb, 0, none⟩), .int .i64 a, .int .u32 r] w fun e w' => e = .returned (.tuple #[]) ∧ Blk w' mb (icells cv wv iv ov (setR s a r)) 65 ∧ Only (One mb) w w' := by
  have cR := (hB.cell (4 + a)).trans (icells_reg cv wv iv ov s ha)
  have fR := hB.free (4 + a)
  have c21 : w.cell? ⟨mb, 21, none⟩ = some (.bool s.n) := hB.cell 21
  have f21 := hB.free 21
  have c22 : w.cell? ⟨mb, 22, none⟩ = some (.bool s.z) := hB.cell 22
  have f22 := hB.free 22
  go_enter Try.func59, Try.ntmps59
  go_wp2_with fail
  go_end0
  have e1 : decide (wrap32 (r : Int) < 0) = decide (2147483648 ≤ r) := by rw [decide_eq_decide]; unfold wrap32; omega
  have e2 : ((r : Int) == 0) = (r == 0) := by rw [Bool.eq_iff_iff, beq_iff_eq, beq_iff_eq]; omega
  rw [e1, e2]
  refine ⟨rfl, ?_, by (repeat with_reducible first | exact Only.refl _ _ | refine Only.alloc ?_ _ | refine Only.drewN ?_ _ | refine Only.drew ?_ | refine Only.setOne ?_ _ _)⟩
  have h1 := ((hB.setCell (4 + a) (.int .u32 r)).setCell 21 (.bool (decide (2147483648 ≤ r)))).setCell 22 (.bool (r == 0))
  rw [icells_setR cv wv iv ov s r ha, icells_n, icells_z] at h1
  exact h1

theorem finish_any (mb t : Nat) (cv wv iv ov : Value) (s : St) (w : World) (hB : Blk w mb (icells cv wv iv ov s) 65) (ht : t ≤ 15) :
    Calls Try.prog 31 #[.pointer (some ⟨mb, 0, none⟩), .int .i64 t] w fun e w' => e = .returned (.tuple #[]) ∧ Blk w' mb (icells cv wv iv ov (ended s t)) 65 ∧ Only (One mb) w w' := by
  have c26 : w.cell? ⟨mb, 26, none⟩ = some (.int .i64 s.fin) := hB.cell 26
  have f26 := hB.free 26
  have c27 : w.cell? ⟨mb, 27, none⟩ = some (.int .i64 s.trap) := hB.cell 27
  have f27 := hB.free 27
  by_cases h0 : t = 0
  · subst h0
    have h1 := (hB.setCell 26 (.int .i64 (1 : Nat))).setCell 27 (.int .i64 (0 : Nat))
    rw [icells_fin, icells_trap] at h1
    have H1 := Lib.hid h1
    clear h1
    go_enter Try.func31, Try.ntmps31
    go_wp2_with fail
    go_end0
    exact ⟨rfl, H1.out, by (repeat with_reducible first | exact Only.refl _ _ | refine Only.alloc ?_ _ | refine Only.drewN ?_ _ | refine Only.drew ?_ | refine Only.setOne ?_ _ _)⟩
  · have hne : ((t : Int) != 0) = true := by simp; omega
    have h1 := ((hB.setCell 26 (.int .i64 (1 : Nat))).setCell 27 (.int .i64 t)).setCell 26 (.int .i64 (2 : Nat))
    rw [icells_fin, icells_trap, icells_fin] at h1
    have e : ended s t = { s with fin := 2, trap := t } := by unfold ended; rw [if_neg h0]
    rw [e]
    have H1 := Lib.hid h1
    clear h1 h0 e
    go_enter Try.func31, Try.ntmps31
    go_wp2_with fail
    go_end0
    exact ⟨rfl, H1.out, by (repeat with_reducible first | exact Only.refl _ _ | refine Only.alloc ?_ _ | refine Only.drewN ?_ _ | refine Only.drew ?_ | refine Only.setOne ?_ _ _)⟩

theorem carry_any (mb : Nat) (u : Bool) (cv wv iv ov : Value) (s : St) (w : World) (hB : Blk w mb (icells cv wv iv ov s) 65) :
    Calls Try.prog 71 #[.pointer (some ⟨mb, 0, none⟩), .bool u] w fun e w' => e = .returned (.int .i64 (if u && s.c then 1 else 0 : Nat)) ∧ w = w' := by
  have c23 : w.cell? ⟨mb, 23, none⟩ = some (.bool s.c) := hB.cell 23
  obtain ⟨c, hc⟩ : ∃ c, s.c = c := ⟨_, rfl⟩
  rw [hc] at c23 ⊢
  clear hB hc
  cases u <;> cases c
  all_goals
    go_enter Try.func71, Try.ntmps71
    go_wp2_with fail
    go_ret
    exact ⟨rfl, rfl⟩

set_option maxHeartbeats 800000 in
theorem sum_any (mb b n : Nat) (u : Bool) (cv wv iv ov : Value) (s : St) (w : World) (hB : Blk w mb (icells cv wv iv ov s) 65) (hb : b < 4294967296) (hn : n < 4294967296) {k : Nat} (hk : (if u && s.c then 1 else 0 : Nat) = k) :
    Calls Try.prog 66 #[.pointer (some ⟨mb, 0, none⟩), .int .u32 b, .int .u32 n, .bool u] w fun e w' => e = .returned (.int .u32 ((b + n + k) % 4294967296 : Nat)) ∧
      Blk w' mb (icells cv wv iv ov { s with c := decide (4294967296 ≤ b + n + k), v := decide (S b + S n + k ≠ wrap32 (S b + S n + k)) }) 65 ∧ Only (One mb) w w' := by
  have c23 : w.cell? ⟨mb, 23, none⟩ = some (.bool s.c) := hB.cell 23
  have f23 := hB.free 23
  have c24 : w.cell? ⟨mb, 24, none⟩ = some (.bool s.v) := hB.cell 24
  have f24 := hB.free 24
  have cC := carry_any mb u cv wv iv ov s w hB
  rw [hk] at cC
  have hk1 : k ≤ 1 := by rw [← hk]; split <;> omega
  have hb1 := S_i32 b hb
  have hn1 := S_i32 n hn
  unfold I32 at hb1 hn1
  have eb := w32_nat b hb
  have en := w32_nat n hn
  obtain ⟨B, hB'⟩ : ∃ B, S b = B := ⟨_, rfl⟩
  obtain ⟨N, hN'⟩ : ∃ N, S n = N := ⟨_, rfl⟩
  rw [hB'] at hb1 eb ⊢
  rw [hN'] at hn1 en ⊢
  have h1 := (hB.setCell 23 (.bool (decide (4294967296 ≤ b + n + k)))).setCell 24 (.bool (decide (B + N + k ≠ wrap32 (B + N + k))))
  rw [icells_c, icells_v] at h1
  have H1 := Lib.hid h1
  have HW : Hid (wrap64 (wrap32 (B + N + k)) = wrap32 (B + N + k)) := Lib.hid (by unfold wrap64 wrap32; omega)
  clear hk h1 hB' hN'
  go_enter Try.func66, Try.ntmps66
  go_wp2_with fail
  refine cC.mono ?_
  rintro e w1 ⟨rfl, rfl⟩
  go_wp2_with fail
  go_ret
  have e1 : (((b : Int) + n + k) / 4294967296 != 0) = decide (4294967296 ≤ b + n + k) := by rw [Bool.eq_iff_iff, bne_iff_ne, decide_eq_true_iff]; omega
  have e2 : (B + N + (k : Int) != wrap64 (wrap32 (B + N + k))) = decide (B + N + k ≠ wrap32 (B + N + k)) := by
    rw [HW.out, Bool.eq_iff_iff, bne_iff_ne, decide_eq_true_iff]
  have e3 : ((b : Int) + n + k) % 4294967296 = (((b + n + k) % 4294967296 : Nat) : Int) := by omega
  refine ⟨?_, ?_, by (repeat with_reducible first | exact Only.refl _ _ | refine Only.alloc ?_ _ | refine Only.drewN ?_ _ | refine Only.drew ?_ | refine Only.setOne ?_ _ _)⟩
  · exact congrArg (fun x => Ending.returned (.int .u32 x)) e3
  · rw [e1, e2]
    exact H1.out

set_option maxHeartbeats 800000 in
theorem difference_any (mb b n : Nat) (u : Bool) (cv wv iv ov : Value) (s : St) (w : World) (hB : Blk w mb (icells cv wv iv ov s) 65) (hb : b < 4294967296) (hn : n < 4294967296) {k : Nat} (hk : (if u && s.c then 1 else 0 : Nat) = k) :
    Calls Try.prog 67 #[.pointer (some ⟨mb, 0, none⟩), .int .u32 b, .int .u32 n, .bool u] w fun e w' => e = .returned (.int .u32 (U ((b : Int) - n - k) : Nat)) ∧
      Blk w' mb (icells cv wv iv ov { s with c := decide (b < n + k), v := decide (S b - S n - k ≠ wrap32 (S b - S n - k)) }) 65 ∧ Only (One mb) w w' := by
  have c23 : w.cell? ⟨mb, 23, none⟩ = some (.bool s.c) := hB.cell 23
  have f23 := hB.free 23
  have c24 : w.cell? ⟨mb, 24, none⟩ = some (.bool s.v) := hB.cell 24
  have f24 := hB.free 24
  have cC := carry_any mb u cv wv iv ov s w hB
  rw [hk] at cC
  have hk1 : k ≤ 1 := by rw [← hk]; split <;> omega
  have hb1 := S_i32 b hb
  have hn1 := S_i32 n hn
  unfold I32 at hb1 hn1
  have eb := w32_nat b hb
  have en := w32_nat n hn
  obtain ⟨B, hB'⟩ : ∃ B, S b = B := ⟨_, rfl⟩
  obtain ⟨N, hN'⟩ : ∃ N, S n = N := ⟨_, rfl⟩
  rw [hB'] at hb1 eb ⊢
  rw [hN'] at hn1 en ⊢
  have h1 := (hB.setCell 23 (.bool (decide (b < n + k)))).setCell 24 (.bool (decide (B - N - k ≠ wrap32 (B - N - k))))
  rw [icells_c, icells_v] at h1
  have H1 := Lib.hid h1
  have HW : Hid (wrap64 (wrap32 (B - N - k)) = wrap32 (B - N - k)) := Lib.hid (by unfold wrap64 wrap32; omega)
  clear hk h1 hB' hN'
  go_enter Try.func67, Try.ntmps67
  go_wp2_with fail
  refine cC.mono ?_
  rintro e w1 ⟨rfl, rfl⟩
  go_wp2_with fail
  go_ret
  have e1 : decide ((b : Int) - n - k < 0) = decide (b < n + k) := by rw [decide_eq_decide]; omega
  have e2 : (B - N - (k : Int) != wrap64 (wrap32 (B - N - k))) = decide (B - N - k ≠ wrap32 (B - N - k)) := by
    rw [HW.out, Bool.eq_iff_iff, bne_iff_ne, decide_eq_true_iff]
  have e3 : ((b : Int) - n - k) % 4294967296 = ((U ((b : Int) - n - k) : Nat) : Int) := by unfold U; omega
  refine ⟨?_, ?_, by (repeat with_reducible first | exact Only.refl _ _ | refine Only.alloc ?_ _ | refine Only.drewN ?_ _ | refine Only.drew ?_ | refine Only.setOne ?_ _ _)⟩
  · exact congrArg (fun x => Ending.returned (.int .u32 x)) e3
  · rw [e1, e2]
    exact H1.out

end Go.Proofs.Ythimhbfglgnohaa
