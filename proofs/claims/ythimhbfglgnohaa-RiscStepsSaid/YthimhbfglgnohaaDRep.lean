/- The document's machine in memory. -/
import Derived.Test.YthimhbfglgnohaaMAt
import Derived.BigRegion
import Derived.RegionTactic
set_option linter.unusedSimpArgs false
set_option linter.unusedVariables false
namespace Go.Proofs.Ythimhbfglgnohaa
open Go.RowKit M

/-- The cells of the document's machine. -/
def dcells (cv wv iv ov : Value) (s : St) : Array Value :=
  #[cv, wv, .int .u32 (s.R 0), .int .u32 (s.R 1), .int .u32 (s.R 2), .int .u32 (s.R 3), .int .u32 (s.R 4), .int .u32 (s.R 5), .int .u32 (s.R 6), .int .u32 (s.R 7), .int .u32 (s.R 8), .int .u32 (s.R 9), .int .u32 (s.R 10), .int .u32 (s.R 11), .int .u32 (s.R 12), .int .u32 (s.R 13), .int .u32 (s.R 14), .int .u32 (s.R 15), .int .u32 s.H, .bool s.n, .bool s.z, .bool s.c, .bool s.v, .int .i64 s.pc, iv, ov, .int .i64 s.fin, .int .i64 s.trap]
theorem dcells_reg (cv wv iv ov : Value) (s : St) {k : Nat} (h : k < 16) : (dcells cv wv iv ov s)[2 + k]? = some (.int .u32 (s.R k)) := by
  rcases lt16 h with rfl | rfl | rfl | rfl | rfl | rfl | rfl | rfl | rfl | rfl | rfl | rfl | rfl | rfl | rfl | rfl <;> rfl
theorem dcells_setR (cv wv iv ov : Value) (s : St) {k : Nat} (x : Nat) (h : k < 16) : (dcells cv wv iv ov s).setIfInBounds (2 + k) (.int .u32 x) = dcells cv wv iv ov { s with R := upd s.R k x } := by
  rcases lt16 h with rfl | rfl | rfl | rfl | rfl | rfl | rfl | rfl | rfl | rfl | rfl | rfl | rfl | rfl | rfl | rfl <;> simp [dcells, upd]
theorem dcells_H (cv wv iv ov : Value) (s : St) (x : Nat) : (dcells cv wv iv ov s).setIfInBounds 18 (.int .u32 x) = dcells cv wv iv ov { s with H := x } := rfl
theorem dcells_n (cv wv iv ov : Value) (s : St) (x : Bool) : (dcells cv wv iv ov s).setIfInBounds 19 (.bool x) = dcells cv wv iv ov { s with n := x } := rfl
theorem dcells_z (cv wv iv ov : Value) (s : St) (x : Bool) : (dcells cv wv iv ov s).setIfInBounds 20 (.bool x) = dcells cv wv iv ov { s with z := x } := rfl
theorem dcells_c (cv wv iv ov : Value) (s : St) (x : Bool) : (dcells cv wv iv ov s).setIfInBounds 21 (.bool x) = dcells cv wv iv ov { s with c := x } := rfl
theorem dcells_v (cv wv iv ov : Value) (s : St) (x : Bool) : (dcells cv wv iv ov s).setIfInBounds 22 (.bool x) = dcells cv wv iv ov { s with v := x } := rfl
theorem dcells_pc (cv wv iv ov : Value) (s : St) (x : Nat) : (dcells cv wv iv ov s).setIfInBounds 23 (.int .i64 x) = dcells cv wv iv ov { s with pc := x } := rfl
theorem dcells_iv (cv wv iv ov x : Value) (s : St) : (dcells cv wv iv ov s).setIfInBounds 24 x = dcells cv wv x ov s := rfl
theorem dcells_ov (cv wv iv ov x : Value) (s : St) : (dcells cv wv iv ov s).setIfInBounds 25 x = dcells cv wv iv x s := rfl
theorem dcells_fin (cv wv iv ov : Value) (s : St) (x : Nat) : (dcells cv wv iv ov s).setIfInBounds 26 (.int .i64 x) = dcells cv wv iv ov { s with fin := x } := rfl
theorem dcells_trap (cv wv iv ov : Value) (s : St) (x : Nat) : (dcells cv wv iv ov s).setIfInBounds 27 (.int .i64 x) = dcells cv wv iv ov { s with trap := x } := rfl

/-- The document's machine, by its four lists. -/
def DAt (Q : Nat → Prop) (w : World) (mb wb : Nat) (ob : Option Nat) (code : List Nat) (s : St) (cv iv ov : Value) : Prop :=
  Blk w mb (dcells cv (.slice (some ⟨wb, 0, none⟩) s.mem.length s.mem.length) iv ov s) 68 ∧ Blk w wb (U32s s.mem).toArray 26 ∧ mb ≠ wb ∧
    CRow (Own4 Q mb wb ob) w cv code ∧ BRow (Own4 Q mb wb ob) w iv s.inp ∧ w.ownsRow 0 5 1 ov s.out.length (U8s s.out) ∧ ov.ownBlock = ob ∧ ob ≠ some mb ∧ ob ≠ some wb
theorem DAt.quiet {Q : Nat → Prop} {w w' : World} {mb wb : Nat} {ob : Option Nat} {code : List Nat} {s : St} {cv iv ov : Value} (h : DAt Q w mb wb ob code s cv iv ov) (ho : Only Nil w w') : DAt Q w' mb wb ob code s cv iv ov := by
  obtain ⟨h1, h2, h3, h4, h5, h6, h7, h8, h9⟩ := h
  exact ⟨h1.kept ho (fun h => h), h2.kept ho (fun h => h), h3, h4.kept ho (fun _ h => h.elim), h5.kept ho (fun _ h => h.elim), ownsRow_only h6 ho (fun _ _ h => h), h7, h8, h9⟩
theorem DAt.own {Q : Nat → Prop} {w w' : World} {mb wb : Nat} {ob : Option Nat} {code : List Nat} {s s' : St} {cv iv ov : Value} (h : DAt Q w mb wb ob code s cv iv ov) (ho : Only (M.One mb) w w')
    (hB : Blk w' mb (dcells cv (.slice (some ⟨wb, 0, none⟩) s.mem.length s.mem.length) iv ov s') 68) (hm : s'.mem = s.mem) (hi : s'.inp = s.inp) (hu : s'.out = s.out) : DAt Q w' mb wb ob code s' cv iv ov := by
  obtain ⟨h1, h2, h3, h4, h5, h6, h7, h8, h9⟩ := h
  refine ⟨by rw [hm]; exact hB, by rw [hm]; exact h2.kept ho (fun h => h3 h.symm), h3, h4.kept ho own3_one, by rw [hi]; exact h5.kept ho own3_one, ?_, h7, h8, h9⟩
  rw [hu]
  exact ownsRow_only h6 ho (fun k hk h => h8 (by rw [← h7, hk, show k = mb from h]))

theorem dset_any (mb a r : Nat) (cv wv iv ov : Value) (s : St) (w : World) (hB : Blk w mb (dcells cv wv iv ov s) 68) (ha : a < 16) (hr : r < 4294967296) :
    Calls Try.prog 52 #[.pointer (some ⟨mb, 0, none⟩), .int .i64 a, .int .u32 r] w fun e w' => e = .returned (.tuple #[]) ∧ Blk w' mb (dcells cv wv iv ov (setR s a r)) 68 ∧ Only (One mb) w w' := by
  have cR := (hB.cell (2 + a)).trans (dcells_reg cv wv iv ov s ha)
  have fR := hB.free (2 + a)
  have c19 : w.cell? ⟨mb, 19, none⟩ = some (.bool s.n) := hB.cell 19
  have f19 := hB.free 19
  have c20 : w.cell? ⟨mb, 20, none⟩ = some (.bool s.z) := hB.cell 20
  have f20 := hB.free 20
  have a0 : (0 : Int) ≤ (a : Int) := Int.natCast_nonneg _
  have a1 : (a : Int) < 16 := by omega
  go_enter Try.func52, Try.ntmps52
  go_wp2_with fail
  go_end0
  have e1 : ((r : Int) / 2147483648 == 1) = decide (2147483648 ≤ r) := by rw [Bool.eq_iff_iff, beq_iff_eq, decide_eq_true_iff]; omega
  have e2 : ((r : Int) == 0) = (r == 0) := by rw [Bool.eq_iff_iff, beq_iff_eq, beq_iff_eq]; omega
  rw [e1, e2]
  refine ⟨rfl, ?_, by (repeat with_reducible first | exact Only.refl _ _ | refine Only.alloc ?_ _ | refine Only.drewN ?_ _ | refine Only.drew ?_ | refine Only.setOne ?_ _ _)⟩
  have h1 := ((hB.setCell (2 + a) (.int .u32 r)).setCell 19 (.bool (decide (2147483648 ≤ r)))).setCell 20 (.bool (r == 0))
  rw [dcells_setR cv wv iv ov s r ha, dcells_n, dcells_z] at h1
  exact h1

theorem dfault_any (mb : Nat) (cv wv iv ov : Value) (s : St) (w : World) (hB : Blk w mb (dcells cv wv iv ov s) 68) :
    Calls Try.prog 32 #[.pointer (some ⟨mb, 0, none⟩)] w fun e w' => e = .returned (.tuple #[]) ∧ Blk w' mb (dcells cv wv iv ov (ended s 15)) 68 ∧ Only (One mb) w w' := by
  have c26 : w.cell? ⟨mb, 26, none⟩ = some (.int .i64 s.fin) := hB.cell 26
  have f26 := hB.free 26
  have c27 : w.cell? ⟨mb, 27, none⟩ = some (.int .i64 s.trap) := hB.cell 27
  have f27 := hB.free 27
  have h1 := (hB.setCell 26 (.int .i64 (2 : Nat))).setCell 27 (.int .i64 (15 : Nat))
  rw [dcells_fin, dcells_trap] at h1
  have H1 := Lib.hid h1
  clear h1
  go_enter Try.func32, Try.ntmps32
  go_wp2_with fail
  go_end0
  exact ⟨rfl, H1.out, by (repeat with_reducible first | exact Only.refl _ _ | refine Only.alloc ?_ _ | refine Only.drewN ?_ _ | refine Only.drew ?_ | refine Only.setOne ?_ _ _)⟩

theorem dwords_any (N : Int) (n : Nat) (hN : (if 1048576 < (if N < 0 then 0 else N) then 1048576 else (if N < 0 then 0 else N)) = (n : Int)) (w : World) :
    Calls Try.prog 29 #[.int .i64 N] w fun e w' => e = .returned (.int .i64 n) ∧ w = w' := by
  have hn : (N < 0 → (n : Int) = 0) ∧ (1048576 < N → (n : Int) = 1048576) ∧ (0 ≤ N → N ≤ 1048576 → (n : Int) = N) := by
    rw [← hN]
    refine ⟨fun h => by rw [if_pos h]; rfl, fun h => ?_, fun h1 h2 => ?_⟩
    · rw [if_neg (by omega : ¬ N < 0), if_pos h]
    · rw [if_neg (by omega : ¬ N < 0), if_neg (by omega)]
  obtain ⟨n1, n2, n3⟩ := hn
  clear hN
  by_cases h1 : N < 0
  · have e := n1 h1
    clear n1 n2 n3
    go_enter Try.func29, Try.ntmps29
    go_wp2_with fail
    go_ret
    exact ⟨by first | rfl | (rw [e]; rfl), rfl⟩
  · by_cases h2 : 1048576 < N
    · have e := n2 h2
      clear n1 n2 n3
      go_enter Try.func29, Try.ntmps29
      go_wp2_with fail
      go_ret
      exact ⟨by first | rfl | (rw [e]; rfl), rfl⟩
    · have e := n3 (by omega) (by omega)
      have h1' : 0 ≤ N := by omega
      have h2' : N ≤ 1048576 := by omega
      clear n1 n2 n3 h1 h2
      go_enter Try.func29, Try.ntmps29
      go_wp2_with fail
      go_ret
      exact ⟨by first | rfl | (rw [e]; rfl), rfl⟩
end Go.Proofs.Ythimhbfglgnohaa
