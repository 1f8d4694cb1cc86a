/- What the stack machine comes to with the laws' codes. No Go program is imported. -/
import Derived.Test.YtbgmdckfkfkglaaSMath
import Derived.KernelRfl
set_option linter.unusedSimpArgs false
set_option linter.unusedVariables false
namespace Go.Proofs.Ytbgmdckfkfkglaa.M
open Go.RowKit

def cK9 : List Cod := [⟨1, 65⟩, ⟨33, 0⟩, ⟨0, 0⟩]
def sK9 : SS := ⟨[0, 0, 0, 0], [], [], [], [65], 0, 0, 2, 1, 0⟩
theorem run_k9 : sRun cK9 9 (ss0 4 0 []) = sK9 := by kernel_rfl

/-- The loop that reads and writes. -/
def cE9 : List Cod := [⟨32, 0⟩, ⟨26, 3⟩, ⟨0, 0⟩, ⟨31, 0⟩, ⟨33, 0⟩, ⟨25, 0⟩]
theorem echo9_round (m : List Int) (k : List (Nat × Nat)) (x : Nat) (t o : List Nat) (f p : Nat) (hx : x < 256) :
    sRun cE9 5 ⟨m, [], k, x :: t, o, f, p, 0, 0, 0⟩ = ⟨m, [], k, t, o ++ [x], f, p, 0, 0, 0⟩ := by
  have e : sRun cE9 5 ⟨m, [], k, x :: t, o, f, p, 0, 0, 0⟩ = ⟨m, [], k, t, o ++ [(((x : Nat) : Int) % 256).toNat], f, p, 0, 0, 0⟩ := by kernel_rfl
  rw [e, show (((x : Nat) : Int) % 256).toNat = x by omega]
theorem echo9_end (m : List Int) (k : List (Nat × Nat)) (o : List Nat) (f p : Nat) : sRun cE9 3 ⟨m, [], k, [], o, f, p, 0, 0, 0⟩ = ⟨m, [], k, [], o, f, p, 2, 1, 0⟩ := by kernel_rfl
theorem echo9_run (B : List Nat) (hB : ∀ x ∈ B, x < 256) : ∀ (m : List Int) (k : List (Nat × Nat)) (o : List Nat) (f p : Nat), sRun cE9 (5 * B.length + 3) ⟨m, [], k, B, o, f, p, 0, 0, 0⟩ = ⟨m, [], k, [], o ++ B, f, p, 2, 1, 0⟩ := by
  induction B with
  | nil => intro m k o f p; rw [List.append_nil]; exact echo9_end m k o f p
  | cons x t ih =>
    intro m k o f p
    rw [show 5 * (x :: t).length + 3 = 5 + (5 * t.length + 3) by rw [List.length_cons]; omega, sRun_add, echo9_round _ _ _ _ _ _ _ (hB x List.mem_cons_self), ih (fun y hy => hB y (List.mem_cons_of_mem _ hy))]
    rw [List.append_assoc]; rfl

/-- Two operands and an operation of theirs. -/
def cR9 (a b o : Int) : List Cod := [⟨1, a⟩, ⟨1, b⟩, ⟨o, 0⟩, ⟨0, 0⟩]
def sR9 (a b : Int) (R : Option Int) : SS := match R with
  | none => ⟨[], [a, b], [], [], [], 0, 0, 2, 2, 15⟩
  | some v => ⟨[], [v], [], [], [], 0, 0, 3, 1, 0⟩
/-- One instruction is done. -/
theorem sStep_at {code : List Cod} {s : SS} (q : Nat) (c : Cod) (hf : s.fin = 0) (hp : s.pc = q) (hc : code[q]? = some c) (hg : c.Good) : sStep code s = (sExec s c).getD (sEnded s 15) := by
  have hl := (List.getElem?_eq_some_iff.1 hc).1
  have e : code.getD q default = c := by rw [List.getD_eq_getElem?_getD, hc]; rfl
  unfold sStep
  rw [if_neg (by rw [hf]; decide)]
  unfold sDo
  rw [hp, if_pos (by omega), Int.toNat_natCast, e, if_pos hg]
theorem good_k {op k : Int} (h : hasK op = true) (h0 : 0 ≤ op) (h1 : op < 34) : (⟨op, k⟩ : Cod).Good := ⟨h0, h1, Or.inr h⟩
theorem good_0 {op : Int} (h0 : 0 ≤ op) (h1 : op < 34) : (⟨op, 0⟩ : Cod).Good := ⟨h0, h1, Or.inl rfl⟩
theorem run_r9 (a b o : Int) (h : 9 ≤ o) (h2 : o ≤ 24) (h14 : o ≠ 14) (h18 : o ≠ 18) : sRun (cR9 a b o) 9 (ss0 0 0 []) = sR9 a b (reck o a b) := by
  have ho : o = 9 ∨ o = 10 ∨ o = 11 ∨ o = 12 ∨ o = 13 ∨ o = 15 ∨ o = 16 ∨ o = 17 ∨ o = 19 ∨ o = 20 ∨ o = 21 ∨ o = 22 ∨ o = 23 ∨ o = 24 := by omega
  have h1 : sStep (cR9 a b o) (ss0 0 0 []) = ⟨[], [a], [], [], [], 0, 0, 1, 0, 0⟩ := by
    rw [sStep_at 0 ⟨1, a⟩ rfl rfl rfl (good_k (by decide) (by decide) (by decide))]
    kernel_rfl
  have h2 : sStep (cR9 a b o) ⟨[], [a], [], [], [], 0, 0, 1, 0, 0⟩ = ⟨[], [a, b], [], [], [], 0, 0, 2, 0, 0⟩ := by
    rw [sStep_at 1 ⟨1, b⟩ rfl rfl rfl (good_k (by decide) (by decide) (by decide))]
    kernel_rfl
  have e : sExec ⟨[], [a, b], [], [], [], 0, 0, 2, 0, 0⟩ ⟨o, 0⟩ = ((reck o a b).bind fun v => puts ⟨[], [a, b], [], [], [], 0, 0, 2, 0, 0⟩ 2 [v]).map sNext := by
    rcases ho with rfl | rfl | rfl | rfl | rfl | rfl | rfl | rfl | rfl | rfl | rfl | rfl | rfl | rfl
    all_goals kernel_rfl
  have h3 : sStep (cR9 a b o) ⟨[], [a, b], [], [], [], 0, 0, 2, 0, 0⟩ = (((reck o a b).bind fun v => puts ⟨[], [a, b], [], [], [], 0, 0, 2, 0, 0⟩ 2 [v]).map sNext).getD ⟨[], [a, b], [], [], [], 0, 0, 2, 2, 15⟩ := by
    rw [sStep_at 2 ⟨o, 0⟩ rfl rfl rfl (good_0 (by omega) (by omega)), e]
    rfl
  rw [sRun_succ, h1, sRun_succ, h2, sRun_succ, h3]
  cases reck o a b with
  | none => rw [sRun_fin _ _ _ (by show (2 : Nat) ≠ 0; decide)]; rfl
  | some v =>
    have e4 : ((((some v).bind fun v => puts ⟨[], [a, b], [], [], [], 0, 0, 2, 0, 0⟩ 2 [v]).map sNext).getD ⟨[], [a, b], [], [], [], 0, 0, 2, 2, 15⟩ : SS) = ⟨[], [v], [], [], [], 0, 0, 3, 0, 0⟩ := by kernel_rfl
    rw [e4, sRun_succ, sStep_at 3 ⟨0, 0⟩ rfl rfl rfl (good_0 (by decide) (by decide)), sRun_fin _ _ _ (by show (1 : Nat) ≠ 0; decide)]
    rfl

/-- Operands, one after the other. -/
def cF1 : List Cod := [⟨1, 7⟩, ⟨25, 0⟩]
def sF1 (m : List Int) (j : Nat) (p : Int) : SS := ⟨m, List.replicate j 7, [], [], [], 0, 0, p, 0, 0⟩
theorem full1_push (m : List Int) (j : Nat) (h : j + 1 ≤ 1000) : sStep cF1 (sF1 m j 0) = sF1 m (j + 1) 1 := by
  have e : sStep cF1 (sF1 m j 0) = ((puts (sF1 m j 0) 0 [7]).map sNext).getD (sEnded (sF1 m j 0) 15) := by kernel_rfl
  have e2 : puts (sF1 m j 0) 0 [7] = some (sF1 m (j + 1) 0) := by
    unfold puts sF1
    simp only [List.length_replicate, Nat.sub_zero, List.length_cons, List.length_nil]
    rw [if_pos (by omega)]
    rw [List.take_of_length_le (by simp), List.replicate_succ']
  rw [e, e2]; rfl
theorem full1_no (m : List Int) : sStep cF1 (sF1 m 1000 0) = sEnded (sF1 m 1000 0) 15 := by
  have e : sStep cF1 (sF1 m 1000 0) = ((puts (sF1 m 1000 0) 0 [7]).map sNext).getD (sEnded (sF1 m 1000 0) 15) := by kernel_rfl
  have e2 : puts (sF1 m 1000 0) 0 [7] = none := by
    unfold puts sF1
    simp only [List.length_replicate, Nat.sub_zero, List.length_cons, List.length_nil]
    rw [if_neg (by omega)]
  rw [e, e2]; rfl
theorem full1_jump (m : List Int) (j : Nat) : sStep cF1 (sF1 m j 1) = sF1 m j 0 := by kernel_rfl
theorem full1_run (m : List Int) : ∀ j, j ≤ 1000 → sRun cF1 (2 * j) (sF1 m 0 0) = sF1 m j 0 := by
  intro j
  induction j with
  | zero => intro _; rfl
  | succ j ih =>
    intro h
    rw [show 2 * (j + 1) = 2 * j + 2 by omega, sRun_add, ih (by omega), sRun_succ, full1_push m j h, sRun_succ, full1_jump]
    rfl
theorem full1_end (m : List Int) (k : Nat) (hk : 1 ≤ k) : ∃ t, sRun cF1 (2 * k - 1) (sF1 m 0 0) = t ∧ (t.fin == 0) = decide (k ≤ 1000) ∧ t.ops.length = min k 1000 := by
  refine ⟨_, rfl, ?_⟩
  by_cases h : k ≤ 1000
  · rw [show 2 * k - 1 = 2 * (k - 1) + 1 by omega, sRun_add, full1_run m (k - 1) (by omega), sRun_succ, full1_push m (k - 1) (by omega)]
    refine ⟨by rw [decide_eq_true h]; rfl, ?_⟩
    show (List.replicate (k - 1 + 1) (7 : Int)).length = _
    rw [List.length_replicate]; omega
  · rw [show 2 * k - 1 = 2 * 1000 + ((2 * k - 2002) + 1) by omega, sRun_add, full1_run m 1000 (by omega), sRun_succ, full1_no m, sRun_fin _ _ _ (by show (2 : Nat) ≠ 0; decide)]
    refine ⟨by rw [decide_eq_false h]; rfl, ?_⟩
    show (List.replicate 1000 (7 : Int)).length = _
    rw [List.length_replicate]; omega
/-- Calls, one in the other. -/
def cF2 : List Cod := [⟨27, 0⟩, ⟨0, 0⟩]
def sF2 (m : List Int) (j : Nat) : SS := ⟨m, [], List.replicate j (1, 0), [], [], 0, 0, 0, 0, 0⟩
theorem full2_call (m : List Int) (j : Nat) (h : j ≠ 1000) : sStep cF2 (sF2 m j) = sF2 m (j + 1) := by
  have e : sStep cF2 (sF2 m j) = (if (List.replicate j ((1 : Nat), (0 : Nat))).length = 1000 then none else some { sF2 m j with calls := List.replicate j (1, 0) ++ [(1, 0)], pc := 0 }).getD (sEnded (sF2 m j) 15) := by kernel_rfl
  rw [e, List.length_replicate, if_neg h, ← List.replicate_succ']
  rfl
theorem full2_no (m : List Int) : sStep cF2 (sF2 m 1000) = sEnded (sF2 m 1000) 15 := by
  have e : sStep cF2 (sF2 m 1000) = (if (List.replicate 1000 ((1 : Nat), (0 : Nat))).length = 1000 then none else some { sF2 m 1000 with calls := List.replicate 1000 (1, 0) ++ [(1, 0)], pc := 0 }).getD (sEnded (sF2 m 1000) 15) := by kernel_rfl
  rw [e, List.length_replicate, if_pos rfl]
  rfl
theorem full2_run (m : List Int) : ∀ j, j ≤ 1000 → sRun cF2 j (sF2 m 0) = sF2 m j := by
  intro j
  induction j with
  | zero => intro _; rfl
  | succ j ih =>
    intro h
    rw [sRun_add, ih (by omega), sRun_succ, full2_call m j (by omega)]
    rfl
theorem full2_end (m : List Int) (k : Nat) : ∃ t, sRun cF2 k (sF2 m 0) = t ∧ (t.fin == 0) = decide (k ≤ 1000) ∧ (t.fin = 0 ∨ t.trap = 15) := by
  refine ⟨_, rfl, ?_⟩
  by_cases h : k ≤ 1000
  · rw [full2_run m k h]
    exact ⟨by rw [decide_eq_true h]; rfl, Or.inl rfl⟩
  · rw [show k = 1000 + ((k - 1001) + 1) by omega, sRun_add, full2_run m 1000 (by omega), sRun_succ, full2_no m, sRun_fin _ _ _ (by show (2 : Nat) ≠ 0; decide)]
    exact ⟨by rw [decide_eq_false (by omega)]; rfl, Or.inr rfl⟩
end Go.Proofs.Ytbgmdckfkfkglaa.M
