/- Frames one behind another; words that are moved: what the stack machine comes to. No Go program is imported. -/
import Derived.Test.YtbgmdckfkfkglaaSLaw
set_option linter.unusedSimpArgs false
set_option linter.unusedVariables false
namespace Go.Proofs.Ytbgmdckfkfkglaa.M
open Go.RowKit

/-- Pieces of code, one behind another. -/
def blkL (f : Nat → List Cod) (i : Nat) : List Cod := (List.range i).flatMap f
theorem blkL_succ (f : Nat → List Cod) (i : Nat) : blkL f (i + 1) = blkL f i ++ f i := by unfold blkL; rw [List.range_succ, List.flatMap_append]; simp
theorem blkL_len {f : Nat → List Cod} {m : Nat} (h : ∀ j, (f j).length = m) (i : Nat) : (blkL f i).length = i * m := by
  induction i with
  | zero => simp [blkL]
  | succ i ih => rw [blkL_succ, List.length_append, ih, h, Nat.succ_mul]
theorem blkL_get {f : Nat → List Cod} {m : Nat} (h : ∀ j, (f j).length = m) {j r : Nat} (hr : r < m) : ∀ i, j < i → (blkL f i)[j * m + r]? = (f j)[r]? := by
  intro i
  induction i with
  | zero => intro h; omega
  | succ i ih =>
    intro hj
    rw [blkL_succ]
    by_cases hji : j < i
    · have : j * m + r < (blkL f i).length := by
        rw [blkL_len h]
        have : (j + 1) * m ≤ i * m := Nat.mul_le_mul_right m hji
        rw [Nat.succ_mul] at this
        omega
      rw [List.getElem?_append_left this]
      exact ih hji
    · have e : j = i := by omega
      subst e
      rw [List.getElem?_append_right (by rw [blkL_len h]; omega), blkL_len h, show j * m + r - j * m = r by omega]
theorem blkL_ext {f g : Nat → List Cod} (i : Nat) (h : ∀ j, j < i → f j = g j) : blkL f i = blkL g i := by
  induction i with
  | zero => rfl
  | succ i ih => rw [blkL_succ, blkL_succ, ih (fun j hj => h j (by omega)), h i (by omega)]
theorem blkL_mem {f : Nat → List Cod} {i : Nat} {c : Cod} (h : c ∈ blkL f i) : ∃ j, j < i ∧ c ∈ f j := by
  unfold blkL at h
  rw [List.mem_flatMap] at h
  obtain ⟨j, hj, hc⟩ := h
  exact ⟨j, List.mem_range.1 hj, hc⟩

theorem exec_push (s : SS) (k : Int) (h : s.ops.length < 1000) : sExec s ⟨1, k⟩ = some { s with ops := s.ops ++ [k], pc := s.pc + 1 } := by
  have e : sExec s ⟨1, k⟩ = (puts s 0 [k]).map sNext := by kernel_rfl
  rw [e]
  unfold puts
  rw [if_pos (by simp; omega)]
  simp [sNext]
theorem exec_local (s : SS) (k : Int) (h : s.ops.length < 1000) : sExec s ⟨5, k⟩ = some { s with ops := s.ops ++ [wrap32 (s.fp + k)], pc := s.pc + 1 } := by
  have e : sExec s ⟨5, k⟩ = (puts s 0 [wrap32 (s.fp + k)]).map sNext := by kernel_rfl
  rw [e]
  unfold puts
  rw [if_pos (by simp; omega)]
  simp [sNext]
theorem exec_store (s : SS) (a b : Int) (h : s.ops = [a, b]) (h0 : 0 ≤ a) (h1 : a < s.mem.length) : sExec s ⟨7, 0⟩ = some { s with mem := s.mem.set a.toNat b, ops := [], pc := s.pc + 1 } := by
  obtain ⟨m, o, c, i, u, f, t, p, e, r⟩ := s
  simp only at h h1
  subst h
  have e1 : sExec ⟨m, [a, b], c, i, u, f, t, p, e, r⟩ ⟨7, 0⟩ = (if 0 ≤ a ∧ a < m.length then puts ⟨m.set a.toNat b, [a, b], c, i, u, f, t, p, e, r⟩ 2 [] else none).map sNext := by kernel_rfl
  rw [e1, if_pos ⟨h0, h1⟩]
  rfl
theorem exec_call (s : SS) (k : Int) (h : s.calls.length ≠ 1000) : sExec s ⟨27, k⟩ = some { s with calls := s.calls ++ [((s.pc + 1).toNat, s.fp)], pc := k } := by
  have e1 : sExec s ⟨27, k⟩ = (if s.calls.length = 1000 then none else some { s with calls := s.calls ++ [((s.pc + 1).toNat, s.fp)], pc := k }) := by kernel_rfl
  rw [e1, if_neg h]
theorem exec_enter (s : SS) (k : Nat) (h : s.top + k ≤ s.mem.length) : sExec s ⟨28, k⟩ = some { s with fp := s.top, top := s.top + k, mem := cleared s.mem s.top k, pc := s.pc + 1 } := by
  have e1 : sExec s ⟨28, k⟩ = (sEnter s k).map sNext := by kernel_rfl
  rw [e1]
  unfold sEnter
  rw [if_neg (by omega), Int.toNat_natCast]
  rfl
theorem exec_leave (s : SS) (x : Nat × Nat) (h : s.calls.getLast? = some x) : sExec s ⟨29, 0⟩ = some { s with top := s.fp, pc := x.1, fp := x.2, calls := s.calls.dropLast } := by
  have e1 : sExec s ⟨29, 0⟩ = (match s.calls.getLast? with
    | none => none
    | some x => some { s with top := s.fp, pc := x.1, fp := x.2, calls := s.calls.dropLast }) := by kernel_rfl
  rw [e1, h]
theorem exec_move (s : SS) (p q k : Nat) (h : s.ops = [(p : Int), (q : Int)]) : sExec s ⟨8, k⟩ = if p + k ≤ s.mem.length ∧ q + k ≤ s.mem.length then some { s with mem := moved s.mem p q k, ops := [], pc := s.pc + 1 } else none := by
  obtain ⟨m, o, c, i, u, f, t, pc, e, r⟩ := s
  simp only at h
  subst h
  have e1 : sExec ⟨m, [(p : Int), (q : Int)], c, i, u, f, t, pc, e, r⟩ ⟨8, k⟩ = (if 0 ≤ (k : Int) ∧ 0 ≤ (p : Int) ∧ 0 ≤ (q : Int) ∧ (p : Int) + k ≤ m.length ∧ (q : Int) + k ≤ m.length then puts ⟨moved m (p : Int).toNat (q : Int).toNat (k : Int).toNat, [(p : Int), (q : Int)], c, i, u, f, t, pc, e, r⟩ 2 [] else none).map sNext := by kernel_rfl
  rw [e1]
  by_cases hh : p + k ≤ m.length ∧ q + k ≤ m.length
  · rw [if_pos (by omega), if_pos hh]; rfl
  · rw [if_neg (by omega), if_neg hh]; rfl
theorem exec_halt (s : SS) : sExec s ⟨0, 0⟩ = some (sEnded s 0) := by kernel_rfl

/-- Words that are kept, then moved. -/
def fM9 (l : List Int) (j : Nat) : List Cod := [⟨1, (j : Int)⟩, ⟨1, l.getD j 0⟩, ⟨7, 0⟩]
def cM9 (l : List Int) (p q k : Nat) : List Cod := blkL (fM9 l) l.length ++ [⟨1, (p : Int)⟩, ⟨1, (q : Int)⟩, ⟨8, (k : Int)⟩, ⟨0, 0⟩]
theorem fM9_len (l : List Int) (j : Nat) : (fM9 l j).length = 3 := rfl
theorem cM9_len (l : List Int) (p q k : Nat) : (cM9 l p q k).length = l.length * 3 + 4 := by unfold cM9; rw [List.length_append, blkL_len (fM9_len l)]; rfl
theorem cM9_get {l : List Int} {p q k j r : Nat} (hr : r < 3) (hj : j < l.length) : (cM9 l p q k)[j * 3 + r]? = (fM9 l j)[r]? := by
  unfold cM9
  rw [List.getElem?_append_left (by rw [blkL_len (fM9_len l)]; omega)]
  exact blkL_get (fM9_len l) hr _ hj
theorem cM9_end {l : List Int} {p q k r : Nat} : (cM9 l p q k)[l.length * 3 + r]? = ([⟨1, (p : Int)⟩, ⟨1, (q : Int)⟩, ⟨8, (k : Int)⟩, ⟨0, 0⟩] : List Cod)[r]? := by
  unfold cM9
  rw [List.getElem?_append_right (by rw [blkL_len (fM9_len l)]; omega), blkL_len (fM9_len l), show l.length * 3 + r - l.length * 3 = r by omega]
def sM9 (l : List Int) (i : Nat) : SS := ⟨l.take i ++ List.replicate (l.length - i) 0, [], [], [], [], 0, 0, ((i * 3 : Nat) : Int), 0, 0⟩
theorem sM9_len (l : List Int) (i : Nat) (h : i ≤ l.length) : (l.take i ++ List.replicate (l.length - i) (0 : Int)).length = l.length := by simp; omega
theorem step3 {code : List Cod} {s s1 s2 s3 : SS} (h1 : sStep code s = s1) (h2 : sStep code s1 = s2) (h3 : sStep code s2 = s3) : sRun code 3 s = s3 := by
  rw [sRun_succ, h1, sRun_succ, h2, sRun_succ, h3]; rfl
theorem getD_some {s t : SS} {X : Option SS} (h : X = some t) : X.getD s = t := by rw [h]; rfl
theorem moves_round (l : List Int) (p q k i : Nat) (hi : i < l.length) (hl : l.length ≤ 1000) : sRun (cM9 l p q k) 3 (sM9 l i) = sM9 l (i + 1) := by
  have hm := sM9_len l i (by omega)
  refine step3 (s1 := { sM9 l i with ops := [(i : Int)], pc := ((i * 3 : Nat) : Int) + 1 }) (s2 := { sM9 l i with ops := [(i : Int), l.getD i 0], pc := ((i * 3 : Nat) : Int) + 1 + 1 }) ?_ ?_ ?_
  · rw [sStep_at (i * 3) ⟨1, i⟩ rfl rfl (cM9_get (r := 0) (by decide) hi) (good_k (by decide) (by decide) (by decide))]
    exact getD_some (exec_push _ _ (by show 0 < 1000; decide))
  · rw [sStep_at (i * 3 + 1) ⟨1, l.getD i 0⟩ rfl (by show ((i * 3 : Nat) : Int) + 1 = _; omega) (cM9_get (r := 1) (by decide) hi) (good_k (by decide) (by decide) (by decide))]
    exact getD_some (exec_push _ _ (by show 1 < 1000; decide))
  · rw [sStep_at (i * 3 + 2) ⟨7, 0⟩ rfl (by show ((i * 3 : Nat) : Int) + 1 + 1 = _; omega) (cM9_get (r := 2) (by decide) hi) (good_0 (by decide) (by decide))]
    refine (getD_some (exec_store _ i (l.getD i 0) rfl (by omega) (by show (i : Int) < ((l.take i ++ List.replicate (l.length - i) (0 : Int)).length : Nat); rw [hm]; omega))).trans ?_
    unfold sM9
    simp only [SS.mk.injEq, true_and, and_true]
    refine ⟨?_, by omega⟩
    rw [Int.toNat_natCast]
    apply List.ext_getElem?
    intro n
    have g : l.getD i 0 = l[i] := by simp [List.getD, hi]
    rw [g, List.getElem?_set]
    by_cases h1 : i = n
    · subst h1
      rw [if_pos rfl, if_pos (by rw [hm]; exact hi), List.getElem?_append_left (by simp; omega)]
      simp [hi]
    · rw [if_neg h1]
      by_cases h2 : n < i
      · rw [List.getElem?_append_left (by simp; omega), List.getElem?_append_left (by simp; omega)]
        simp [List.getElem?_take, h2]; omega
      · by_cases h3 : n < l.length
        · rw [List.getElem?_append_right (by simp; omega), List.getElem?_append_right (by simp; omega)]
          simp only [List.getElem?_replicate, List.length_take]
          rw [if_pos (by omega), if_pos (by omega)]
        · rw [List.getElem?_eq_none (by simp; omega), List.getElem?_eq_none (by simp; omega)]
theorem moves_run (l : List Int) (p q k : Nat) (hl : l.length ≤ 1000) : ∀ i, i ≤ l.length → sRun (cM9 l p q k) (i * 3) (sM9 l 0) = sM9 l i := by
  intro i
  induction i with
  | zero => intro _; rfl
  | succ i ih => intro h; rw [show (i + 1) * 3 = i * 3 + 3 by omega, sRun_add, ih (by omega), moves_round l p q k i (by omega) hl]
theorem moves_end (l : List Int) (p q k : Nat) (hl : l.length ≤ 1000) : ∃ t, sRun (cM9 l p q k) (l.length * 3 + 4) (ss0 l.length 0 []) = t ∧
    ((p + k ≤ l.length ∧ q + k ≤ l.length) → t.fin = 1 ∧ t.mem = moved l p q k) ∧ (¬ (p + k ≤ l.length ∧ q + k ≤ l.length) → t.fin = 2 ∧ t.trap = 15) := by
  have e0 : ss0 l.length 0 [] = sM9 l 0 := by unfold ss0 sM9; simp
  have e1 : sM9 l l.length = ⟨l, [], [], [], [], 0, 0, ((l.length * 3 : Nat) : Int), 0, 0⟩ := by unfold sM9; simp
  refine ⟨_, rfl, ?_⟩
  rw [e0, sRun_add, moves_run l p q k hl _ (Nat.le_refl _), e1]
  have h1 : sStep (cM9 l p q k) ⟨l, [], [], [], [], 0, 0, ((l.length * 3 : Nat) : Int), 0, 0⟩ = ⟨l, [(p : Int)], [], [], [], 0, 0, ((l.length * 3 : Nat) : Int) + 1, 0, 0⟩ := by
    rw [sStep_at (l.length * 3) ⟨1, p⟩ rfl rfl (cM9_end (r := 0)) (good_k (by decide) (by decide) (by decide))]
    exact getD_some (exec_push _ _ (by show 0 < 1000; decide))
  have h2 : sStep (cM9 l p q k) ⟨l, [(p : Int)], [], [], [], 0, 0, ((l.length * 3 : Nat) : Int) + 1, 0, 0⟩ = ⟨l, [(p : Int), (q : Int)], [], [], [], 0, 0, ((l.length * 3 : Nat) : Int) + 1 + 1, 0, 0⟩ := by
    rw [sStep_at (l.length * 3 + 1) ⟨1, q⟩ rfl (by show ((l.length * 3 : Nat) : Int) + 1 = _; omega) (cM9_end (r := 1)) (good_k (by decide) (by decide) (by decide))]
    exact getD_some (exec_push _ _ (by show 1 < 1000; decide))
  rw [sRun_succ, h1, sRun_succ, h2, sRun_succ, sStep_at (l.length * 3 + 2) ⟨8, k⟩ rfl (by show ((l.length * 3 : Nat) : Int) + 1 + 1 = _; omega) (cM9_end (r := 2)) (good_k (by decide) (by decide) (by decide)), exec_move _ p q k rfl]
  by_cases hh : p + k ≤ l.length ∧ q + k ≤ l.length
  · rw [if_pos hh]
    refine ⟨fun _ => ?_, fun h => absurd hh h⟩
    show (sRun (cM9 l p q k) 1 ⟨moved l p q k, [], [], [], [], 0, 0, ((l.length * 3 : Nat) : Int) + 1 + 1 + 1, 0, 0⟩).fin = 1 ∧ (sRun (cM9 l p q k) 1 ⟨moved l p q k, [], [], [], [], 0, 0, ((l.length * 3 : Nat) : Int) + 1 + 1 + 1, 0, 0⟩).mem = _
    rw [sRun_succ, sStep_at (l.length * 3 + 3) ⟨0, 0⟩ rfl (by show ((l.length * 3 : Nat) : Int) + 1 + 1 + 1 = _; omega) (cM9_end (r := 3)) (good_0 (by decide) (by decide)), exec_halt]
    exact ⟨rfl, rfl⟩
  · rw [if_neg hh]
    refine ⟨fun h => absurd h hh, fun _ => ?_⟩
    rw [sRun_fin _ _ _ (by show (2 : Nat) ≠ 0; decide)]
    exact ⟨rfl, rfl⟩
end Go.Proofs.Ytbgmdckfkfkglaa.M

namespace Go.Proofs.Ytbgmdckfkfkglaa.M
open Go.RowKit
/-- Frames, one behind another. -/
def zF (S : List Nat) (j : Nat) : Nat := S.getD j 0 % 5 + 1
def tF (S : List Nat) : Nat → Nat
  | 0 => 5
  | i + 1 => tF S i + zF S i
def fF9 (S : List Nat) (v : Int) (j : Nat) : List Cod := [⟨27, ((j * 6 + 2 : Nat) : Int)⟩, ⟨0, 0⟩, ⟨28, ((zF S j : Nat) : Int)⟩, ⟨5, 0⟩, ⟨1, v⟩, ⟨7, 0⟩]
def cF9 (S : List Nat) (v : Int) : List Cod := blkL (fF9 S v) S.length ++ [⟨29, 0⟩]
theorem fF9_len (S : List Nat) (v : Int) (j : Nat) : (fF9 S v j).length = 6 := rfl
theorem cF9_len (S : List Nat) (v : Int) : (cF9 S v).length = S.length * 6 + 1 := by unfold cF9; rw [List.length_append, blkL_len (fF9_len S v)]; rfl
theorem cF9_get {S : List Nat} {v : Int} {j r : Nat} (hr : r < 6) (hj : j < S.length) : (cF9 S v)[j * 6 + r]? = (fF9 S v j)[r]? := by
  unfold cF9
  rw [List.getElem?_append_left (by rw [blkL_len (fF9_len S v)]; omega)]
  exact blkL_get (fF9_len S v) hr _ hj
theorem cF9_end {S : List Nat} {v : Int} : (cF9 S v)[S.length * 6]? = some ⟨29, 0⟩ := by
  unfold cF9
  rw [List.getElem?_append_right (by rw [blkL_len (fF9_len S v)]; omega), blkL_len (fF9_len S v), show S.length * 6 - S.length * 6 = 0 by omega]
  rfl
theorem tF_le (S : List Nat) (i : Nat) : tF S i ≤ 5 + 5 * i := by
  induction i with
  | zero => exact Nat.le_refl _
  | succ i ih => unfold tF zF; omega
theorem tF_lt (S : List Nat) (i : Nat) : tF S i < tF S (i + 1) := by show tF S i < tF S i + zF S i; unfold zF; omega
theorem tF_mono (S : List Nat) {j : Nat} : ∀ i, j < i → tF S j < tF S i := by
  intro i
  induction i with
  | zero => intro h; omega
  | succ i ih =>
    intro h
    have := tF_lt S i
    by_cases hji : j < i
    · have := ih hji; omega
    · rw [show j = i by omega]; exact this
/-- What the machine is behind so many levels. -/
structure FrAt (S : List Nat) (v : Int) (i : Nat) (s : SS) : Prop where
  mem : s.mem.length = 200
  ops : s.ops = []
  calls : s.calls.length = i
  pc : s.pc = ((i * 6 : Nat) : Int)
  fin : s.fin = 0
  top : s.top = tF S i
  fp : 0 < i → s.fp = tF S (i - 1)
  word : ∀ j, j < i → s.mem.getD (tF S j) 0 = v
theorem getD_set_ne {l : List Int} {a b : Nat} {x : Int} (h : a ≠ b) : (l.set a x).getD b 0 = l.getD b 0 := by
  rw [List.getD_eq_getElem?_getD, List.getD_eq_getElem?_getD, List.getElem?_set, if_neg h]
theorem getD_set_eq {l : List Int} {a : Nat} {x : Int} (h : a < l.length) : (l.set a x).getD a 0 = x := by
  rw [List.getD_eq_getElem?_getD, List.getElem?_set, if_pos rfl, if_pos h]; rfl
theorem cleared_len {m : List Int} {p k : Nat} (h : p + k ≤ m.length) : (cleared m p k).length = m.length := by unfold cleared; simp; omega
theorem cleared_below {m : List Int} {p k j : Nat} (h : p + k ≤ m.length) (hj : j < p) : (cleared m p k).getD j 0 = m.getD j 0 := by
  unfold cleared
  rw [List.getD_eq_getElem?_getD, List.getD_eq_getElem?_getD, List.append_assoc, List.getElem?_append_left (by simp; omega), List.getElem?_take, if_pos hj]
set_option maxHeartbeats 1600000 in
theorem frames_round (S : List Nat) (v : Int) (hS : S.length ≤ 20) (i : Nat) (hi : i < S.length) (s : SS) (h : FrAt S v i s) : ∃ t, sRun (cF9 S v) 5 s = t ∧ FrAt S v (i + 1) t := by
  have hT := tF_le S i
  have hZ : zF S i ≤ 5 := by unfold zF; omega
  have hZ1 : 1 ≤ zF S i := by unfold zF; omega
  have hT2 : (tF S i : Int) < (200 : Nat) := by omega
  have hT3 : tF S i < 200 := by omega
  have hT4 : tF S i + zF S i ≤ 200 := by omega
  have hc : s.calls.length ≠ 1000 := by rw [h.calls]; omega
  have hp : (s.pc + 1).toNat = i * 6 + 1 := by rw [h.pc]; omega
  have e1 : sStep (cF9 S v) s = { s with calls := s.calls ++ [(i * 6 + 1, s.fp)], pc := ((i * 6 + 2 : Nat) : Int) } := by
    rw [sStep_at (i * 6) ⟨27, ((i * 6 + 2 : Nat) : Int)⟩ h.fin h.pc (cF9_get (r := 0) (by decide) hi) (good_k (by decide) (by decide) (by decide)), exec_call _ _ hc, hp]
    rfl
  obtain ⟨s1, hs1⟩ : ∃ s1, ({ s with calls := s.calls ++ [(i * 6 + 1, s.fp)], pc := ((i * 6 + 2 : Nat) : Int) } : SS) = s1 := ⟨_, rfl⟩
  have e2 : sStep (cF9 S v) s1 = { s1 with fp := s1.top, top := s1.top + zF S i, mem := cleared s1.mem s1.top (zF S i), pc := s1.pc + 1 } := by
    rw [sStep_at (i * 6 + 2) ⟨28, ((zF S i : Nat) : Int)⟩ (by rw [← hs1]; exact h.fin) (by rw [← hs1]) (cF9_get (r := 2) (by decide) hi) (good_k (by decide) (by decide) (by decide)), exec_enter _ _ (by rw [← hs1]; show s.top + _ ≤ s.mem.length; rw [h.top, h.mem]; omega)]
    rfl
  obtain ⟨s2, hs2⟩ : ∃ s2, ({ s1 with fp := s1.top, top := s1.top + zF S i, mem := cleared s1.mem s1.top (zF S i), pc := s1.pc + 1 } : SS) = s2 := ⟨_, rfl⟩
  have f2 : s2.fp = tF S i := by rw [← hs2, ← hs1]; exact h.top
  have o2 : s2.ops = [] := by rw [← hs2, ← hs1]; exact h.ops
  have p2 : s2.pc = ((i * 6 + 3 : Nat) : Int) := by rw [← hs2, ← hs1]; show ((i * 6 + 2 : Nat) : Int) + 1 = _; omega
  have m2 : s2.mem = cleared s.mem (tF S i) (zF S i) := by rw [← hs2, ← hs1]; show cleared s.mem s.top _ = _; rw [h.top]
  have l2 : s2.mem.length = 200 := by rw [m2, cleared_len (by rw [h.mem]; exact hT4), h.mem]
  have n2 : s2.fin = 0 := by rw [← hs2, ← hs1]; exact h.fin
  have t2 : s2.top = tF S (i + 1) := by rw [← hs2, ← hs1]; show s.top + _ = tF S i + zF S i; rw [h.top]
  have c2 : s2.calls.length = i + 1 := by rw [← hs2, ← hs1]; show (s.calls ++ [(i * 6 + 1, s.fp)]).length = _; rw [List.length_append, h.calls]; rfl
  have w2 : wrap32 ((s2.fp : Int) + 0) = (tF S i : Int) := by
    rw [f2, Int.add_zero]; unfold wrap32; omega
  have e3 : sStep (cF9 S v) s2 = { s2 with ops := [(tF S i : Int)], pc := s2.pc + 1 } := by
    rw [sStep_at (i * 6 + 3) ⟨5, 0⟩ n2 p2 (cF9_get (r := 3) (by decide) hi) (good_k (by decide) (by decide) (by decide)), exec_local _ _ (by rw [o2]; decide), w2, o2]
    rfl
  obtain ⟨s3, hs3⟩ : ∃ s3, ({ s2 with ops := [(tF S i : Int)], pc := s2.pc + 1 } : SS) = s3 := ⟨_, rfl⟩
  have o3 : s3.ops = [(tF S i : Int)] := by rw [← hs3]
  have p3 : s3.pc = ((i * 6 + 4 : Nat) : Int) := by rw [← hs3]; show s2.pc + 1 = _; rw [p2]; omega
  have n3 : s3.fin = 0 := by rw [← hs3]; exact n2
  have e4 : sStep (cF9 S v) s3 = { s3 with ops := [(tF S i : Int), v], pc := s3.pc + 1 } := by
    rw [sStep_at (i * 6 + 4) ⟨1, v⟩ n3 p3 (cF9_get (r := 4) (by decide) hi) (good_k (by decide) (by decide) (by decide)), exec_push _ _ (by rw [o3]; show 1 < 1000; decide), o3]
    rfl
  obtain ⟨s4, hs4⟩ : ∃ s4, ({ s3 with ops := [(tF S i : Int), v], pc := s3.pc + 1 } : SS) = s4 := ⟨_, rfl⟩
  have o4 : s4.ops = [(tF S i : Int), v] := by rw [← hs4]
  have p4 : s4.pc = ((i * 6 + 5 : Nat) : Int) := by rw [← hs4]; show s3.pc + 1 = _; rw [p3]; omega
  have n4 : s4.fin = 0 := by rw [← hs4]; exact n3
  have m4 : s4.mem = s2.mem := by rw [← hs4, ← hs3]
  have hlt4 : (tF S i : Int) < (s4.mem.length : Nat) := by rw [m4, l2]; exact hT2
  have e5 : sStep (cF9 S v) s4 = { s4 with mem := s4.mem.set (tF S i) v, ops := [], pc := s4.pc + 1 } := by
    rw [sStep_at (i * 6 + 5) ⟨7, 0⟩ n4 p4 (cF9_get (r := 5) (by decide) hi) (good_0 (by decide) (by decide)), exec_store s4 (tF S i : Int) v o4 (Int.natCast_nonneg _) hlt4, Int.toNat_natCast]
    rfl
  refine ⟨_, rfl, ?_⟩
  rw [sRun_succ, e1, hs1, sRun_succ, e2, hs2, sRun_succ, e3, hs3, sRun_succ, e4, hs4, sRun_succ, e5]
  refine ⟨?_, rfl, ?_, ?_, n4, ?_, fun _ => ?_, fun j hj => ?_⟩
  · show (s4.mem.set _ _).length = 200; rw [List.length_set, m4, l2]
  · show s4.calls.length = i + 1; rw [← c2, ← hs4, ← hs3]
  · show s4.pc + 1 = _; rw [p4]; omega
  · show s4.top = _; rw [← t2, ← hs4, ← hs3]
  · show s4.fp = _; rw [show i + 1 - 1 = i by omega, ← f2, ← hs4, ← hs3]
  · show (s4.mem.set (tF S i) v).getD (tF S j) 0 = v
    by_cases hji : j = i
    · subst hji; exact getD_set_eq (by rw [m4, l2]; exact hT3)
    · have hlt := tF_mono S i (show j < i by omega)
      rw [getD_set_ne (Nat.ne_of_gt hlt), m4, m2, cleared_below (by rw [h.mem]; exact hT4) hlt]
      exact h.word j (by omega)
theorem frames_run (S : List Nat) (v : Int) (hS : S.length ≤ 20) : ∀ i, i ≤ S.length → FrAt S v i (sRun (cF9 S v) (i * 5) (ss0 200 5 [])) := by
  intro i
  induction i with
  | zero => intro _; exact ⟨List.length_replicate, rfl, rfl, rfl, rfl, rfl, fun h => absurd h (Nat.lt_irrefl 0), fun j hj => absurd hj (Nat.not_lt_zero _)⟩
  | succ i ih =>
    intro h
    obtain ⟨t, e, ht⟩ := frames_round S v hS i h _ (ih (by omega))
    rw [show (i + 1) * 5 = i * 5 + 5 by omega, sRun_add, e]
    exact ht
/-- The last frame goes. -/
theorem frames_leave (S : List Nat) (v : Int) (s : SS) (h : FrAt S v S.length s) (h0 : 0 < S.length) : (sStep (cF9 S v) s).top = tF S (S.length - 1) := by
  obtain ⟨x, hx⟩ : ∃ x, s.calls.getLast? = some x := by
    cases hc : s.calls with
    | nil => have := h.calls; rw [hc] at this; simp at this; omega
    | cons a t => exact ⟨_, List.getLast?_cons ..⟩
  rw [sStep_at (S.length * 6) ⟨29, 0⟩ h.fin h.pc cF9_end (good_0 (by decide) (by decide)), exec_leave _ _ hx]
  exact h.fp h0
end Go.Proofs.Ytbgmdckfkfkglaa.M
