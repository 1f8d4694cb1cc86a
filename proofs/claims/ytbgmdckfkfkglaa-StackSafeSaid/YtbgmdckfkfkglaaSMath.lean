/- The stack machine as plain mathematics: its state, a step, a run. No Go program is imported. -/
import Derived.Test.YtbgmdckfkfkglaaCMath
import Derived.Test.YtbgmdckfkfkglaaAMath
set_option linter.unusedSimpArgs false
set_option linter.unusedVariables false
namespace Go.Proofs.Ytbgmdckfkfkglaa.M
open Go.RowKit

structure SS where
  mem : List Int
  ops : List Int
  calls : List (Nat × Nat)
  inp : List Nat
  out : List Nat
  fp : Nat
  top : Nat
  pc : Int
  fin : Nat
  trap : Nat

/-- What a machine keeps to, whatever its code. -/
structure SS.Ok (s : SS) : Prop where
  mem : ∀ x ∈ s.mem, I32 x
  ops : ∀ x ∈ s.ops, I32 x
  inp : ∀ x ∈ s.inp, x < 256
  out : ∀ x ∈ s.out, x < 256
  len : s.mem.length ≤ 1048576
  nops : s.ops.length ≤ 1000
  ncalls : s.calls.length ≤ 1000
  fp : s.fp ≤ s.mem.length
  top : s.top ≤ s.mem.length
  pc1 : -2147483648 ≤ s.pc
  pc2 : s.pc ≤ 2147483647
  kept : ∀ c ∈ s.calls, c.1 ≤ 2147483647 ∧ c.2 ≤ s.mem.length
  fin : s.fin ≤ 2
  trap : s.trap ≤ 15

/-- n operands are taken, others are left; nothing: these are too many. -/
def puts (s : SS) (n : Nat) (l : List Int) : Option SS :=
  if s.ops.length - n + l.length ≤ 1000 then some { s with ops := s.ops.take (s.ops.length - n) ++ l } else none
/-- An operand, counted from the topmost one on. -/
def opd (s : SS) (i : Nat) : Int := s.ops.getD (s.ops.length - 1 - i) 0
def one (b : Bool) : Int := if b then 1 else 0
def sK (n : Int) : Nat := U n % 32
/-- What an operation makes of two operands. -/
def reck (op : Int) (a b : Int) : Option Int :=
  if op = 9 then some (wrap32 (a + b))
  else if op = 10 then some (wrap32 (a - b))
  else if op = 11 then some (wrap32 (a * b))
  else if op = 12 then (if b < 1 then none else some (a / b))
  else if op = 13 then (if b < 1 then none else some (a % b))
  else if op = 15 then some (bits .and .i32 a b)
  else if op = 16 then some (bits .or .i32 a b)
  else if op = 17 then some (bits .xor .i32 a b)
  else if op = 19 then some (wrap32 (a % 4294967296 * 2 ^ sK b % 4294967296))
  else if op = 20 then some (a / 2 ^ sK b)
  else if op = 21 then some (S (rorN (U a) (sK b)))
  else if op = 22 then some (one (a == b))
  else if op = 23 then some (one (decide (a < b)))
  else if op = 24 then some (one (decide (a ≤ b)))
  else none
/-- Words are moved as if they were read first. -/
def moved (m : List Int) (p q k : Nat) : List Int := m.take p ++ (m.drop q).take k ++ m.drop (p + k)
/-- A frame of noughts. -/
def cleared (m : List Int) (p k : Nat) : List Int := m.take p ++ List.replicate k 0 ++ m.drop (p + k)

def sOne (s : SS) (op : Int) : Option SS :=
  if s.ops.length = 0 then none
  else if op = 3 then puts s 1 []
  else if op = 2 then puts s 1 [opd s 0, opd s 0]
  else if op = 6 then (if 0 ≤ opd s 0 ∧ opd s 0 < s.mem.length then puts s 1 [s.mem.getD (opd s 0).toNat 0] else none)
  else if op = 14 then puts s 1 [wrap32 (0 - opd s 0)]
  else if op = 18 then puts s 1 [bits .xor .i32 (-1) (opd s 0)]
  else puts { s with out := s.out ++ [(opd s 0 % 256).toNat] } 1 []
def sTwo (s : SS) (c : Cod) : Option SS :=
  if s.ops.length < 2 then none
  else if c.op = 4 then puts s 2 [opd s 0, opd s 1]
  else if c.op = 7 then (if 0 ≤ opd s 1 ∧ opd s 1 < s.mem.length then puts { s with mem := s.mem.set (opd s 1).toNat (opd s 0) } 2 [] else none)
  else if c.op = 8 then (if 0 ≤ c.k ∧ 0 ≤ opd s 1 ∧ 0 ≤ opd s 0 ∧ opd s 1 + c.k ≤ s.mem.length ∧ opd s 0 + c.k ≤ s.mem.length then puts { s with mem := moved s.mem (opd s 1).toNat (opd s 0).toNat c.k.toNat } 2 [] else none)
  else (reck c.op (opd s 1) (opd s 0)).bind fun v => puts s 2 [v]
def sEnter (s : SS) (k : Int) : Option SS :=
  if k < 0 ∨ (s.mem.length : Int) < s.top + k then none else some { s with fp := s.top, top := s.top + k.toNat, mem := cleared s.mem s.top k.toNat }
def sGetc (s : SS) : Option SS :=
  if s.inp.length = 0 then puts s 0 [0] else (puts s 0 [(s.inp.getD 0 0 : Nat)]).map fun t => { t with inp := s.inp.drop 1 }
/-- An instruction that the next one follows. -/
def sChange (s : SS) (c : Cod) : Option SS :=
  if c.op = 1 then puts s 0 [c.k]
  else if c.op = 5 then puts s 0 [wrap32 (s.fp + c.k)]
  else if c.op = 28 then sEnter s c.k
  else if c.op = 31 then sGetc s
  else if c.op = 32 then puts s 0 [one (s.inp.length == 0)]
  else if c.op = 3 ∨ c.op = 2 ∨ c.op = 6 ∨ c.op = 14 ∨ c.op = 18 ∨ c.op = 33 then sOne s c.op
  else sTwo s c
def sEnded (s : SS) (t : Nat) : SS := { s with fin := if t = 0 then 1 else 2, trap := t }
/-- An instruction behind which PC isn't just one more. -/
def sTurn (s : SS) (c : Cod) : Option SS :=
  if c.op = 0 then some (sEnded s 0)
  else if c.op = 30 then (if c.k < 1 ∨ 15 < c.k then none else some (sEnded s c.k.toNat))
  else if c.op = 25 then some { s with pc := c.k }
  else if c.op = 26 then (if s.ops.length = 0 then none else some { s with ops := s.ops.take (s.ops.length - 1), pc := if opd s 0 = 0 then c.k else s.pc + 1 })
  else if c.op = 27 then (if s.calls.length = 1000 then none else some { s with calls := s.calls ++ [((s.pc + 1).toNat, s.fp)], pc := c.k })
  else match s.calls.getLast? with
    | none => none
    | some x => some { s with top := s.fp, pc := x.1, fp := x.2, calls := s.calls.dropLast }
def isTurn (op : Int) : Bool := decide (op = 0 ∨ op = 30 ∨ op = 25 ∨ op = 26 ∨ op = 27 ∨ op = 29)
def sNext (s : SS) : SS := { s with pc := s.pc + 1 }
def sExec (s : SS) (c : Cod) : Option SS := if isTurn c.op then sTurn s c else (sChange s c).map sNext
def sDo (code : List Cod) (s : SS) : Option SS :=
  if 0 ≤ s.pc ∧ s.pc < code.length then (if (code.getD s.pc.toNat default).Good then sExec s (code.getD s.pc.toNat default) else none) else none
def sStep (code : List Cod) (s : SS) : SS := if s.fin ≠ 0 then s else (sDo code s).getD (sEnded s 15)
def sRun (code : List Cod) : Nat → SS → SS
  | 0, s => s
  | k + 1, s => if s.fin ≠ 0 then s else sRun code k (sStep code s)

theorem sRun_fin (code : List Cod) (k : Nat) (s : SS) (h : s.fin ≠ 0) : sRun code k s = s := by
  cases k with
  | zero => rfl
  | succ k => unfold sRun; rw [if_pos h]
theorem sStep_fin (code : List Cod) (s : SS) (h : s.fin ≠ 0) : sStep code s = s := by unfold sStep; rw [if_pos h]
theorem sRun_succ (code : List Cod) (k : Nat) (s : SS) : sRun code (k + 1) s = sRun code k (sStep code s) := by
  by_cases h : s.fin ≠ 0
  · rw [sRun_fin _ _ _ h, sStep_fin _ _ h, sRun_fin _ _ _ h]
  · show (if s.fin ≠ 0 then s else sRun code k (sStep code s)) = _
    rw [if_neg h]
theorem sRun_add (code : List Cod) (a b : Nat) (s : SS) : sRun code (a + b) s = sRun code b (sRun code a s) := by
  induction a generalizing s with
  | zero => rw [Nat.zero_add]; rfl
  | succ a ih => rw [show a + 1 + b = (a + b) + 1 by omega, sRun_succ, ih, sRun_succ]
/-- A machine that was made. -/
def ss0 (n base : Nat) (inp : List Nat) : SS := ⟨List.replicate n 0, [], [], inp, [], base, base, 0, 0, 0⟩

theorem getD_mem {P : Int → Prop} {l : List Int} (h : ∀ x ∈ l, P x) (h0 : P 0) (k : Nat) : P (l.getD k 0) := by
  rw [List.getD_eq_getElem?_getD]
  cases e : l[k]? with
  | none => exact h0
  | some x => exact h x (List.mem_of_getElem? e)
theorem opd_i32 {s : SS} (h : s.Ok) (i : Nat) : I32 (opd s i) := getD_mem h.ops (by unfold I32; omega) _
theorem one_i32 (b : Bool) : I32 (one b) := by unfold one I32; split <;> omega
theorem w32_i32 (a : Int) : I32 (wrap32 a) := by rw [w32]; exact S_i32 _ (U_lt a)
theorem puts_ok {s t : SS} {n : Nat} {l : List Int} (h : s.Ok) (hl : ∀ x ∈ l, I32 x) (e : puts s n l = some t) : t.Ok := by
  unfold puts at e
  split at e
  · injection e with e
    subst e
    refine ⟨h.mem, fun x hx => ?_, h.inp, h.out, h.len, ?_, h.ncalls, h.fp, h.top, h.pc1, h.pc2, h.kept, h.fin, h.trap⟩
    · rcases List.mem_append.1 hx with hx | hx
      · exact h.ops x (List.mem_of_mem_take hx)
      · exact hl x hx
    · simp only [List.length_append, List.length_take]; omega
  · cases e
theorem puts_keeps {s t : SS} {n : Nat} {l : List Int} (e : puts s n l = some t) : t.pc = s.pc ∧ t.fin = s.fin ∧ t.trap = s.trap ∧ t.mem = s.mem ∧ t.out = s.out ∧ t.inp = s.inp ∧ t.calls = s.calls ∧ t.fp = s.fp ∧ t.top = s.top ∧ t.ops.length = s.ops.length - n + l.length := by
  unfold puts at e
  split at e
  · injection e with e
    subst e
    refine ⟨rfl, rfl, rfl, rfl, rfl, rfl, rfl, rfl, rfl, ?_⟩
    simp only [List.length_append, List.length_take]; omega
  · cases e
end Go.Proofs.Ytbgmdckfkfkglaa.M
