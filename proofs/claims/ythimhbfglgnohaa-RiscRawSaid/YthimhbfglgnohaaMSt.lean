/- The machine as plain mathematics: its state, and a step. No Go program is imported. -/
import Derived.Test.YthimhbfglgnohaaRMath
import Derived.Test.YthimhbfglgnohaaAMath
set_option linter.unusedSimpArgs false
set_option linter.unusedVariables false
namespace Go.Proofs.Ythimhbfglgnohaa.M
open Go.RowKit

/-- The machine's state but for what it was given: registers, H, flags, which instruction is next, how it ended. -/
structure St where
  mem : List Nat
  inp : List Nat
  out : List Nat
  R : Nat → Nat
  H : Nat
  n : Bool
  z : Bool
  c : Bool
  v : Bool
  pc : Nat
  fin : Nat
  trap : Nat

def upd (R : Nat → Nat) (a x : Nat) : Nat → Nat := fun k => if k = a then x else R k
theorem upd_same (R : Nat → Nat) (a x : Nat) : upd R a x a = x := by unfold upd; rw [if_pos rfl]
theorem upd_other (R : Nat → Nat) {a k : Nat} (x : Nat) (h : k ≠ a) : upd R a x k = R k := by unfold upd; rw [if_neg h]

/-- A state of 32 bits. -/
structure St.Ok (s : St) : Prop where
  reg : ∀ k, k < 16 → s.R k < 4294967296
  high : s.H < 4294967296
  mem : ∀ x ∈ s.mem, x < 4294967296
  inp : ∀ x ∈ s.inp, x < 256
  out : ∀ x ∈ s.out, x < 256
  pc : s.pc ≤ 1048576
  len : s.mem.length ≤ 1048576
  fin : s.fin ≤ 2
  trap : s.trap ≤ 15

def kNat (n : Int) : Nat := U n % 32
/-- The second number. -/
def opnd (s : St) (i : Ins) : Nat := if i.F = 0 then s.R i.C.toNat else if i.V then U (i.Imm - 65536) else U i.Imm
def cin (s : St) (i : Ins) : Nat := if i.U && s.c then 1 else 0
/-- What an operation leaves, in a state in which its flags, its H are set; nothing: a fault. -/
def alu (s : St) (i : Ins) (b n : Nat) : Option (St × Nat) :=
  if i.Op = 0 then some (s, if i.U then (if i.F = 0 then s.H else U i.Imm * 65536 % 4294967296) else n)
  else if i.Op = 1 then some (s, U (wrap32 (b * 2 ^ kNat (S n) % 4294967296 : Nat)))
  else if i.Op = 2 then some (s, U (S b / 2 ^ kNat (S n)))
  else if i.Op = 3 then some (s, rorN b (kNat (S n)))
  else if i.Op = 4 then some (s, b &&& n)
  else if i.Op = 5 then some (s, b &&& (4294967295 - n))
  else if i.Op = 6 then some (s, b ||| n)
  else if i.Op = 7 then some (s, b ^^^ n)
  else if i.Op = 8 then some ({ s with c := decide (4294967296 ≤ b + n + cin s i), v := decide (S b + S n + cin s i ≠ wrap32 (S b + S n + cin s i)) }, (b + n + cin s i) % 4294967296)
  else if i.Op = 9 then some ({ s with c := decide (b < n + cin s i), v := decide (S b - S n - cin s i ≠ wrap32 (S b - S n - cin s i)) }, U (b - n - cin s i : Int))
  else if i.Op = 10 then some ({ s with H := if i.U then b * n / 4294967296 else U (S b * S n / 4294967296) }, if i.U then b * n % 4294967296 else U (S b * S n))
  else if i.Op = 11 then (if S n < 1 then none else some ({ s with H := U (S b % S n) }, U (S b / S n)))
  else none
/-- A register is set; N, Z tell of it. -/
def setR (s : St) (a r : Nat) : St := { s with R := upd s.R a r, n := decide (2147483648 ≤ r), z := r == 0 }
def reckon (s : St) (i : Ins) : Option St := (alu s i (s.R i.B.toNat) (opnd s i)).map fun x => setR x.1 i.A.toNat x.2

def place (s : St) (i : Ins) : Nat := (s.R i.B.toNat + U i.Imm) % 4294967296
def load (s : St) (i : Ins) : Option St :=
  if i.V then none
  else if place s i % 4 = 0 ∧ place s i / 4 < s.mem.length then some (setR s i.A.toNat (s.mem.getD (place s i / 4) 0))
  else if place s i = 4294967232 then some (setR { s with inp := s.inp.drop 1 } i.A.toNat (s.inp.getD 0 0))
  else if place s i = 4294967236 then some (setR s i.A.toNat (if s.inp.length = 0 then 1 else 0))
  else none
def store (s : St) (i : Ins) : Option St :=
  if i.V then none
  else if place s i % 4 = 0 ∧ place s i / 4 < s.mem.length then some { s with mem := s.mem.set (place s i / 4) (s.R i.A.toNat) }
  else if place s i = 4294967232 then some { s with out := s.out ++ [s.R i.A.toNat % 256] }
  else none

def cond (s : St) (k : Nat) : Bool :=
  match k % 8 with
  | 0 => s.n
  | 1 => s.z
  | 2 => s.c
  | 3 => s.v
  | 4 => s.c || s.z
  | 5 => s.n != s.v
  | 6 => (s.n != s.v) || s.z
  | _ => true
def holds (s : St) (k : Nat) : Bool := cond s k == decide (k < 8)
def ended (s : St) (t : Nat) : St := { s with fin := if t = 0 then 1 else 2, trap := t }
/-- Where a branch that is taken goes. -/
def target (s : St) (i : Ins) : Int := if i.U then s.pc + 1 + i.Imm else (s.R i.C.toNat : Int)
def branch (s : St) (i : Ins) : Option St :=
  if holds s i.A.toNat = false then some { s with pc := s.pc + 1 }
  else if i.U = false ∧ i.V = true ∧ i.C = 12 then some (ended s i.Imm.toNat)
  else if target s i < 0 ∨ 1048576 < target s i then none
  else some { s with R := if i.V then upd s.R 15 (s.pc + 1) else s.R, pc := (target s i).toNat }

def next (s : St) : St := { s with pc := s.pc + 1 }
/-- An instruction is done; nothing: a fault. -/
def exec (s : St) (i : Ins) : Option St :=
  if i.F = 3 then branch s i
  else if i.F = 2 then (if i.U then (store s i).map next else (load s i).map next)
  else (reckon s i).map next
/-- The next instruction, if there is one. -/
def doIt (code : List Nat) (s : St) : Option St :=
  if s.pc < code.length then (if isOk (code.getD s.pc 0) then exec s (dec (code.getD s.pc 0)) else none) else none
def step (code : List Nat) (s : St) : St :=
  if s.fin ≠ 0 then s else (doIt code s).getD (ended s 15)
def run (code : List Nat) : Nat → St → St
  | 0, s => s
  | k + 1, s => if s.fin ≠ 0 then s else run code k (step code s)

theorem run_fin (code : List Nat) (k : Nat) (s : St) (h : s.fin ≠ 0) : run code k s = s := by
  cases k with
  | zero => rfl
  | succ k => unfold run; rw [if_pos h]
theorem step_fin (code : List Nat) (s : St) (h : s.fin ≠ 0) : step code s = s := by unfold step; rw [if_pos h]
theorem run_succ (code : List Nat) (k : Nat) (s : St) : run code (k + 1) s = run code k (step code s) := by
  by_cases h : s.fin ≠ 0
  · rw [run_fin _ _ _ h, step_fin _ _ h, run_fin _ _ _ h]
  · show (if s.fin ≠ 0 then s else run code k (step code s)) = _
    rw [if_neg h]
/-- Runs one behind another are one run. -/
theorem run_add (code : List Nat) (a b : Nat) (s : St) : run code (a + b) s = run code b (run code a s) := by
  induction a generalizing s with
  | zero => rw [Nat.zero_add]; rfl
  | succ a ih => rw [show a + 1 + b = (a + b) + 1 by omega, run_succ, ih, run_succ]
end Go.Proofs.Ythimhbfglgnohaa.M
