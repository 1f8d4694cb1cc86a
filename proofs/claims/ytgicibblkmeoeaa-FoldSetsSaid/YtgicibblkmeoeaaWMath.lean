/- Constants reckoned: mathematics, no Go. -/
import Derived.Test.YtgicibblkmeoeaaQTree
import Derived.Test.YtgicibblkmeoeaaAMath
import Derived.Test.YtgicibblkmeoeaaABits
set_option linter.unusedSimpArgs false
set_option linter.unusedVariables false
namespace Go.Proofs.Ytgicibblkmeoeaa
open Go.RowKit M

/-- Is it a constant that may be reckoned with? -/
def isCB (op f : Int) : Bool := (op == 0) && (f == 1 || f == 2 || f == 3 || f == 4)
def isC (e : Ex) : Bool := isCB e.op e.t.form
def knownM (l : List Ex) (n : Nat) : Bool := l.all isC && decide (l.length = n)
def elemM (x : Ex) : Bool := ((x.op == 25) && knownM x.x 1) || ((x.op == 26) && knownM x.x 2)
/-- How many an operator that is reckoned has; 0: it isn't one. -/
def arM (op : Int) : Nat :=
  if op = 7 ∨ op = 8 ∨ op = 27 ∨ op = 28 ∨ op = 32 ∨ op = 33 then 1
  else if (9 ≤ op ∧ op ≤ 22) ∨ op = 29 ∨ op = 30 ∨ op = 31 then 2 else 0
def foldB (e : Ex) : Bool := if e.op = 24 then e.x.all elemM else decide (0 < arM e.op) && knownM e.x (arM e.op)

def flagM (b : Bool) : Int := if b then 1 else 0
/-- What an operator makes of one. -/
def oneM (op f a : Int) : Option Int :=
  if op = 8 then some (flagM (a == 0))
  else if op = 28 then some ((U a % 2 : Nat) : Int)
  else if op = 33 then (if 0 ≤ a ∧ a ≤ 255 then some a else none)
  else if op = 27 then some (if a < 0 then wrap32 (-a) else a)
  else if op = 7 then some (if f = 4 then S (4294967295 - U a) else wrap32 (-a))
  else some a
/-- What an operator makes of two sets. -/
def setsM (op : Int) (u v : Nat) : Nat := if op = 9 then u ||| v else if op = 10 then u &&& (4294967295 - v) else if op = 11 then u &&& v else u ^^^ v
/-- What an operator asks of two. -/
def holdsM (op a b : Int) : Bool :=
  if op = 14 then (a != 0) || (b != 0) else if op = 15 then (a != 0) && (b != 0) else if op = 16 then a == b else if op = 17 then a != b
  else if op = 18 then decide (a < b) else if op = 19 then decide (a ≤ b) else if op = 20 then decide (b < a) else if op = 21 then decide (b ≤ a)
  else decide (0 ≤ a ∧ a < 32) && (U b).testBit a.toNat
def twoM (op a b : Int) : Option Int :=
  if op = 9 then some (wrap32 (a + b)) else if op = 10 then some (wrap32 (a - b)) else if op = 11 then some (wrap32 (a * b))
  else if op = 12 then (if 1 ≤ b then some (a / b) else none) else if op = 13 then (if 1 ≤ b then some (a % b) else none)
  else if op = 29 then some (lslV a (K b)) else if op = 30 then some (a / 2 ^ K b) else if op = 31 then some (S (rorN (U a) (K b)))
  else some (flagM (holdsM op a b))
def binM (op f a b : Int) : Option Int := if f = 4 ∧ 9 ≤ op ∧ op ≤ 12 then some (S (setsM op (U a) (U b))) else twoM op a b
def spanM (a b : Int) : Option Nat := if 0 ≤ a ∧ a < 32 ∧ 0 ≤ b ∧ b < 32 then some (spanV a.toNat b.toNat) else none
/-- The first and the last element of a list. -/
def firstI (l : List Ex) : Int := ((l[0]?).map Ex.i).getD 0
def formI (l : List Ex) : Int := ((l[0]?).map fun e => e.t.form).getD 0
def lastI (l : List Ex) : Int := ((l[l.length - 1]?).map Ex.i).getD 0
def unionM : List Ex → Nat → Option Nat
  | [], u => some u
  | x :: l, u => match spanM (firstI x.x) (lastI x.x) with
    | some p => unionM l (u ||| p)
    | none => none
def valM (e : Ex) : Option Int :=
  if e.op = 24 then (unionM e.x 0).map S
  else if e.x.length = 1 then oneM e.op (formI e.x) (firstI e.x) else binM e.op (formI e.x) (firstI e.x) (lastI e.x)
/-- A constant of a form. -/
def numE (f i : Int) : Ex := .mk 0 (.mk f 0 ⟨#[]⟩ []) i ⟨#[]⟩ []
/-- The empty one. -/
def nilE : Ex := .mk 0 (.mk 0 0 ⟨#[]⟩ []) 0 ⟨#[]⟩ []
/-- What is told of an expression, and the error's number. -/
def foldM (e : Ex) : Ex × Int := if foldB e then (match valM e with | some v => (numE e.t.form v, 0) | none => (nilE, 33)) else (e, 0)
end Go.Proofs.Ytgicibblkmeoeaa
