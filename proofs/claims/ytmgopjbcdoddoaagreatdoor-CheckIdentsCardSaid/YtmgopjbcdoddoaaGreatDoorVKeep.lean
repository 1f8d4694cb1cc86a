/- What may be kept of a value: no name stands in it. No Go program is imported. -/
import Derived.Test.YtmgopjbcdoddoaaGreatDoorVRun
set_option linter.unusedSimpArgs false
set_option linter.unusedVariables false
namespace Go.VE

def Own.free : Own → Bool
  | .tok _ => false
  | _ => true
def Own.drop : Own → Own
  | .full => .full
  | _ => .unk
mutual
/-- No name stands in it. -/
def plain : AV → Bool
  | .ptr _ _ => false
  | .view _ _ _ _ => false
  | .map _ => false
  | .sym _ _ => false
  | .vec _ _ _ _ => false
  | .sub _ _ _ => false
  | .iface _ v => plain v
  | .eptr cs _ => plainL cs
  | .lst _ own rows => own.free && plainR rows
  | .fn _ a c => plainL a && plainL c
  | .agg cs => plainL cs
  | .tup cs => plainL cs
  | _ => true
def plainL : List AV → Bool
  | [] => true
  | a :: r => plain a && plainL r
def plainR : List (List AV) → Bool
  | [] => true
  | a :: r => plainL a && plainR r
end
mutual
/-- The rooms behind its lists are forgotten. -/
def forget : AV → AV
  | .eptr cs o => .eptr (forgetL cs) o
  | .lst s own rows => .lst s own.drop (forgetR rows)
  | .fn f a c => .fn f (forgetL a) (forgetL c)
  | .agg cs => .agg (forgetL cs)
  | .tup cs => .tup (forgetL cs)
  | .iface t v => .iface t (forget v)
  | a => a
def forgetL : List AV → List AV
  | [] => []
  | a :: r => forget a :: forgetL r
def forgetR : List (List AV) → List (List AV)
  | [] => []
  | a :: r => forgetL a :: forgetR r
end

/-- An evaluation's value, if it may be kept. -/
noncomputable def rowsKept (st : St) (l s n : Nat) : Option AV :=
  match st.heap.get l with
  | some (.cells m t _) => if Nat.ble (n * s) m then match row t (n * s) 0 with
    | some cs => if plainL (forgetL cs) && allOne cs then some (.lst s .unk (rowsOf s n (forgetL cs))) else none
    | none => none
    else none
  | _ => none
/-- A part of it: a slice that was appended to in place is nobody else's behind the call: its rows. -/
noncomputable def melt (st : St) : AV → Option AV
  | .vec l s n _ => rowsKept st l s n
  | v => if plain (forget v) then some (forget v) else none
noncomputable def keep (v : AV) (st : St) : Option AV :=
  match v with
  | .tup cs => (mapO (melt st) cs).map .tup
  | v => melt st v
def emptySt : St := ⟨.e, 0, .e⟩

def Own.bel (n : Nat) : Own → Bool
  | .tok t => Nat.blt t n
  | _ => true
mutual
/-- All its names are below n. -/
def bel (n : Nat) : AV → Bool
  | .ptr l _ => Nat.blt l n
  | .view l _ _ _ => Nat.blt l n
  | .map l => Nat.blt l n
  | .vec l _ _ _ => Nat.blt l n
  | .sub l _ _ => Nat.blt l n
  | .eptr cs _ => belL n cs
  | .lst _ own rows => own.bel n && belR n rows
  | .fn _ a c => belL n a && belL n c
  | .agg cs => belL n cs
  | .tup cs => belL n cs
  | .iface _ a => bel n a
  | _ => true
def belL (n : Nat) : List AV → Bool
  | [] => true
  | a :: r => bel n a && belL n r
def belR (n : Nat) : List (List AV) → Bool
  | [] => true
  | a :: r => belL n a && belR n r
end

/-- Cells of memory, below n. -/
noncomputable def belC (n : Nat) (t : Tr AV) : Nat → Bool
  | 0 => true
  | i + 1 => (match t.get i with
    | some a => bel n a
    | none => true) && belC n t i
def belM (n : Nat) : List (AV × AV) → Bool
  | [] => true
  | (a, b) :: r => bel n a && (bel n b && belM n r)
noncomputable def belB (n : Nat) : AB → Bool
  | .cells m t _ => belC n t m
  | .map es _ => belM n es
  | .gone _ => true
/-- Memory of the names below n alone. -/
noncomputable def upTo {α : Type} (t : Tr α) : Nat → Tr α
  | 0 => .e
  | n + 1 => match t.get n with
    | some a => (upTo t n).set n a
    | none => upTo t n
/-- What has changed of the names below n speaks of such names alone. -/
noncomputable def cutOk (st0 st1 : St) (n : Nat) : Nat → Bool
  | 0 => true
  | i + 1 => (match st0.heap.get i, st1.heap.get i with
    | some a, some b => Nat.beq a.ver b.ver || belB n b
    | _, some b => belB n b
    | _, none => true) && cutOk st0 st1 n i
/-- The names that a call made are forgotten. -/
noncomputable def cut (st0 : St) (v : AV) (st1 : St) : Option (AV × St) :=
  if bel st0.next v && cutOk st0 st1 st0.next st0.next then some (v, ⟨upTo st1.heap st0.next, st0.next, upTo st1.spent st0.next⟩) else none
end Go.VE
