/- What may be kept of a value: no name stands in it. No Go program is imported. -/
import Derived.Test.YtgidgiidcnlpbaaGreatVRun
set_option linter.unusedSimpArgs false
set_option linter.unusedVariables false
namespace Go.VE

def Own.free : Own → Bool
  | .tok _ => false
  | _ => true
def Own.drop : Own → Own
  | .full => .full
  | _ => .unk
mutual
/-- No name stands in it. -/
def plain : AV → Bool
  | .ptr _ _ => false
  | .view _ _ _ _ => false
  | .map _ => false
  | .sym _ _ => false
  | .vec _ _ _ _ => false
  | .sub _ _ _ => false
  | .iface _ v => plain v
  | .eptr cs _ => plainL cs
  | .lst _ own rows => own.free && plainR rows
  | .fn _ a c => plainL a && plainL c
  | .agg cs => plainL cs
  | .tup cs => plainL cs
  | _ => true
def plainL : List AV → Bool
  | [] => true
  | a :: r => plain a && plainL r
def plainR : List (List AV) → Bool
  | [] => true
  | a :: r => plainL a && plainR r
end
mutual
/-- The rooms behind its lists are forgotten. -/
def forget : AV → AV
  | .eptr cs o => .eptr (forgetL cs) o
  | .lst s own rows => .lst s own.drop (forgetR rows)
  | .fn f a c => .fn f (forgetL a) (forgetL c)
  | .agg cs => .agg (forgetL cs)
  | .tup cs => .tup (forgetL cs)
  | .iface t v => .iface t (forget v)
  | a => a
def forgetL : List AV → List AV
  | [] => []
  | a :: r => forget a :: forgetL r
def forgetR : List (List AV) → List (List AV)
  | [] => []
  | a :: r => forgetL a :: forgetR r
end

/-- An evaluation's value, if it may be kept. -/
noncomputable def rowsKept (st : St) (l s n : Nat) : Option AV :=
  match st.heap.get l with
  | some (.cells m t _) => if Nat.ble (n * s) m then match row t (n * s) 0 with
    | some cs => if plainL (forgetL cs) && allOne cs then some (.lst s .unk (rowsOf s n (forgetL cs))) else none
    | none => none
    else none
  | _ => none
/-- A part of it: a slice that was appended to in place is nobody else's behind the call: its rows. -/
noncomputable def melt (st : St) : AV → Option AV
  | .vec l s n _ => rowsKept st l s n
  | v => if plain (forget v) then some (forget v) else none
noncomputable def keep (v : AV) (st : St) : Option AV :=
  match v with
  | .tup cs => (mapO (melt st) cs).map .tup
  | v => melt st v
def emptySt : St := ⟨.e, 0, .e⟩

end Go.VE
