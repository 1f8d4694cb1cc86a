/- What may be kept of a value: no name stands in it. No Go program is imported. -/
import Derived.Test.YtgidgiidcnlpbaaGreatVRun
set_option linter.unusedSimpArgs false
set_option linter.unusedVariables false
namespace Go.VE

def Own.free : Own → Bool
  | .tok _ => false
  | _ => true
def Own.drop : Own → Own
  | .full => .full
  | _ => .unk
mutual
/-- No name stands in it. -/
def plain : AV → Bool
  | .ptr _ _ => false
  | .view _ _ _ _ => false
  | .map _ => false
  | .sym _ _ => false
  | .vec _ _ _ => false
  | .iface _ v => plain v
  | .eptr cs _ => plainL cs
  | .lst _ own rows => own.free && plainR rows
  | .fn _ a c => plainL a && plainL c
  | .agg cs => plainL cs
  | .tup cs => plainL cs
  | _ => true
def plainL : List AV → Bool
  | [] => true
  | a :: r => plain a && plainL r
def plainR : List (List AV) → Bool
  | [] => true
  | a :: r => plainL a && plainR r
end
mutual
/-- The rooms behind its lists are forgotten. -/
def forget : AV → AV
  | .eptr cs o => .eptr (forgetL cs) o
  | .lst s own rows => .lst s own.drop (forgetR rows)
  | .fn f a c => .fn f (forgetL a) (forgetL c)
  | .agg cs => .agg (forgetL cs)
  | .tup cs => .tup (forgetL cs)
  | .iface t v => .iface t (forget v)
  | a => a
def forgetL : List AV → List AV
  | [] => []
  | a :: r => forget a :: forgetL r
def forgetR : List (List AV) → List (List AV)
  | [] => []
  | a :: r => forgetL a :: forgetR r
end

def Own.eqb : Own → Own → Bool
  | .full, .full => true
  | .unk, .unk => true
  | .tok a, .tok b => Nat.beq a b
  | _, _ => false
mutual
/-- The same value, in every part. -/
def AV.eqb : AV → AV → Bool
  | .bool a, .bool b => a == b
  | .int j a, .int k b => decide (j = k) && decide (a = b)
  | .sym j a, .sym k b => decide (j = k) && Nat.beq a b
  | .str a, .str b => eqBytes a b
  | .nilp, .nilp => true
  | .ptr a b, .ptr c d => Nat.beq a c && Nat.beq b d
  | .eptr a b, .eptr c d => Nat.beq b d && eqbL a c
  | .nils, .nils => true
  | .lst s o r, .lst t p q => Nat.beq s t && (o.eqb p && eqbR r q)
  | .view a b c d, .view e f g h => Nat.beq a e && (Nat.beq b f && (Nat.beq c g && Nat.beq d h))
  | .nilm, .nilm => true
  | .map a, .map b => Nat.beq a b
  | .fn f a b, .fn g c d => Nat.beq f g && (eqbL a c && eqbL b d)
  | .nilf, .nilf => true
  | .agg a, .agg b => eqbL a b
  | .tup a, .tup b => eqbL a b
  | .iface s a, .iface t b => Nat.beq s t && a.eqb b
  | .nili, .nili => true
  | .vec a b c, .vec d e f => Nat.beq a d && (Nat.beq b e && Nat.beq c f)
  | _, _ => false
def eqbL : List AV → List AV → Bool
  | [], [] => true
  | a :: r, b :: s => a.eqb b && eqbL r s
  | _, _ => false
def eqbR : List (List AV) → List (List AV) → Bool
  | [], [] => true
  | a :: r, b :: s => eqbL a b && eqbR r s
  | _, _ => false
end
/-- An evaluation's value, if it may be kept. -/
def keep (v : AV) (_ : St) : Option AV := if plain (forget v) then some (forget v) else none
def emptySt : St := ⟨.e, 0, .e⟩

end Go.VE
