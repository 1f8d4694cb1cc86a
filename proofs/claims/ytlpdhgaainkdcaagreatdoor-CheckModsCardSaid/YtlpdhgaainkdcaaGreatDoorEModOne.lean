/- CheckMods at one use, with or without the import, at a mask of which three bits are known. -/
import Derived.Test.YtlpdhgaainkdcaaGreatDoorEMod
set_option linter.unusedSimpArgs false
set_option linter.unusedVariables false
namespace Go.Proofs.YtlpdhgaainkdcaaGreatDoor
open Go.VE

noncomputable def modL : List (Nat × List AV × AV) := (7, [], .bool true) :: contL
theorem modL_ok (m : Int) : OrcsG Tryz.prog (globM 0 m) modL := .cons (m_known m) (contL_ok m)
/-- The bits of the mask. -/
def andM (q : Nat) : Nat → Nat → Option Nat := fun i n => if Nat.beq i 0 && (Nat.beq n 1 || (Nat.beq n 2 || Nat.beq n 4)) then some (Nat.land q n) else none
noncomputable def modOne (m : Int) (val : Nat → Int) (q u : Nat) (b : Bool) : Bool := match evCall (envG Tryz.prog val (remsOf [(1, 0), (4, u)]) (andM q) (globM 0 m) modL) 3000 300 4 [.sym .u8 0, .sym .u8 1, .bool b] emptySt toldTrue with
  | some () => true
  | none => false
end Go.Proofs.YtlpdhgaainkdcaaGreatDoor
