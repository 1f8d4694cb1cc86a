/-
  No cell of these rows narrows 'for every input' (looked for: loops, veiled, ifaces, maps, wideKeys, modest, calm, conditions, laid).
  DERIVED. THE GIVEN ROWS OF THIS SEAT. 10 by the template 'for every input the law returns true; each argument reads behind the call as it read before'; 0 by the template 'total and deterministic' (their statements: YtbgmdckfkfkglaaTotals.lean).
  GIVEN WITH THE SEED: the statements are not yours to turn. If you find one false, say at which input.
  Laid BY PROGRAM, IN A SANDBOX (cutbox-rows.mjs): the forced cells as the released guide's own fill.sh prints them over the translation 7844101d70a65583… (all of the seat's roots in one cut). By AI agents, Wed Nov 11 2026. No macro, syntax, notation, axiom, sorry.
-/
import Derived.Test.YtbgmdckfkfkglaaChecked
import GoSem.Claim
import GoSem.ClaimJoined
import GoSem.ClaimMapViews
import Derived.JoinedTies
import Derived.KernelRfl
namespace Go.Proofs.Ytbgmdckfkfkglaa
/- THE CELL 'sum', in the pinned program and in every row, IS THE sha256 OF THE DUMP (.gsa) THAT YtbgmdckfkfkglaaProg.lean LOADS. Nothing in Lean hashes anything: it is a label: what it is worth is what the hold of that sum in a sandbox is worth. -/
noncomputable def Try.pinned : Pinned := { name := "ytbgmdckfkfkglaa", sum := "7844101d70a65583a1bf560b9442df28590320053eaa3c25be128d0139ca85e0", checked := Try.checked }
namespace Rows
def none {H : Type} : Left H := { results := [], args := [] }

/-- 'waferlaw8.VerifyChecks': WHATEVER THE INPUT: true; the input reads as it did. -/
def verifyChecksSpec : ChangeSpec := { name := "verifyChecks", fn := fun _ => fun
  | [d] => { results := [.lit (.bool true)], args := [d] }
  | _ => none }
def verifyChecksRow : OpenClaim := { program := "ytbgmdckfkfkglaa", sum := "7844101d70a65583a1bf560b9442df28590320053eaa3c25be128d0139ca85e0", func := "wafer/waferlaw8.VerifyChecks", spec := "verifyChecks", apart := false }
def VerifyChecksSaid : Prop := verifyChecksRow.holds Try.pinned (OpenSpec.ofChange verifyChecksSpec)

/-- ITS FALSE NEIGHBOUR: 'it returns false'. Refute it at one input. -/
def verifyChecksWrong : ChangeSpec := { name := "verifyChecks", fn := fun _ => fun
  | [d] => { results := [.lit (.bool false)], args := [d] }
  | _ => none }
def VerifyChecksWrongFalsely : Prop := verifyChecksRow.holds Try.pinned (OpenSpec.ofChange verifyChecksWrong)

/-- 'waferlaw8.VerifyHeights': WHATEVER THE INPUT: true; the input reads as it did. -/
def verifyHeightsSpec : ChangeSpec := { name := "verifyHeights", fn := fun _ => fun
  | [d] => { results := [.lit (.bool true)], args := [d] }
  | _ => none }
def verifyHeightsRow : OpenClaim := { program := "ytbgmdckfkfkglaa", sum := "7844101d70a65583a1bf560b9442df28590320053eaa3c25be128d0139ca85e0", func := "wafer/waferlaw8.VerifyHeights", spec := "verifyHeights", apart := false }
def VerifyHeightsSaid : Prop := verifyHeightsRow.holds Try.pinned (OpenSpec.ofChange verifyHeightsSpec)

/-- ITS FALSE NEIGHBOUR: 'it returns false'. Refute it at one input. -/
def verifyHeightsWrong : ChangeSpec := { name := "verifyHeights", fn := fun _ => fun
  | [d] => { results := [.lit (.bool false)], args := [d] }
  | _ => none }
def VerifyHeightsWrongFalsely : Prop := verifyHeightsRow.holds Try.pinned (OpenSpec.ofChange verifyHeightsWrong)

/-- 'waferlaw9.StackSteps': WHATEVER THE INPUT: true; the input reads as it did. -/
def stackStepsSpec : ChangeSpec := { name := "stackSteps", fn := fun _ => fun
  | [d1, d2, d3, d4, d5] => { results := [.lit (.bool true)], args := [d1, d2, d3, d4, d5] }
  | _ => none }
def stackStepsRow : OpenClaim := { program := "ytbgmdckfkfkglaa", sum := "7844101d70a65583a1bf560b9442df28590320053eaa3c25be128d0139ca85e0", func := "wafer/waferlaw9.StackSteps", spec := "stackSteps", apart := false }
def StackStepsSaid : Prop := stackStepsRow.holds Try.pinned (OpenSpec.ofChange stackStepsSpec)

/-- ITS FALSE NEIGHBOUR: 'it returns false'. Refute it at one input. -/
def stackStepsWrong : ChangeSpec := { name := "stackSteps", fn := fun _ => fun
  | [d1, d2, d3, d4, d5] => { results := [.lit (.bool false)], args := [d1, d2, d3, d4, d5] }
  | _ => none }
def StackStepsWrongFalsely : Prop := stackStepsRow.holds Try.pinned (OpenSpec.ofChange stackStepsWrong)

/-- 'waferlaw9.StackRaw': WHATEVER THE INPUT: true; the input reads as it did. -/
def stackRawSpec : ChangeSpec := { name := "stackRaw", fn := fun _ => fun
  | [d1, d2, d3, d4, d5] => { results := [.lit (.bool true)], args := [d1, d2, d3, d4, d5] }
  | _ => none }
def stackRawRow : OpenClaim := { program := "ytbgmdckfkfkglaa", sum := "7844101d70a65583a1bf560b9442df28590320053eaa3c25be128d0139ca85e0", func := "wafer/waferlaw9.StackRaw", spec := "stackRaw", apart := false }
def StackRawSaid : Prop := stackRawRow.holds Try.pinned (OpenSpec.ofChange stackRawSpec)

/-- ITS FALSE NEIGHBOUR: 'it returns false'. Refute it at one input. -/
def stackRawWrong : ChangeSpec := { name := "stackRaw", fn := fun _ => fun
  | [d1, d2, d3, d4, d5] => { results := [.lit (.bool false)], args := [d1, d2, d3, d4, d5] }
  | _ => none }
def StackRawWrongFalsely : Prop := stackRawRow.holds Try.pinned (OpenSpec.ofChange stackRawWrong)

/-- 'waferlaw9.StackFull': WHATEVER THE INPUT: true; the input reads as it did. -/
def stackFullSpec : ChangeSpec := { name := "stackFull", fn := fun _ => fun
  | [d1, d2] => { results := [.lit (.bool true)], args := [d1, d2] }
  | _ => none }
def stackFullRow : OpenClaim := { program := "ytbgmdckfkfkglaa", sum := "7844101d70a65583a1bf560b9442df28590320053eaa3c25be128d0139ca85e0", func := "wafer/waferlaw9.StackFull", spec := "stackFull", apart := false }
def StackFullSaid : Prop := stackFullRow.holds Try.pinned (OpenSpec.ofChange stackFullSpec)

/-- ITS FALSE NEIGHBOUR: 'it returns false'. Refute it at one input. -/
def stackFullWrong : ChangeSpec := { name := "stackFull", fn := fun _ => fun
  | [d1, d2] => { results := [.lit (.bool false)], args := [d1, d2] }
  | _ => none }
def StackFullWrongFalsely : Prop := stackFullRow.holds Try.pinned (OpenSpec.ofChange stackFullWrong)

/-- 'waferlaw9.StackFrames': WHATEVER THE INPUT: true; the input reads as it did. -/
def stackFramesSpec : ChangeSpec := { name := "stackFrames", fn := fun _ => fun
  | [d1, d2] => { results := [.lit (.bool true)], args := [d1, d2] }
  | _ => none }
def stackFramesRow : OpenClaim := { program := "ytbgmdckfkfkglaa", sum := "7844101d70a65583a1bf560b9442df28590320053eaa3c25be128d0139ca85e0", func := "wafer/waferlaw9.StackFrames", spec := "stackFrames", apart := false }
def StackFramesSaid : Prop := stackFramesRow.holds Try.pinned (OpenSpec.ofChange stackFramesSpec)

/-- ITS FALSE NEIGHBOUR: 'it returns false'. Refute it at one input. -/
def stackFramesWrong : ChangeSpec := { name := "stackFrames", fn := fun _ => fun
  | [d1, d2] => { results := [.lit (.bool false)], args := [d1, d2] }
  | _ => none }
def StackFramesWrongFalsely : Prop := stackFramesRow.holds Try.pinned (OpenSpec.ofChange stackFramesWrong)

/-- 'waferlaw9.StackReckons': WHATEVER THE INPUT: true; the input reads as it did. -/
def stackReckonsSpec : ChangeSpec := { name := "stackReckons", fn := fun _ => fun
  | [d1, d2, d3] => { results := [.lit (.bool true)], args := [d1, d2, d3] }
  | _ => none }
def stackReckonsRow : OpenClaim := { program := "ytbgmdckfkfkglaa", sum := "7844101d70a65583a1bf560b9442df28590320053eaa3c25be128d0139ca85e0", func := "wafer/waferlaw9.StackReckons", spec := "stackReckons", apart := false }
def StackReckonsSaid : Prop := stackReckonsRow.holds Try.pinned (OpenSpec.ofChange stackReckonsSpec)

/-- ITS FALSE NEIGHBOUR: 'it returns false'. Refute it at one input. -/
def stackReckonsWrong : ChangeSpec := { name := "stackReckons", fn := fun _ => fun
  | [d1, d2, d3] => { results := [.lit (.bool false)], args := [d1, d2, d3] }
  | _ => none }
def StackReckonsWrongFalsely : Prop := stackReckonsRow.holds Try.pinned (OpenSpec.ofChange stackReckonsWrong)

/-- 'waferlaw9.StackMoves': WHATEVER THE INPUT: true; the input reads as it did. -/
def stackMovesSpec : ChangeSpec := { name := "stackMoves", fn := fun _ => fun
  | [d1, d2, d3, d4] => { results := [.lit (.bool true)], args := [d1, d2, d3, d4] }
  | _ => none }
def stackMovesRow : OpenClaim := { program := "ytbgmdckfkfkglaa", sum := "7844101d70a65583a1bf560b9442df28590320053eaa3c25be128d0139ca85e0", func := "wafer/waferlaw9.StackMoves", spec := "stackMoves", apart := false }
def StackMovesSaid : Prop := stackMovesRow.holds Try.pinned (OpenSpec.ofChange stackMovesSpec)

/-- ITS FALSE NEIGHBOUR: 'it returns false'. Refute it at one input. -/
def stackMovesWrong : ChangeSpec := { name := "stackMoves", fn := fun _ => fun
  | [d1, d2, d3, d4] => { results := [.lit (.bool false)], args := [d1, d2, d3, d4] }
  | _ => none }
def StackMovesWrongFalsely : Prop := stackMovesRow.holds Try.pinned (OpenSpec.ofChange stackMovesWrong)

/-- 'waferlaw9.StackEcho': WHATEVER THE INPUT: true; the input reads as it did. -/
def stackEchoSpec : ChangeSpec := { name := "stackEcho", fn := fun _ => fun
  | [d] => { results := [.lit (.bool true)], args := [d] }
  | _ => none }
def stackEchoRow : OpenClaim := { program := "ytbgmdckfkfkglaa", sum := "7844101d70a65583a1bf560b9442df28590320053eaa3c25be128d0139ca85e0", func := "wafer/waferlaw9.StackEcho", spec := "stackEcho", apart := false }
def StackEchoSaid : Prop := stackEchoRow.holds Try.pinned (OpenSpec.ofChange stackEchoSpec)

/-- ITS FALSE NEIGHBOUR: 'it returns false'. Refute it at one input. -/
def stackEchoWrong : ChangeSpec := { name := "stackEcho", fn := fun _ => fun
  | [d] => { results := [.lit (.bool false)], args := [d] }
  | _ => none }
def StackEchoWrongFalsely : Prop := stackEchoRow.holds Try.pinned (OpenSpec.ofChange stackEchoWrong)

/-- 'waferlaw9.StackSafe': WHATEVER THE INPUT: true; the input reads as it did. -/
def stackSafeSpec : ChangeSpec := { name := "stackSafe", fn := fun _ => fun
  | [d1, d2, d3] => { results := [.lit (.bool true)], args := [d1, d2, d3] }
  | _ => none }
def stackSafeRow : OpenClaim := { program := "ytbgmdckfkfkglaa", sum := "7844101d70a65583a1bf560b9442df28590320053eaa3c25be128d0139ca85e0", func := "wafer/waferlaw9.StackSafe", spec := "stackSafe", apart := false }
def StackSafeSaid : Prop := stackSafeRow.holds Try.pinned (OpenSpec.ofChange stackSafeSpec)

/-- ITS FALSE NEIGHBOUR: 'it returns false'. Refute it at one input. -/
def stackSafeWrong : ChangeSpec := { name := "stackSafe", fn := fun _ => fun
  | [d1, d2, d3] => { results := [.lit (.bool false)], args := [d1, d2, d3] }
  | _ => none }
def StackSafeWrongFalsely : Prop := stackSafeRow.holds Try.pinned (OpenSpec.ofChange stackSafeWrong)

/- THE SECOND FORM. 'bulk': how many values and letters a reading holds, each counted each time it is reached (what is shared counts as often as it is met; a slice's spare places count too). A statement '..UptoSaid' is the law's where the arguments, and the package variables that the reading takes, are together of bulk at most 1048576: NARROWER than '..Said'. Prove '..Said' where nothing that the law and all that it calls make is longer than what came in: it says more and counts as full. Else prove '..UptoSaid'. A law counts once. -/
mutual
def uptoBulk {H : Type} : DataW H → Nat
  | .lit (.string bytes) => bytes.length + 1
  | .lit _ => 1
  | .nil => 1
  | .ptr d => uptoBulk d + 1
  | .slice elems spare => uptoBulkAll elems + uptoBulkAll spare + 1
  | .agg parts => uptoBulkAll parts + 1
  | .iface _ d => uptoBulk d + 1
  | .map entries => uptoBulkEntries entries + 1
  | .held _ => 1
def uptoBulkAll {H : Type} : List (DataW H) → Nat
  | [] => 0
  | d :: r => uptoBulk d + uptoBulkAll r
def uptoBulkEntries {H : Type} : List (Lit × DataW H) → Nat
  | [] => 0
  | x :: r => uptoBulkEntry x + uptoBulkEntries r
def uptoBulkEntry {H : Type} : Lit × DataW H → Nat
  | (.string bytes, d) => bytes.length + uptoBulk d + 1
  | (_, d) => uptoBulk d + 1
 end
def uptoSmall : (H : Type) → List (DataW H) → Bool := fun _ ds => decide (uptoBulkAll ds ≤ 1048576)
def OpenSpec.upto (s : _root_.Go.ChangeSpec) : _root_.Go.OpenSpec := { _root_.Go.OpenSpec.ofChange s with cond := some uptoSmall }

/-- 'waferlaw8.VerifyChecks', WHERE WHAT IT READS IS OF BULK AT MOST 1048576: true; the input reads as it did. -/
def verifyChecksUptoRow : OpenClaim := { program := "ytbgmdckfkfkglaa", sum := "7844101d70a65583a1bf560b9442df28590320053eaa3c25be128d0139ca85e0", func := "wafer/waferlaw8.VerifyChecks", spec := "verifyChecks", apart := false, narrowed := true }
def VerifyChecksUptoSaid : Prop := verifyChecksUptoRow.holds Try.pinned (OpenSpec.upto verifyChecksSpec)

/-- 'waferlaw8.VerifyHeights', WHERE WHAT IT READS IS OF BULK AT MOST 1048576: true; the input reads as it did. -/
def verifyHeightsUptoRow : OpenClaim := { program := "ytbgmdckfkfkglaa", sum := "7844101d70a65583a1bf560b9442df28590320053eaa3c25be128d0139ca85e0", func := "wafer/waferlaw8.VerifyHeights", spec := "verifyHeights", apart := false, narrowed := true }
def VerifyHeightsUptoSaid : Prop := verifyHeightsUptoRow.holds Try.pinned (OpenSpec.upto verifyHeightsSpec)

/-- 'waferlaw9.StackSteps', WHERE WHAT IT READS IS OF BULK AT MOST 1048576: true; the input reads as it did. -/
def stackStepsUptoRow : OpenClaim := { program := "ytbgmdckfkfkglaa", sum := "7844101d70a65583a1bf560b9442df28590320053eaa3c25be128d0139ca85e0", func := "wafer/waferlaw9.StackSteps", spec := "stackSteps", apart := false, narrowed := true }
def StackStepsUptoSaid : Prop := stackStepsUptoRow.holds Try.pinned (OpenSpec.upto stackStepsSpec)

/-- 'waferlaw9.StackRaw', WHERE WHAT IT READS IS OF BULK AT MOST 1048576: true; the input reads as it did. -/
def stackRawUptoRow : OpenClaim := { program := "ytbgmdckfkfkglaa", sum := "7844101d70a65583a1bf560b9442df28590320053eaa3c25be128d0139ca85e0", func := "wafer/waferlaw9.StackRaw", spec := "stackRaw", apart := false, narrowed := true }
def StackRawUptoSaid : Prop := stackRawUptoRow.holds Try.pinned (OpenSpec.upto stackRawSpec)

/-- 'waferlaw9.StackFull', WHERE WHAT IT READS IS OF BULK AT MOST 1048576: true; the input reads as it did. -/
def stackFullUptoRow : OpenClaim := { program := "ytbgmdckfkfkglaa", sum := "7844101d70a65583a1bf560b9442df28590320053eaa3c25be128d0139ca85e0", func := "wafer/waferlaw9.StackFull", spec := "stackFull", apart := false, narrowed := true }
def StackFullUptoSaid : Prop := stackFullUptoRow.holds Try.pinned (OpenSpec.upto stackFullSpec)

/-- 'waferlaw9.StackFrames', WHERE WHAT IT READS IS OF BULK AT MOST 1048576: true; the input reads as it did. -/
def stackFramesUptoRow : OpenClaim := { program := "ytbgmdckfkfkglaa", sum := "7844101d70a65583a1bf560b9442df28590320053eaa3c25be128d0139ca85e0", func := "wafer/waferlaw9.StackFrames", spec := "stackFrames", apart := false, narrowed := true }
def StackFramesUptoSaid : Prop := stackFramesUptoRow.holds Try.pinned (OpenSpec.upto stackFramesSpec)

/-- 'waferlaw9.StackReckons', WHERE WHAT IT READS IS OF BULK AT MOST 1048576: true; the input reads as it did. -/
def stackReckonsUptoRow : OpenClaim := { program := "ytbgmdckfkfkglaa", sum := "7844101d70a65583a1bf560b9442df28590320053eaa3c25be128d0139ca85e0", func := "wafer/waferlaw9.StackReckons", spec := "stackReckons", apart := false, narrowed := true }
def StackReckonsUptoSaid : Prop := stackReckonsUptoRow.holds Try.pinned (OpenSpec.upto stackReckonsSpec)

/-- 'waferlaw9.StackMoves', WHERE WHAT IT READS IS OF BULK AT MOST 1048576: true; the input reads as it did. -/
def stackMovesUptoRow : OpenClaim := { program := "ytbgmdckfkfkglaa", sum := "7844101d70a65583a1bf560b9442df28590320053eaa3c25be128d0139ca85e0", func := "wafer/waferlaw9.StackMoves", spec := "stackMoves", apart := false, narrowed := true }
def StackMovesUptoSaid : Prop := stackMovesUptoRow.holds Try.pinned (OpenSpec.upto stackMovesSpec)

/-- 'waferlaw9.StackEcho', WHERE WHAT IT READS IS OF BULK AT MOST 1048576: true; the input reads as it did. -/
def stackEchoUptoRow : OpenClaim := { program := "ytbgmdckfkfkglaa", sum := "7844101d70a65583a1bf560b9442df28590320053eaa3c25be128d0139ca85e0", func := "wafer/waferlaw9.StackEcho", spec := "stackEcho", apart := false, narrowed := true }
def StackEchoUptoSaid : Prop := stackEchoUptoRow.holds Try.pinned (OpenSpec.upto stackEchoSpec)

/-- 'waferlaw9.StackSafe', WHERE WHAT IT READS IS OF BULK AT MOST 1048576: true; the input reads as it did. -/
def stackSafeUptoRow : OpenClaim := { program := "ytbgmdckfkfkglaa", sum := "7844101d70a65583a1bf560b9442df28590320053eaa3c25be128d0139ca85e0", func := "wafer/waferlaw9.StackSafe", spec := "stackSafe", apart := false, narrowed := true }
def StackSafeUptoSaid : Prop := stackSafeUptoRow.holds Try.pinned (OpenSpec.upto stackSafeSpec)

end Rows
end Go.Proofs.Ytbgmdckfkfkglaa
