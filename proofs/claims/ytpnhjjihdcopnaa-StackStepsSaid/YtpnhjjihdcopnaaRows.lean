/-
  No cell of these rows narrows 'for every input' (looked for: loops, veiled, ifaces, maps, wideKeys, modest, calm, conditions, laid).
  DERIVED. THE GIVEN ROWS OF THIS SEAT. 4 by the template 'for every input the law returns true; each argument reads behind the call as it read before'; 0 by the template 'total and deterministic' (their statements: YtpnhjjihdcopnaaTotals.lean).
  GIVEN WITH THE SEED: the statements are not yours to turn. If you find one false, say at which input.
  Laid BY PROGRAM, IN A SANDBOX (cutbox-rows.mjs): the forced cells as the released guide's own fill.sh prints them over the translation 62113bcd258c750f… (all of the seat's roots in one cut). By AI agents, Wed Nov 11 2026. No macro, syntax, notation, axiom, sorry.
-/
import Derived.Test.YtpnhjjihdcopnaaChecked
import GoSem.Claim
import GoSem.ClaimJoined
import GoSem.ClaimMapViews
import Derived.JoinedTies
import Derived.KernelRfl
namespace Go.Proofs.Ytpnhjjihdcopnaa
/- THE CELL 'sum', in the pinned program and in every row, IS THE sha256 OF THE DUMP (.gsa) THAT YtpnhjjihdcopnaaProg.lean LOADS. Nothing in Lean hashes anything: it is a label: what it is worth is what the hold of that sum in a sandbox is worth. -/
noncomputable def Try.pinned : Pinned := { name := "ytpnhjjihdcopnaa", sum := "62113bcd258c750fa2cef478129abecc8c426bd2bb55369fc34066e433a63ae5", checked := Try.checked }
namespace Rows
def none {H : Type} : Left H := { results := [], args := [] }

/-- 'waferlaw9.StackSteps': WHATEVER THE INPUT: true; the input reads as it did. -/
def stackStepsSpec : ChangeSpec := { name := "stackSteps", fn := fun _ => fun
  | [d1, d2, d3, d4, d5] => { results := [.lit (.bool true)], args := [d1, d2, d3, d4, d5] }
  | _ => none }
def stackStepsRow : OpenClaim := { program := "ytpnhjjihdcopnaa", sum := "62113bcd258c750fa2cef478129abecc8c426bd2bb55369fc34066e433a63ae5", func := "wafer/waferlaw9.StackSteps", spec := "stackSteps", apart := false }
def StackStepsSaid : Prop := stackStepsRow.holds Try.pinned (OpenSpec.ofChange stackStepsSpec)

/-- ITS FALSE NEIGHBOUR: 'it returns false'. Refute it at one input. -/
def stackStepsWrong : ChangeSpec := { name := "stackSteps", fn := fun _ => fun
  | [d1, d2, d3, d4, d5] => { results := [.lit (.bool false)], args := [d1, d2, d3, d4, d5] }
  | _ => none }
def StackStepsWrongFalsely : Prop := stackStepsRow.holds Try.pinned (OpenSpec.ofChange stackStepsWrong)

/-- 'waferlaw9.StackRaw': WHATEVER THE INPUT: true; the input reads as it did. -/
def stackRawSpec : ChangeSpec := { name := "stackRaw", fn := fun _ => fun
  | [d1, d2, d3, d4, d5] => { results := [.lit (.bool true)], args := [d1, d2, d3, d4, d5] }
  | _ => none }
def stackRawRow : OpenClaim := { program := "ytpnhjjihdcopnaa", sum := "62113bcd258c750fa2cef478129abecc8c426bd2bb55369fc34066e433a63ae5", func := "wafer/waferlaw9.StackRaw", spec := "stackRaw", apart := false }
def StackRawSaid : Prop := stackRawRow.holds Try.pinned (OpenSpec.ofChange stackRawSpec)

/-- ITS FALSE NEIGHBOUR: 'it returns false'. Refute it at one input. -/
def stackRawWrong : ChangeSpec := { name := "stackRaw", fn := fun _ => fun
  | [d1, d2, d3, d4, d5] => { results := [.lit (.bool false)], args := [d1, d2, d3, d4, d5] }
  | _ => none }
def StackRawWrongFalsely : Prop := stackRawRow.holds Try.pinned (OpenSpec.ofChange stackRawWrong)

/-- 'waferlaw10.PortPlays': WHATEVER THE INPUT: true; the input reads as it did. -/
def portPlaysSpec : ChangeSpec := { name := "portPlays", fn := fun _ => fun
  | [d1, d2] => { results := [.lit (.bool true)], args := [d1, d2] }
  | _ => none }
def portPlaysRow : OpenClaim := { program := "ytpnhjjihdcopnaa", sum := "62113bcd258c750fa2cef478129abecc8c426bd2bb55369fc34066e433a63ae5", func := "wafer/waferlaw10.PortPlays", spec := "portPlays", inPlace := ["sync/atomic.LoadUint32", "sync/atomic.StoreUint32"], apart := false }
def PortPlaysSaid : Prop := portPlaysRow.holds Try.pinned (OpenSpec.ofChange portPlaysSpec)

/-- ITS FALSE NEIGHBOUR: 'it returns false'. Refute it at one input. -/
def portPlaysWrong : ChangeSpec := { name := "portPlays", fn := fun _ => fun
  | [d1, d2] => { results := [.lit (.bool false)], args := [d1, d2] }
  | _ => none }
def PortPlaysWrongFalsely : Prop := portPlaysRow.holds Try.pinned (OpenSpec.ofChange portPlaysWrong)

/-- 'waferlaw10.PortPumps': WHATEVER THE INPUT: true; the input reads as it did. -/
def portPumpsSpec : ChangeSpec := { name := "portPumps", fn := fun _ => fun
  | [d1, d2, d3, d4, d5, d6, d7] => { results := [.lit (.bool true)], args := [d1, d2, d3, d4, d5, d6, d7] }
  | _ => none }
def portPumpsRow : OpenClaim := { program := "ytpnhjjihdcopnaa", sum := "62113bcd258c750fa2cef478129abecc8c426bd2bb55369fc34066e433a63ae5", func := "wafer/waferlaw10.PortPumps", spec := "portPumps", inPlace := ["sync/atomic.LoadUint32", "sync/atomic.StoreUint32"], apart := false }
def PortPumpsSaid : Prop := portPumpsRow.holds Try.pinned (OpenSpec.ofChange portPumpsSpec)

/-- ITS FALSE NEIGHBOUR: 'it returns false'. Refute it at one input. -/
def portPumpsWrong : ChangeSpec := { name := "portPumps", fn := fun _ => fun
  | [d1, d2, d3, d4, d5, d6, d7] => { results := [.lit (.bool false)], args := [d1, d2, d3, d4, d5, d6, d7] }
  | _ => none }
def PortPumpsWrongFalsely : Prop := portPumpsRow.holds Try.pinned (OpenSpec.ofChange portPumpsWrong)

/- THE SECOND FORM. 'bulk': how many values and letters a reading holds, each counted each time it is reached (what is shared counts as often as it is met; a slice's spare places count too). A statement '..UptoSaid' is the law's where the arguments, and the package variables that the reading takes, are together of bulk at most 1048576: NARROWER than '..Said'. Prove '..Said' where nothing that the law and all that it calls make is longer than what came in: it says more and counts as full. Else prove '..UptoSaid'. A law counts once. -/
mutual
def uptoBulk {H : Type} : DataW H → Nat
  | .lit (.string bytes) => bytes.length + 1
  | .lit _ => 1
  | .nil => 1
  | .ptr d => uptoBulk d + 1
  | .slice elems spare => uptoBulkAll elems + uptoBulkAll spare + 1
  | .agg parts => uptoBulkAll parts + 1
  | .iface _ d => uptoBulk d + 1
  | .map entries => uptoBulkEntries entries + 1
  | .held _ => 1
def uptoBulkAll {H : Type} : List (DataW H) → Nat
  | [] => 0
  | d :: r => uptoBulk d + uptoBulkAll r
def uptoBulkEntries {H : Type} : List (Lit × DataW H) → Nat
  | [] => 0
  | x :: r => uptoBulkEntry x + uptoBulkEntries r
def uptoBulkEntry {H : Type} : Lit × DataW H → Nat
  | (.string bytes, d) => bytes.length + uptoBulk d + 1
  | (_, d) => uptoBulk d + 1
 end
def uptoSmall : (H : Type) → List (DataW H) → Bool := fun _ ds => decide (uptoBulkAll ds ≤ 1048576)
def OpenSpec.upto (s : _root_.Go.ChangeSpec) : _root_.Go.OpenSpec := { _root_.Go.OpenSpec.ofChange s with cond := some uptoSmall }

/-- 'waferlaw9.StackSteps', WHERE WHAT IT READS IS OF BULK AT MOST 1048576: true; the input reads as it did. -/
def stackStepsUptoRow : OpenClaim := { program := "ytpnhjjihdcopnaa", sum := "62113bcd258c750fa2cef478129abecc8c426bd2bb55369fc34066e433a63ae5", func := "wafer/waferlaw9.StackSteps", spec := "stackSteps", apart := false, narrowed := true }
def StackStepsUptoSaid : Prop := stackStepsUptoRow.holds Try.pinned (OpenSpec.upto stackStepsSpec)

/-- 'waferlaw9.StackRaw', WHERE WHAT IT READS IS OF BULK AT MOST 1048576: true; the input reads as it did. -/
def stackRawUptoRow : OpenClaim := { program := "ytpnhjjihdcopnaa", sum := "62113bcd258c750fa2cef478129abecc8c426bd2bb55369fc34066e433a63ae5", func := "wafer/waferlaw9.StackRaw", spec := "stackRaw", apart := false, narrowed := true }
def StackRawUptoSaid : Prop := stackRawUptoRow.holds Try.pinned (OpenSpec.upto stackRawSpec)

/-- 'waferlaw10.PortPlays', WHERE WHAT IT READS IS OF BULK AT MOST 1048576: true; the input reads as it did. -/
def portPlaysUptoRow : OpenClaim := { program := "ytpnhjjihdcopnaa", sum := "62113bcd258c750fa2cef478129abecc8c426bd2bb55369fc34066e433a63ae5", func := "wafer/waferlaw10.PortPlays", spec := "portPlays", inPlace := ["sync/atomic.LoadUint32", "sync/atomic.StoreUint32"], apart := false, narrowed := true }
def PortPlaysUptoSaid : Prop := portPlaysUptoRow.holds Try.pinned (OpenSpec.upto portPlaysSpec)

/-- 'waferlaw10.PortPumps', WHERE WHAT IT READS IS OF BULK AT MOST 1048576: true; the input reads as it did. -/
def portPumpsUptoRow : OpenClaim := { program := "ytpnhjjihdcopnaa", sum := "62113bcd258c750fa2cef478129abecc8c426bd2bb55369fc34066e433a63ae5", func := "wafer/waferlaw10.PortPumps", spec := "portPumps", inPlace := ["sync/atomic.LoadUint32", "sync/atomic.StoreUint32"], apart := false, narrowed := true }
def PortPumpsUptoSaid : Prop := portPumpsUptoRow.holds Try.pinned (OpenSpec.upto portPumpsSpec)

end Rows
end Go.Proofs.Ytpnhjjihdcopnaa
