/-
  No cell of these rows narrows 'for every input' (looked for: loops, veiled, ifaces, maps, wideKeys, modest, calm, conditions, laid).
  DERIVED. THE GIVEN ROWS OF THIS SEAT. 10 by the template 'for every input the law returns true; each argument reads behind the call as it read before'; 0 by the template 'total and deterministic' (their statements: YthdolanamcmooaaTotals.lean).
  GIVEN WITH THE SEED: the statements are not yours to turn. If you find one false, say at which input.
  Laid BY PROGRAM, IN A SANDBOX (cutbox-rows.mjs): the forced cells as the released guide's own fill.sh prints them over the translation 2d198ee9e1d93696… (all of the seat's roots in one cut). By AI agents, Wed Nov 11 2026. No macro, syntax, notation, axiom, sorry.
-/
import Derived.Test.YthdolanamcmooaaChecked
import GoSem.Claim
import GoSem.ClaimJoined
import GoSem.ClaimMapViews
import Derived.JoinedTies
import Derived.KernelRfl
namespace Go.Proofs.Ythdolanamcmooaa
/- THE CELL 'sum', in the pinned program and in every row, IS THE sha256 OF THE DUMP (.gsa) THAT YthdolanamcmooaaProg.lean LOADS. Nothing in Lean hashes anything: it is a label: what it is worth is what the hold of that sum in a sandbox is worth. -/
noncomputable def Try.pinned : Pinned := { name := "ythdolanamcmooaa", sum := "2d198ee9e1d93696d828d9e4a82ffb3ae31ea49a2ce06609df2b714a6e76db4c", checked := Try.checked }
namespace Rows
def none {H : Type} : Left H := { results := [], args := [] }

/-- 'waferlaw9.StackSteps': WHATEVER THE INPUT: true; the input reads as it did. -/
def stackStepsSpec : ChangeSpec := { name := "stackSteps", fn := fun _ => fun
  | [d1, d2, d3, d4, d5] => { results := [.lit (.bool true)], args := [d1, d2, d3, d4, d5] }
  | _ => none }
def stackStepsRow : OpenClaim := { program := "ythdolanamcmooaa", sum := "2d198ee9e1d93696d828d9e4a82ffb3ae31ea49a2ce06609df2b714a6e76db4c", func := "wafer/waferlaw9.StackSteps", spec := "stackSteps", apart := false }
def StackStepsSaid : Prop := stackStepsRow.holds Try.pinned (OpenSpec.ofChange stackStepsSpec)

/-- ITS FALSE NEIGHBOUR: 'it returns false'. Refute it at one input. -/
def stackStepsWrong : ChangeSpec := { name := "stackSteps", fn := fun _ => fun
  | [d1, d2, d3, d4, d5] => { results := [.lit (.bool false)], args := [d1, d2, d3, d4, d5] }
  | _ => none }
def StackStepsWrongFalsely : Prop := stackStepsRow.holds Try.pinned (OpenSpec.ofChange stackStepsWrong)

/-- 'waferlaw9.StackRaw': WHATEVER THE INPUT: true; the input reads as it did. -/
def stackRawSpec : ChangeSpec := { name := "stackRaw", fn := fun _ => fun
  | [d1, d2, d3, d4, d5] => { results := [.lit (.bool true)], args := [d1, d2, d3, d4, d5] }
  | _ => none }
def stackRawRow : OpenClaim := { program := "ythdolanamcmooaa", sum := "2d198ee9e1d93696d828d9e4a82ffb3ae31ea49a2ce06609df2b714a6e76db4c", func := "wafer/waferlaw9.StackRaw", spec := "stackRaw", apart := false }
def StackRawSaid : Prop := stackRawRow.holds Try.pinned (OpenSpec.ofChange stackRawSpec)

/-- ITS FALSE NEIGHBOUR: 'it returns false'. Refute it at one input. -/
def stackRawWrong : ChangeSpec := { name := "stackRaw", fn := fun _ => fun
  | [d1, d2, d3, d4, d5] => { results := [.lit (.bool false)], args := [d1, d2, d3, d4, d5] }
  | _ => none }
def StackRawWrongFalsely : Prop := stackRawRow.holds Try.pinned (OpenSpec.ofChange stackRawWrong)

/-- 'waferlaw10.PortPlays': WHATEVER THE INPUT: true; the input reads as it did. -/
def portPlaysSpec : ChangeSpec := { name := "portPlays", fn := fun _ => fun
  | [d1, d2] => { results := [.lit (.bool true)], args := [d1, d2] }
  | _ => none }
def portPlaysRow : OpenClaim := { program := "ythdolanamcmooaa", sum := "2d198ee9e1d93696d828d9e4a82ffb3ae31ea49a2ce06609df2b714a6e76db4c", func := "wafer/waferlaw10.PortPlays", spec := "portPlays", inPlace := ["sync/atomic.LoadUint32", "sync/atomic.StoreUint32"], apart := false }
def PortPlaysSaid : Prop := portPlaysRow.holds Try.pinned (OpenSpec.ofChange portPlaysSpec)

/-- ITS FALSE NEIGHBOUR: 'it returns false'. Refute it at one input. -/
def portPlaysWrong : ChangeSpec := { name := "portPlays", fn := fun _ => fun
  | [d1, d2] => { results := [.lit (.bool false)], args := [d1, d2] }
  | _ => none }
def PortPlaysWrongFalsely : Prop := portPlaysRow.holds Try.pinned (OpenSpec.ofChange portPlaysWrong)

/-- 'waferlaw10.PortPicks': WHATEVER THE INPUT: true; the input reads as it did. -/
def portPicksSpec : ChangeSpec := { name := "portPicks", fn := fun _ => fun
  | [d1, d2, d3, d4] => { results := [.lit (.bool true)], args := [d1, d2, d3, d4] }
  | _ => none }
def portPicksRow : OpenClaim := { program := "ythdolanamcmooaa", sum := "2d198ee9e1d93696d828d9e4a82ffb3ae31ea49a2ce06609df2b714a6e76db4c", func := "wafer/waferlaw10.PortPicks", spec := "portPicks", inPlace := ["sync/atomic.LoadUint32"], apart := false }
def PortPicksSaid : Prop := portPicksRow.holds Try.pinned (OpenSpec.ofChange portPicksSpec)

/-- ITS FALSE NEIGHBOUR: 'it returns false'. Refute it at one input. -/
def portPicksWrong : ChangeSpec := { name := "portPicks", fn := fun _ => fun
  | [d1, d2, d3, d4] => { results := [.lit (.bool false)], args := [d1, d2, d3, d4] }
  | _ => none }
def PortPicksWrongFalsely : Prop := portPicksRow.holds Try.pinned (OpenSpec.ofChange portPicksWrong)

/-- 'waferlaw10.PortPumps': WHATEVER THE INPUT: true; the input reads as it did. -/
def portPumpsSpec : ChangeSpec := { name := "portPumps", fn := fun _ => fun
  | [d1, d2, d3, d4, d5, d6, d7] => { results := [.lit (.bool true)], args := [d1, d2, d3, d4, d5, d6, d7] }
  | _ => none }
def portPumpsRow : OpenClaim := { program := "ythdolanamcmooaa", sum := "2d198ee9e1d93696d828d9e4a82ffb3ae31ea49a2ce06609df2b714a6e76db4c", func := "wafer/waferlaw10.PortPumps", spec := "portPumps", inPlace := ["sync/atomic.LoadUint32", "sync/atomic.StoreUint32"], apart := false }
def PortPumpsSaid : Prop := portPumpsRow.holds Try.pinned (OpenSpec.ofChange portPumpsSpec)

/-- ITS FALSE NEIGHBOUR: 'it returns false'. Refute it at one input. -/
def portPumpsWrong : ChangeSpec := { name := "portPumps", fn := fun _ => fun
  | [d1, d2, d3, d4, d5, d6, d7] => { results := [.lit (.bool false)], args := [d1, d2, d3, d4, d5, d6, d7] }
  | _ => none }
def PortPumpsWrongFalsely : Prop := portPumpsRow.holds Try.pinned (OpenSpec.ofChange portPumpsWrong)

/-- 'waferlaw19.MtfPlays': WHATEVER THE INPUT: true; the input reads as it did. -/
def mtfPlaysSpec : ChangeSpec := { name := "mtfPlays", fn := fun _ => fun
  | [d1, d2, d3] => { results := [.lit (.bool true)], args := [d1, d2, d3] }
  | _ => none }
def mtfPlaysRow : OpenClaim := { program := "ythdolanamcmooaa", sum := "2d198ee9e1d93696d828d9e4a82ffb3ae31ea49a2ce06609df2b714a6e76db4c", func := "wafer/waferlaw19.MtfPlays", spec := "mtfPlays", apart := false }
def MtfPlaysSaid : Prop := mtfPlaysRow.holds Try.pinned (OpenSpec.ofChange mtfPlaysSpec)

/-- ITS FALSE NEIGHBOUR: 'it returns false'. Refute it at one input. -/
def mtfPlaysWrong : ChangeSpec := { name := "mtfPlays", fn := fun _ => fun
  | [d1, d2, d3] => { results := [.lit (.bool false)], args := [d1, d2, d3] }
  | _ => none }
def MtfPlaysWrongFalsely : Prop := mtfPlaysRow.holds Try.pinned (OpenSpec.ofChange mtfPlaysWrong)

/-- 'waferlaw19.MtfBack': WHATEVER THE INPUT: true; the input reads as it did. -/
def mtfBackSpec : ChangeSpec := { name := "mtfBack", fn := fun _ => fun
  | [d1, d2] => { results := [.lit (.bool true)], args := [d1, d2] }
  | _ => none }
def mtfBackRow : OpenClaim := { program := "ythdolanamcmooaa", sum := "2d198ee9e1d93696d828d9e4a82ffb3ae31ea49a2ce06609df2b714a6e76db4c", func := "wafer/waferlaw19.MtfBack", spec := "mtfBack", apart := false }
def MtfBackSaid : Prop := mtfBackRow.holds Try.pinned (OpenSpec.ofChange mtfBackSpec)

/-- ITS FALSE NEIGHBOUR: 'it returns false'. Refute it at one input. -/
def mtfBackWrong : ChangeSpec := { name := "mtfBack", fn := fun _ => fun
  | [d1, d2] => { results := [.lit (.bool false)], args := [d1, d2] }
  | _ => none }
def MtfBackWrongFalsely : Prop := mtfBackRow.holds Try.pinned (OpenSpec.ofChange mtfBackWrong)

/-- 'waferlaw20.DictPlays': WHATEVER THE INPUT: true; the input reads as it did. -/
def dictPlaysSpec : ChangeSpec := { name := "dictPlays", fn := fun _ => fun
  | [d1, d2, d3, d4] => { results := [.lit (.bool true)], args := [d1, d2, d3, d4] }
  | _ => none }
def dictPlaysRow : OpenClaim := { program := "ythdolanamcmooaa", sum := "2d198ee9e1d93696d828d9e4a82ffb3ae31ea49a2ce06609df2b714a6e76db4c", func := "wafer/waferlaw20.DictPlays", spec := "dictPlays", apart := false }
def DictPlaysSaid : Prop := dictPlaysRow.holds Try.pinned (OpenSpec.ofChange dictPlaysSpec)

/-- ITS FALSE NEIGHBOUR: 'it returns false'. Refute it at one input. -/
def dictPlaysWrong : ChangeSpec := { name := "dictPlays", fn := fun _ => fun
  | [d1, d2, d3, d4] => { results := [.lit (.bool false)], args := [d1, d2, d3, d4] }
  | _ => none }
def DictPlaysWrongFalsely : Prop := dictPlaysRow.holds Try.pinned (OpenSpec.ofChange dictPlaysWrong)

/-- 'waferlaw24.OrderTells': WHATEVER THE INPUT: true; the input reads as it did. -/
def orderTellsSpec : ChangeSpec := { name := "orderTells", fn := fun _ => fun
  | [d1, d2, d3, d4] => { results := [.lit (.bool true)], args := [d1, d2, d3, d4] }
  | _ => none }
def orderTellsRow : OpenClaim := { program := "ythdolanamcmooaa", sum := "2d198ee9e1d93696d828d9e4a82ffb3ae31ea49a2ce06609df2b714a6e76db4c", func := "wafer/waferlaw24.OrderTells", spec := "orderTells", recurses := true, apart := false }
def OrderTellsSaid : Prop := orderTellsRow.holds Try.pinned (OpenSpec.ofChange orderTellsSpec)

/-- ITS FALSE NEIGHBOUR: 'it returns false'. Refute it at one input. -/
def orderTellsWrong : ChangeSpec := { name := "orderTells", fn := fun _ => fun
  | [d1, d2, d3, d4] => { results := [.lit (.bool false)], args := [d1, d2, d3, d4] }
  | _ => none }
def OrderTellsWrongFalsely : Prop := orderTellsRow.holds Try.pinned (OpenSpec.ofChange orderTellsWrong)

/-- 'waferlaw24.OrderStands': WHATEVER THE INPUT: true; the input reads as it did. -/
def orderStandsSpec : ChangeSpec := { name := "orderStands", fn := fun _ => fun
  | [d] => { results := [.lit (.bool true)], args := [d] }
  | _ => none }
def orderStandsRow : OpenClaim := { program := "ythdolanamcmooaa", sum := "2d198ee9e1d93696d828d9e4a82ffb3ae31ea49a2ce06609df2b714a6e76db4c", func := "wafer/waferlaw24.OrderStands", spec := "orderStands", recurses := true, apart := false }
def OrderStandsSaid : Prop := orderStandsRow.holds Try.pinned (OpenSpec.ofChange orderStandsSpec)

/-- ITS FALSE NEIGHBOUR: 'it returns false'. Refute it at one input. -/
def orderStandsWrong : ChangeSpec := { name := "orderStands", fn := fun _ => fun
  | [d] => { results := [.lit (.bool false)], args := [d] }
  | _ => none }
def OrderStandsWrongFalsely : Prop := orderStandsRow.holds Try.pinned (OpenSpec.ofChange orderStandsWrong)

/- THE SECOND FORM. 'bulk': how many values and letters a reading holds, each counted each time it is reached (what is shared counts as often as it is met; a slice's spare places count too). A statement '..UptoSaid' is the law's where the arguments, and the package variables that the reading takes, are together of bulk at most 1048576: NARROWER than '..Said'. Prove '..Said' where nothing that the law and all that it calls make is longer than what came in: it says more and counts as full. Else prove '..UptoSaid'. A law counts once. -/
mutual
def uptoBulk {H : Type} : DataW H → Nat
  | .lit (.string bytes) => bytes.length + 1
  | .lit _ => 1
  | .nil => 1
  | .ptr d => uptoBulk d + 1
  | .slice elems spare => uptoBulkAll elems + uptoBulkAll spare + 1
  | .agg parts => uptoBulkAll parts + 1
  | .iface _ d => uptoBulk d + 1
  | .map entries => uptoBulkEntries entries + 1
  | .held _ => 1
def uptoBulkAll {H : Type} : List (DataW H) → Nat
  | [] => 0
  | d :: r => uptoBulk d + uptoBulkAll r
def uptoBulkEntries {H : Type} : List (Lit × DataW H) → Nat
  | [] => 0
  | x :: r => uptoBulkEntry x + uptoBulkEntries r
def uptoBulkEntry {H : Type} : Lit × DataW H → Nat
  | (.string bytes, d) => bytes.length + uptoBulk d + 1
  | (_, d) => uptoBulk d + 1
 end
def uptoSmall : (H : Type) → List (DataW H) → Bool := fun _ ds => decide (uptoBulkAll ds ≤ 1048576)
def OpenSpec.upto (s : _root_.Go.ChangeSpec) : _root_.Go.OpenSpec := { _root_.Go.OpenSpec.ofChange s with cond := some uptoSmall }

/-- 'waferlaw9.StackSteps', WHERE WHAT IT READS IS OF BULK AT MOST 1048576: true; the input reads as it did. -/
def stackStepsUptoRow : OpenClaim := { program := "ythdolanamcmooaa", sum := "2d198ee9e1d93696d828d9e4a82ffb3ae31ea49a2ce06609df2b714a6e76db4c", func := "wafer/waferlaw9.StackSteps", spec := "stackSteps", apart := false, narrowed := true }
def StackStepsUptoSaid : Prop := stackStepsUptoRow.holds Try.pinned (OpenSpec.upto stackStepsSpec)

/-- 'waferlaw9.StackRaw', WHERE WHAT IT READS IS OF BULK AT MOST 1048576: true; the input reads as it did. -/
def stackRawUptoRow : OpenClaim := { program := "ythdolanamcmooaa", sum := "2d198ee9e1d93696d828d9e4a82ffb3ae31ea49a2ce06609df2b714a6e76db4c", func := "wafer/waferlaw9.StackRaw", spec := "stackRaw", apart := false, narrowed := true }
def StackRawUptoSaid : Prop := stackRawUptoRow.holds Try.pinned (OpenSpec.upto stackRawSpec)

/-- 'waferlaw10.PortPlays', WHERE WHAT IT READS IS OF BULK AT MOST 1048576: true; the input reads as it did. -/
def portPlaysUptoRow : OpenClaim := { program := "ythdolanamcmooaa", sum := "2d198ee9e1d93696d828d9e4a82ffb3ae31ea49a2ce06609df2b714a6e76db4c", func := "wafer/waferlaw10.PortPlays", spec := "portPlays", inPlace := ["sync/atomic.LoadUint32", "sync/atomic.StoreUint32"], apart := false, narrowed := true }
def PortPlaysUptoSaid : Prop := portPlaysUptoRow.holds Try.pinned (OpenSpec.upto portPlaysSpec)

/-- 'waferlaw10.PortPicks', WHERE WHAT IT READS IS OF BULK AT MOST 1048576: true; the input reads as it did. -/
def portPicksUptoRow : OpenClaim := { program := "ythdolanamcmooaa", sum := "2d198ee9e1d93696d828d9e4a82ffb3ae31ea49a2ce06609df2b714a6e76db4c", func := "wafer/waferlaw10.PortPicks", spec := "portPicks", inPlace := ["sync/atomic.LoadUint32"], apart := false, narrowed := true }
def PortPicksUptoSaid : Prop := portPicksUptoRow.holds Try.pinned (OpenSpec.upto portPicksSpec)

/-- 'waferlaw10.PortPumps', WHERE WHAT IT READS IS OF BULK AT MOST 1048576: true; the input reads as it did. -/
def portPumpsUptoRow : OpenClaim := { program := "ythdolanamcmooaa", sum := "2d198ee9e1d93696d828d9e4a82ffb3ae31ea49a2ce06609df2b714a6e76db4c", func := "wafer/waferlaw10.PortPumps", spec := "portPumps", inPlace := ["sync/atomic.LoadUint32", "sync/atomic.StoreUint32"], apart := false, narrowed := true }
def PortPumpsUptoSaid : Prop := portPumpsUptoRow.holds Try.pinned (OpenSpec.upto portPumpsSpec)

/-- 'waferlaw19.MtfPlays', WHERE WHAT IT READS IS OF BULK AT MOST 1048576: true; the input reads as it did. -/
def mtfPlaysUptoRow : OpenClaim := { program := "ythdolanamcmooaa", sum := "2d198ee9e1d93696d828d9e4a82ffb3ae31ea49a2ce06609df2b714a6e76db4c", func := "wafer/waferlaw19.MtfPlays", spec := "mtfPlays", apart := false, narrowed := true }
def MtfPlaysUptoSaid : Prop := mtfPlaysUptoRow.holds Try.pinned (OpenSpec.upto mtfPlaysSpec)

/-- 'waferlaw19.MtfBack', WHERE WHAT IT READS IS OF BULK AT MOST 1048576: true; the input reads as it did. -/
def mtfBackUptoRow : OpenClaim := { program := "ythdolanamcmooaa", sum := "2d198ee9e1d93696d828d9e4a82ffb3ae31ea49a2ce06609df2b714a6e76db4c", func := "wafer/waferlaw19.MtfBack", spec := "mtfBack", apart := false, narrowed := true }
def MtfBackUptoSaid : Prop := mtfBackUptoRow.holds Try.pinned (OpenSpec.upto mtfBackSpec)

/-- 'waferlaw20.DictPlays', WHERE WHAT IT READS IS OF BULK AT MOST 1048576: true; the input reads as it did. -/
def dictPlaysUptoRow : OpenClaim := { program := "ythdolanamcmooaa", sum := "2d198ee9e1d93696d828d9e4a82ffb3ae31ea49a2ce06609df2b714a6e76db4c", func := "wafer/waferlaw20.DictPlays", spec := "dictPlays", apart := false, narrowed := true }
def DictPlaysUptoSaid : Prop := dictPlaysUptoRow.holds Try.pinned (OpenSpec.upto dictPlaysSpec)

/-- 'waferlaw24.OrderTells', WHERE WHAT IT READS IS OF BULK AT MOST 1048576: true; the input reads as it did. -/
def orderTellsUptoRow : OpenClaim := { program := "ythdolanamcmooaa", sum := "2d198ee9e1d93696d828d9e4a82ffb3ae31ea49a2ce06609df2b714a6e76db4c", func := "wafer/waferlaw24.OrderTells", spec := "orderTells", recurses := true, apart := false, narrowed := true }
def OrderTellsUptoSaid : Prop := orderTellsUptoRow.holds Try.pinned (OpenSpec.upto orderTellsSpec)

/-- 'waferlaw24.OrderStands', WHERE WHAT IT READS IS OF BULK AT MOST 1048576: true; the input reads as it did. -/
def orderStandsUptoRow : OpenClaim := { program := "ythdolanamcmooaa", sum := "2d198ee9e1d93696d828d9e4a82ffb3ae31ea49a2ce06609df2b714a6e76db4c", func := "wafer/waferlaw24.OrderStands", spec := "orderStands", recurses := true, apart := false, narrowed := true }
def OrderStandsUptoSaid : Prop := orderStandsUptoRow.holds Try.pinned (OpenSpec.upto orderStandsSpec)

end Rows
end Go.Proofs.Ythdolanamcmooaa
