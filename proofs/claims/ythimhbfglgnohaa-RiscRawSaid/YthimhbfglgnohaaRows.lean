/-
  No cell of these rows narrows 'for every input' (looked for: loops, veiled, ifaces, maps, wideKeys, modest, calm, conditions, laid).
  DERIVED. THE GIVEN ROWS OF THIS SEAT. 8 by the template 'for every input the law returns true; each argument reads behind the call as it read before'; 0 by the template 'total and deterministic' (their statements: YthimhbfglgnohaaTotals.lean).
  GIVEN WITH THE SEED: the statements are not yours to turn. If you find one false, say at which input.
  Laid BY PROGRAM, IN A SANDBOX (cutbox-rows.mjs): the forced cells as the released guide's own fill.sh prints them over the translation f68bec82f2ac5e35… (all of the seat's roots in one cut). By AI agents, Wed Nov 11 2026. No macro, syntax, notation, axiom, sorry.
-/
import Derived.Test.YthimhbfglgnohaaChecked
import GoSem.Claim
import GoSem.ClaimJoined
import GoSem.ClaimMapViews
import Derived.JoinedTies
import Derived.KernelRfl
namespace Go.Proofs.Ythimhbfglgnohaa
/- THE CELL 'sum', in the pinned program and in every row, IS THE sha256 OF THE DUMP (.gsa) THAT YthimhbfglgnohaaProg.lean LOADS. Nothing in Lean hashes anything: it is a label: what it is worth is what the hold of that sum in a sandbox is worth. -/
noncomputable def Try.pinned : Pinned := { name := "ythimhbfglgnohaa", sum := "f68bec82f2ac5e356e41c679f9038903e4aa76f81cf6f4eedd58cb08c1fb7a83", checked := Try.checked }
namespace Rows
def none {H : Type} : Left H := { results := [], args := [] }

/-- 'waferlaw6.RiscSteps': WHATEVER THE INPUT: true; the input reads as it did. -/
def riscStepsSpec : ChangeSpec := { name := "riscSteps", fn := fun _ => fun
  | [d1, d2, d3, d4] => { results := [.lit (.bool true)], args := [d1, d2, d3, d4] }
  | _ => none }
def riscStepsRow : OpenClaim := { program := "ythimhbfglgnohaa", sum := "f68bec82f2ac5e356e41c679f9038903e4aa76f81cf6f4eedd58cb08c1fb7a83", func := "wafer/waferlaw6.RiscSteps", spec := "riscSteps", apart := false }
def RiscStepsSaid : Prop := riscStepsRow.holds Try.pinned (OpenSpec.ofChange riscStepsSpec)

/-- ITS FALSE NEIGHBOUR: 'it returns false'. Refute it at one input. -/
def riscStepsWrong : ChangeSpec := { name := "riscSteps", fn := fun _ => fun
  | [d1, d2, d3, d4] => { results := [.lit (.bool false)], args := [d1, d2, d3, d4] }
  | _ => none }
def RiscStepsWrongFalsely : Prop := riscStepsRow.holds Try.pinned (OpenSpec.ofChange riscStepsWrong)

/-- 'waferlaw6.RiscRaw': WHATEVER THE INPUT: true; the input reads as it did. -/
def riscRawSpec : ChangeSpec := { name := "riscRaw", fn := fun _ => fun
  | [d1, d2, d3, d4] => { results := [.lit (.bool true)], args := [d1, d2, d3, d4] }
  | _ => none }
def riscRawRow : OpenClaim := { program := "ythimhbfglgnohaa", sum := "f68bec82f2ac5e356e41c679f9038903e4aa76f81cf6f4eedd58cb08c1fb7a83", func := "wafer/waferlaw6.RiscRaw", spec := "riscRaw", apart := false }
def RiscRawSaid : Prop := riscRawRow.holds Try.pinned (OpenSpec.ofChange riscRawSpec)

/-- ITS FALSE NEIGHBOUR: 'it returns false'. Refute it at one input. -/
def riscRawWrong : ChangeSpec := { name := "riscRaw", fn := fun _ => fun
  | [d1, d2, d3, d4] => { results := [.lit (.bool false)], args := [d1, d2, d3, d4] }
  | _ => none }
def RiscRawWrongFalsely : Prop := riscRawRow.holds Try.pinned (OpenSpec.ofChange riscRawWrong)

/-- 'waferlaw6.RiscTogether': WHATEVER THE INPUT: true; the input reads as it did. -/
def riscTogetherSpec : ChangeSpec := { name := "riscTogether", fn := fun _ => fun
  | [d1, d2, d3, d4] => { results := [.lit (.bool true)], args := [d1, d2, d3, d4] }
  | _ => none }
def riscTogetherRow : OpenClaim := { program := "ythimhbfglgnohaa", sum := "f68bec82f2ac5e356e41c679f9038903e4aa76f81cf6f4eedd58cb08c1fb7a83", func := "wafer/waferlaw6.RiscTogether", spec := "riscTogether", apart := false }
def RiscTogetherSaid : Prop := riscTogetherRow.holds Try.pinned (OpenSpec.ofChange riscTogetherSpec)

/-- ITS FALSE NEIGHBOUR: 'it returns false'. Refute it at one input. -/
def riscTogetherWrong : ChangeSpec := { name := "riscTogether", fn := fun _ => fun
  | [d1, d2, d3, d4] => { results := [.lit (.bool false)], args := [d1, d2, d3, d4] }
  | _ => none }
def RiscTogetherWrongFalsely : Prop := riscTogetherRow.holds Try.pinned (OpenSpec.ofChange riscTogetherWrong)

/-- 'waferlaw6.RiscInside': WHATEVER THE INPUT: true; the input reads as it did. -/
def riscInsideSpec : ChangeSpec := { name := "riscInside", fn := fun _ => fun
  | [d1, d2, d3, d4] => { results := [.lit (.bool true)], args := [d1, d2, d3, d4] }
  | _ => none }
def riscInsideRow : OpenClaim := { program := "ythimhbfglgnohaa", sum := "f68bec82f2ac5e356e41c679f9038903e4aa76f81cf6f4eedd58cb08c1fb7a83", func := "wafer/waferlaw6.RiscInside", spec := "riscInside", apart := false }
def RiscInsideSaid : Prop := riscInsideRow.holds Try.pinned (OpenSpec.ofChange riscInsideSpec)

/-- ITS FALSE NEIGHBOUR: 'it returns false'. Refute it at one input. -/
def riscInsideWrong : ChangeSpec := { name := "riscInside", fn := fun _ => fun
  | [d1, d2, d3, d4] => { results := [.lit (.bool false)], args := [d1, d2, d3, d4] }
  | _ => none }
def RiscInsideWrongFalsely : Prop := riscInsideRow.holds Try.pinned (OpenSpec.ofChange riscInsideWrong)

/-- 'waferlaw6.RiscEcho': WHATEVER THE INPUT: true; the input reads as it did. -/
def riscEchoSpec : ChangeSpec := { name := "riscEcho", fn := fun _ => fun
  | [d] => { results := [.lit (.bool true)], args := [d] }
  | _ => none }
def riscEchoRow : OpenClaim := { program := "ythimhbfglgnohaa", sum := "f68bec82f2ac5e356e41c679f9038903e4aa76f81cf6f4eedd58cb08c1fb7a83", func := "wafer/waferlaw6.RiscEcho", spec := "riscEcho", apart := false }
def RiscEchoSaid : Prop := riscEchoRow.holds Try.pinned (OpenSpec.ofChange riscEchoSpec)

/-- ITS FALSE NEIGHBOUR: 'it returns false'. Refute it at one input. -/
def riscEchoWrong : ChangeSpec := { name := "riscEcho", fn := fun _ => fun
  | [d] => { results := [.lit (.bool false)], args := [d] }
  | _ => none }
def RiscEchoWrongFalsely : Prop := riscEchoRow.holds Try.pinned (OpenSpec.ofChange riscEchoWrong)

/-- 'waferlaw6.RiscFlags': WHATEVER THE INPUT: true; the input reads as it did. -/
def riscFlagsSpec : ChangeSpec := { name := "riscFlags", fn := fun _ => fun
  | [d1, d2] => { results := [.lit (.bool true)], args := [d1, d2] }
  | _ => none }
def riscFlagsRow : OpenClaim := { program := "ythimhbfglgnohaa", sum := "f68bec82f2ac5e356e41c679f9038903e4aa76f81cf6f4eedd58cb08c1fb7a83", func := "wafer/waferlaw6.RiscFlags", spec := "riscFlags", apart := false }
def RiscFlagsSaid : Prop := riscFlagsRow.holds Try.pinned (OpenSpec.ofChange riscFlagsSpec)

/-- ITS FALSE NEIGHBOUR: 'it returns false'. Refute it at one input. -/
def riscFlagsWrong : ChangeSpec := { name := "riscFlags", fn := fun _ => fun
  | [d1, d2] => { results := [.lit (.bool false)], args := [d1, d2] }
  | _ => none }
def RiscFlagsWrongFalsely : Prop := riscFlagsRow.holds Try.pinned (OpenSpec.ofChange riscFlagsWrong)

/-- 'waferlaw6.RiscBranches': WHATEVER THE INPUT: true; the input reads as it did. -/
def riscBranchesSpec : ChangeSpec := { name := "riscBranches", fn := fun _ => fun
  | [d1, d2, d3] => { results := [.lit (.bool true)], args := [d1, d2, d3] }
  | _ => none }
def riscBranchesRow : OpenClaim := { program := "ythimhbfglgnohaa", sum := "f68bec82f2ac5e356e41c679f9038903e4aa76f81cf6f4eedd58cb08c1fb7a83", func := "wafer/waferlaw6.RiscBranches", spec := "riscBranches", apart := false }
def RiscBranchesSaid : Prop := riscBranchesRow.holds Try.pinned (OpenSpec.ofChange riscBranchesSpec)

/-- ITS FALSE NEIGHBOUR: 'it returns false'. Refute it at one input. -/
def riscBranchesWrong : ChangeSpec := { name := "riscBranches", fn := fun _ => fun
  | [d1, d2, d3] => { results := [.lit (.bool false)], args := [d1, d2, d3] }
  | _ => none }
def RiscBranchesWrongFalsely : Prop := riscBranchesRow.holds Try.pinned (OpenSpec.ofChange riscBranchesWrong)

/-- 'waferlaw6.RiscCalls': WHATEVER THE INPUT: true; the input reads as it did. -/
def riscCallsSpec : ChangeSpec := { name := "riscCalls", fn := fun _ => fun
  | [d1, d2] => { results := [.lit (.bool true)], args := [d1, d2] }
  | _ => none }
def riscCallsRow : OpenClaim := { program := "ythimhbfglgnohaa", sum := "f68bec82f2ac5e356e41c679f9038903e4aa76f81cf6f4eedd58cb08c1fb7a83", func := "wafer/waferlaw6.RiscCalls", spec := "riscCalls", apart := false }
def RiscCallsSaid : Prop := riscCallsRow.holds Try.pinned (OpenSpec.ofChange riscCallsSpec)

/-- ITS FALSE NEIGHBOUR: 'it returns false'. Refute it at one input. -/
def riscCallsWrong : ChangeSpec := { name := "riscCalls", fn := fun _ => fun
  | [d1, d2] => { results := [.lit (.bool false)], args := [d1, d2] }
  | _ => none }
def RiscCallsWrongFalsely : Prop := riscCallsRow.holds Try.pinned (OpenSpec.ofChange riscCallsWrong)

/- THE SECOND FORM. 'bulk': how many values and letters a reading holds, each counted each time it is reached (what is shared counts as often as it is met; a slice's spare places count too). A statement '..UptoSaid' is the law's where the arguments, and the package variables that the reading takes, are together of bulk at most 1048576: NARROWER than '..Said'. Prove '..Said' where nothing that the law and all that it calls make is longer than what came in: it says more and counts as full. Else prove '..UptoSaid'. A law counts once. -/
mutual
def uptoBulk {H : Type} : DataW H → Nat
  | .lit (.string bytes) => bytes.length + 1
  | .lit _ => 1
  | .nil => 1
  | .ptr d => uptoBulk d + 1
  | .slice elems spare => uptoBulkAll elems + uptoBulkAll spare + 1
  | .agg parts => uptoBulkAll parts + 1
  | .iface _ d => uptoBulk d + 1
  | .map entries => uptoBulkEntries entries + 1
  | .held _ => 1
def uptoBulkAll {H : Type} : List (DataW H) → Nat
  | [] => 0
  | d :: r => uptoBulk d + uptoBulkAll r
def uptoBulkEntries {H : Type} : List (Lit × DataW H) → Nat
  | [] => 0
  | x :: r => uptoBulkEntry x + uptoBulkEntries r
def uptoBulkEntry {H : Type} : Lit × DataW H → Nat
  | (.string bytes, d) => bytes.length + uptoBulk d + 1
  | (_, d) => uptoBulk d + 1
 end
def uptoSmall : (H : Type) → List (DataW H) → Bool := fun _ ds => decide (uptoBulkAll ds ≤ 1048576)
def OpenSpec.upto (s : _root_.Go.ChangeSpec) : _root_.Go.OpenSpec := { _root_.Go.OpenSpec.ofChange s with cond := some uptoSmall }

/-- 'waferlaw6.RiscSteps', WHERE WHAT IT READS IS OF BULK AT MOST 1048576: true; the input reads as it did. -/
def riscStepsUptoRow : OpenClaim := { program := "ythimhbfglgnohaa", sum := "f68bec82f2ac5e356e41c679f9038903e4aa76f81cf6f4eedd58cb08c1fb7a83", func := "wafer/waferlaw6.RiscSteps", spec := "riscSteps", apart := false, narrowed := true }
def RiscStepsUptoSaid : Prop := riscStepsUptoRow.holds Try.pinned (OpenSpec.upto riscStepsSpec)

/-- 'waferlaw6.RiscRaw', WHERE WHAT IT READS IS OF BULK AT MOST 1048576: true; the input reads as it did. -/
def riscRawUptoRow : OpenClaim := { program := "ythimhbfglgnohaa", sum := "f68bec82f2ac5e356e41c679f9038903e4aa76f81cf6f4eedd58cb08c1fb7a83", func := "wafer/waferlaw6.RiscRaw", spec := "riscRaw", apart := false, narrowed := true }
def RiscRawUptoSaid : Prop := riscRawUptoRow.holds Try.pinned (OpenSpec.upto riscRawSpec)

/-- 'waferlaw6.RiscTogether', WHERE WHAT IT READS IS OF BULK AT MOST 1048576: true; the input reads as it did. -/
def riscTogetherUptoRow : OpenClaim := { program := "ythimhbfglgnohaa", sum := "f68bec82f2ac5e356e41c679f9038903e4aa76f81cf6f4eedd58cb08c1fb7a83", func := "wafer/waferlaw6.RiscTogether", spec := "riscTogether", apart := false, narrowed := true }
def RiscTogetherUptoSaid : Prop := riscTogetherUptoRow.holds Try.pinned (OpenSpec.upto riscTogetherSpec)

/-- 'waferlaw6.RiscInside', WHERE WHAT IT READS IS OF BULK AT MOST 1048576: true; the input reads as it did. -/
def riscInsideUptoRow : OpenClaim := { program := "ythimhbfglgnohaa", sum := "f68bec82f2ac5e356e41c679f9038903e4aa76f81cf6f4eedd58cb08c1fb7a83", func := "wafer/waferlaw6.RiscInside", spec := "riscInside", apart := false, narrowed := true }
def RiscInsideUptoSaid : Prop := riscInsideUptoRow.holds Try.pinned (OpenSpec.upto riscInsideSpec)

/-- 'waferlaw6.RiscEcho', WHERE WHAT IT READS IS OF BULK AT MOST 1048576: true; the input reads as it did. -/
def riscEchoUptoRow : OpenClaim := { program := "ythimhbfglgnohaa", sum := "f68bec82f2ac5e356e41c679f9038903e4aa76f81cf6f4eedd58cb08c1fb7a83", func := "wafer/waferlaw6.RiscEcho", spec := "riscEcho", apart := false, narrowed := true }
def RiscEchoUptoSaid : Prop := riscEchoUptoRow.holds Try.pinned (OpenSpec.upto riscEchoSpec)

/-- 'waferlaw6.RiscFlags', WHERE WHAT IT READS IS OF BULK AT MOST 1048576: true; the input reads as it did. -/
def riscFlagsUptoRow : OpenClaim := { program := "ythimhbfglgnohaa", sum := "f68bec82f2ac5e356e41c679f9038903e4aa76f81cf6f4eedd58cb08c1fb7a83", func := "wafer/waferlaw6.RiscFlags", spec := "riscFlags", apart := false, narrowed := true }
def RiscFlagsUptoSaid : Prop := riscFlagsUptoRow.holds Try.pinned (OpenSpec.upto riscFlagsSpec)

/-- 'waferlaw6.RiscBranches', WHERE WHAT IT READS IS OF BULK AT MOST 1048576: true; the input reads as it did. -/
def riscBranchesUptoRow : OpenClaim := { program := "ythimhbfglgnohaa", sum := "f68bec82f2ac5e356e41c679f9038903e4aa76f81cf6f4eedd58cb08c1fb7a83", func := "wafer/waferlaw6.RiscBranches", spec := "riscBranches", apart := false, narrowed := true }
def RiscBranchesUptoSaid : Prop := riscBranchesUptoRow.holds Try.pinned (OpenSpec.upto riscBranchesSpec)

/-- 'waferlaw6.RiscCalls', WHERE WHAT IT READS IS OF BULK AT MOST 1048576: true; the input reads as it did. -/
def riscCallsUptoRow : OpenClaim := { program := "ythimhbfglgnohaa", sum := "f68bec82f2ac5e356e41c679f9038903e4aa76f81cf6f4eedd58cb08c1fb7a83", func := "wafer/waferlaw6.RiscCalls", spec := "riscCalls", apart := false, narrowed := true }
def RiscCallsUptoSaid : Prop := riscCallsUptoRow.holds Try.pinned (OpenSpec.upto riscCallsSpec)

end Rows
end Go.Proofs.Ythimhbfglgnohaa
