/-
  No cell of these rows narrows 'for every input' (looked for: loops, veiled, ifaces, maps, wideKeys, modest, calm, conditions, laid).
  DERIVED. THE GIVEN ROWS OF THIS SEAT. 6 by the template 'for every input the law returns true; each argument reads behind the call as it read before'; 0 by the template 'total and deterministic' (their statements: YteiiejbfbmmofaaTotals.lean).
  GIVEN WITH THE SEED: the statements are not yours to turn. If you find one false, say at which input.
  Laid BY PROGRAM, IN A SANDBOX (cutbox-rows.mjs): the forced cells as the released guide's own fill.sh prints them over the translation 5bf819512120e703… (all of the seat's roots in one cut). By AI agents, Wed Nov 11 2026. No macro, syntax, notation, axiom, sorry.
-/
import Derived.Test.YteiiejbfbmmofaaChecked
import GoSem.Claim
import GoSem.ClaimJoined
import GoSem.ClaimMapViews
import Derived.JoinedTies
import Derived.KernelRfl
namespace Go.Proofs.Yteiiejbfbmmofaa
/- THE CELL 'sum', in the pinned program and in every row, IS THE sha256 OF THE DUMP (.gsa) THAT YteiiejbfbmmofaaProg.lean LOADS. Nothing in Lean hashes anything: it is a label: what it is worth is what the hold of that sum in a sandbox is worth. -/
noncomputable def Try.pinned : Pinned := { name := "yteiiejbfbmmofaa", sum := "5bf819512120e7031b0a32d697560a795ae23a4a874111ed4df9ef94aba3701a", checked := Try.checked }
namespace Rows
def none {H : Type} : Left H := { results := [], args := [] }

/-- 'waferlaw3.ArithInts': WHATEVER THE INPUT: true; the input reads as it did. -/
def arithIntsSpec : ChangeSpec := { name := "arithInts", fn := fun _ => fun
  | [d1, d2] => { results := [.lit (.bool true)], args := [d1, d2] }
  | _ => none }
def arithIntsRow : OpenClaim := { program := "yteiiejbfbmmofaa", sum := "5bf819512120e7031b0a32d697560a795ae23a4a874111ed4df9ef94aba3701a", func := "wafer/waferlaw3.ArithInts", spec := "arithInts", apart := false }
def ArithIntsSaid : Prop := arithIntsRow.holds Try.pinned (OpenSpec.ofChange arithIntsSpec)

/-- ITS FALSE NEIGHBOUR: 'it returns false'. Refute it at one input. -/
def arithIntsWrong : ChangeSpec := { name := "arithInts", fn := fun _ => fun
  | [d1, d2] => { results := [.lit (.bool false)], args := [d1, d2] }
  | _ => none }
def ArithIntsWrongFalsely : Prop := arithIntsRow.holds Try.pinned (OpenSpec.ofChange arithIntsWrong)

/-- 'waferlaw3.ArithShifts': WHATEVER THE INPUT: true; the input reads as it did. -/
def arithShiftsSpec : ChangeSpec := { name := "arithShifts", fn := fun _ => fun
  | [d1, d2] => { results := [.lit (.bool true)], args := [d1, d2] }
  | _ => none }
def arithShiftsRow : OpenClaim := { program := "yteiiejbfbmmofaa", sum := "5bf819512120e7031b0a32d697560a795ae23a4a874111ed4df9ef94aba3701a", func := "wafer/waferlaw3.ArithShifts", spec := "arithShifts", apart := false }
def ArithShiftsSaid : Prop := arithShiftsRow.holds Try.pinned (OpenSpec.ofChange arithShiftsSpec)

/-- ITS FALSE NEIGHBOUR: 'it returns false'. Refute it at one input. -/
def arithShiftsWrong : ChangeSpec := { name := "arithShifts", fn := fun _ => fun
  | [d1, d2] => { results := [.lit (.bool false)], args := [d1, d2] }
  | _ => none }
def ArithShiftsWrongFalsely : Prop := arithShiftsRow.holds Try.pinned (OpenSpec.ofChange arithShiftsWrong)

/-- 'waferlaw3.ArithSets': WHATEVER THE INPUT: true; the input reads as it did. -/
def arithSetsSpec : ChangeSpec := { name := "arithSets", fn := fun _ => fun
  | [d1, d2, d3, d4] => { results := [.lit (.bool true)], args := [d1, d2, d3, d4] }
  | _ => none }
def arithSetsRow : OpenClaim := { program := "yteiiejbfbmmofaa", sum := "5bf819512120e7031b0a32d697560a795ae23a4a874111ed4df9ef94aba3701a", func := "wafer/waferlaw3.ArithSets", spec := "arithSets", apart := false }
def ArithSetsSaid : Prop := arithSetsRow.holds Try.pinned (OpenSpec.ofChange arithSetsSpec)

/-- ITS FALSE NEIGHBOUR: 'it returns false'. Refute it at one input. -/
def arithSetsWrong : ChangeSpec := { name := "arithSets", fn := fun _ => fun
  | [d1, d2, d3, d4] => { results := [.lit (.bool false)], args := [d1, d2, d3, d4] }
  | _ => none }
def ArithSetsWrongFalsely : Prop := arithSetsRow.holds Try.pinned (OpenSpec.ofChange arithSetsWrong)

/-- 'waferlaw3.ArithParts': WHATEVER THE INPUT: true; the input reads as it did. -/
def arithPartsSpec : ChangeSpec := { name := "arithParts", fn := fun _ => fun
  | [d1, d2, d3] => { results := [.lit (.bool true)], args := [d1, d2, d3] }
  | _ => none }
def arithPartsRow : OpenClaim := { program := "yteiiejbfbmmofaa", sum := "5bf819512120e7031b0a32d697560a795ae23a4a874111ed4df9ef94aba3701a", func := "wafer/waferlaw3.ArithParts", spec := "arithParts", apart := false }
def ArithPartsSaid : Prop := arithPartsRow.holds Try.pinned (OpenSpec.ofChange arithPartsSpec)

/-- ITS FALSE NEIGHBOUR: 'it returns false'. Refute it at one input. -/
def arithPartsWrong : ChangeSpec := { name := "arithParts", fn := fun _ => fun
  | [d1, d2, d3] => { results := [.lit (.bool false)], args := [d1, d2, d3] }
  | _ => none }
def ArithPartsWrongFalsely : Prop := arithPartsRow.holds Try.pinned (OpenSpec.ofChange arithPartsWrong)

/-- 'waferlaw3.ArithRounds': WHATEVER THE INPUT: true; the input reads as it did. -/
def arithRoundsSpec : ChangeSpec := { name := "arithRounds", fn := fun _ => fun
  | [d1, d2] => { results := [.lit (.bool true)], args := [d1, d2] }
  | _ => none }
def arithRoundsRow : OpenClaim := { program := "yteiiejbfbmmofaa", sum := "5bf819512120e7031b0a32d697560a795ae23a4a874111ed4df9ef94aba3701a", func := "wafer/waferlaw3.ArithRounds", spec := "arithRounds", apart := false }
def ArithRoundsSaid : Prop := arithRoundsRow.holds Try.pinned (OpenSpec.ofChange arithRoundsSpec)

/-- ITS FALSE NEIGHBOUR: 'it returns false'. Refute it at one input. -/
def arithRoundsWrong : ChangeSpec := { name := "arithRounds", fn := fun _ => fun
  | [d1, d2] => { results := [.lit (.bool false)], args := [d1, d2] }
  | _ => none }
def ArithRoundsWrongFalsely : Prop := arithRoundsRow.holds Try.pinned (OpenSpec.ofChange arithRoundsWrong)

/-- 'waferlaw4.BoxBack': WHATEVER THE INPUT: true; the input reads as it did. -/
def boxBackSpec : ChangeSpec := { name := "boxBack", fn := fun _ => fun
  | [d1, d2] => { results := [.lit (.bool true)], args := [d1, d2] }
  | _ => none }
def boxBackRow : OpenClaim := { program := "yteiiejbfbmmofaa", sum := "5bf819512120e7031b0a32d697560a795ae23a4a874111ed4df9ef94aba3701a", func := "wafer/waferlaw4.BoxBack", spec := "boxBack", apart := false }
def BoxBackSaid : Prop := boxBackRow.holds Try.pinned (OpenSpec.ofChange boxBackSpec)

/-- ITS FALSE NEIGHBOUR: 'it returns false'. Refute it at one input. -/
def boxBackWrong : ChangeSpec := { name := "boxBack", fn := fun _ => fun
  | [d1, d2] => { results := [.lit (.bool false)], args := [d1, d2] }
  | _ => none }
def BoxBackWrongFalsely : Prop := boxBackRow.holds Try.pinned (OpenSpec.ofChange boxBackWrong)

/- THE SECOND FORM. 'bulk': how many values and letters a reading holds, each counted each time it is reached (what is shared counts as often as it is met; a slice's spare places count too). A statement '..UptoSaid' is the law's where the arguments, and the package variables that the reading takes, are together of bulk at most 1048576: NARROWER than '..Said'. Prove '..Said' where nothing that the law and all that it calls make is longer than what came in: it says more and counts as full. Else prove '..UptoSaid'. A law counts once. -/
mutual
def uptoBulk {H : Type} : DataW H → Nat
  | .lit (.string bytes) => bytes.length + 1
  | .lit _ => 1
  | .nil => 1
  | .ptr d => uptoBulk d + 1
  | .slice elems spare => uptoBulkAll elems + uptoBulkAll spare + 1
  | .agg parts => uptoBulkAll parts + 1
  | .iface _ d => uptoBulk d + 1
  | .map entries => uptoBulkEntries entries + 1
  | .held _ => 1
def uptoBulkAll {H : Type} : List (DataW H) → Nat
  | [] => 0
  | d :: r => uptoBulk d + uptoBulkAll r
def uptoBulkEntries {H : Type} : List (Lit × DataW H) → Nat
  | [] => 0
  | x :: r => uptoBulkEntry x + uptoBulkEntries r
def uptoBulkEntry {H : Type} : Lit × DataW H → Nat
  | (.string bytes, d) => bytes.length + uptoBulk d + 1
  | (_, d) => uptoBulk d + 1
 end
def uptoSmall : (H : Type) → List (DataW H) → Bool := fun _ ds => decide (uptoBulkAll ds ≤ 1048576)
def OpenSpec.upto (s : _root_.Go.ChangeSpec) : _root_.Go.OpenSpec := { _root_.Go.OpenSpec.ofChange s with cond := some uptoSmall }

/-- 'waferlaw3.ArithInts', WHERE WHAT IT READS IS OF BULK AT MOST 1048576: true; the input reads as it did. -/
def arithIntsUptoRow : OpenClaim := { program := "yteiiejbfbmmofaa", sum := "5bf819512120e7031b0a32d697560a795ae23a4a874111ed4df9ef94aba3701a", func := "wafer/waferlaw3.ArithInts", spec := "arithInts", apart := false, narrowed := true }
def ArithIntsUptoSaid : Prop := arithIntsUptoRow.holds Try.pinned (OpenSpec.upto arithIntsSpec)

/-- 'waferlaw3.ArithShifts', WHERE WHAT IT READS IS OF BULK AT MOST 1048576: true; the input reads as it did. -/
def arithShiftsUptoRow : OpenClaim := { program := "yteiiejbfbmmofaa", sum := "5bf819512120e7031b0a32d697560a795ae23a4a874111ed4df9ef94aba3701a", func := "wafer/waferlaw3.ArithShifts", spec := "arithShifts", apart := false, narrowed := true }
def ArithShiftsUptoSaid : Prop := arithShiftsUptoRow.holds Try.pinned (OpenSpec.upto arithShiftsSpec)

/-- 'waferlaw3.ArithSets', WHERE WHAT IT READS IS OF BULK AT MOST 1048576: true; the input reads as it did. -/
def arithSetsUptoRow : OpenClaim := { program := "yteiiejbfbmmofaa", sum := "5bf819512120e7031b0a32d697560a795ae23a4a874111ed4df9ef94aba3701a", func := "wafer/waferlaw3.ArithSets", spec := "arithSets", apart := false, narrowed := true }
def ArithSetsUptoSaid : Prop := arithSetsUptoRow.holds Try.pinned (OpenSpec.upto arithSetsSpec)

/-- 'waferlaw3.ArithParts', WHERE WHAT IT READS IS OF BULK AT MOST 1048576: true; the input reads as it did. -/
def arithPartsUptoRow : OpenClaim := { program := "yteiiejbfbmmofaa", sum := "5bf819512120e7031b0a32d697560a795ae23a4a874111ed4df9ef94aba3701a", func := "wafer/waferlaw3.ArithParts", spec := "arithParts", apart := false, narrowed := true }
def ArithPartsUptoSaid : Prop := arithPartsUptoRow.holds Try.pinned (OpenSpec.upto arithPartsSpec)

/-- 'waferlaw3.ArithRounds', WHERE WHAT IT READS IS OF BULK AT MOST 1048576: true; the input reads as it did. -/
def arithRoundsUptoRow : OpenClaim := { program := "yteiiejbfbmmofaa", sum := "5bf819512120e7031b0a32d697560a795ae23a4a874111ed4df9ef94aba3701a", func := "wafer/waferlaw3.ArithRounds", spec := "arithRounds", apart := false, narrowed := true }
def ArithRoundsUptoSaid : Prop := arithRoundsUptoRow.holds Try.pinned (OpenSpec.upto arithRoundsSpec)

/-- 'waferlaw4.BoxBack', WHERE WHAT IT READS IS OF BULK AT MOST 1048576: true; the input reads as it did. -/
def boxBackUptoRow : OpenClaim := { program := "yteiiejbfbmmofaa", sum := "5bf819512120e7031b0a32d697560a795ae23a4a874111ed4df9ef94aba3701a", func := "wafer/waferlaw4.BoxBack", spec := "boxBack", apart := false, narrowed := true }
def BoxBackUptoSaid : Prop := boxBackUptoRow.holds Try.pinned (OpenSpec.upto boxBackSpec)

end Rows
end Go.Proofs.Yteiiejbfbmmofaa
