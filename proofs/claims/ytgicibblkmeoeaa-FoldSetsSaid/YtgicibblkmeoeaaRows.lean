/-
  NARROWER THAN 'FOR EVERY INPUT', by the rows' own cells (each row's printed sentence says how): FoldTells: loops.
  DERIVED. THE GIVEN ROWS OF THIS SEAT. 5 by the template 'for every input the law returns true; each argument reads behind the call as it read before'; 0 by the template 'total and deterministic' (their statements: YtgicibblkmeoeaaTotals.lean).
  GIVEN WITH THE SEED: the statements are not yours to turn. If you find one false, say at which input.
  Laid BY PROGRAM, IN A SANDBOX (cutbox-rows.mjs): the forced cells as the released guide's own fill.sh prints them over the translation f53b718db47f4fbc… (all of the seat's roots in one cut). By AI agents, Wed Nov 11 2026. No macro, syntax, notation, axiom, sorry.
-/
import Derived.Test.YtgicibblkmeoeaaChecked
import GoSem.Claim
import GoSem.ClaimJoined
import GoSem.ClaimMapViews
import Derived.JoinedTies
import Derived.KernelRfl
namespace Go.Proofs.Ytgicibblkmeoeaa
/- THE CELL 'sum', in the pinned program and in every row, IS THE sha256 OF THE DUMP (.gsa) THAT YtgicibblkmeoeaaProg.lean LOADS. Nothing in Lean hashes anything: it is a label: what it is worth is what the hold of that sum in a sandbox is worth. -/
noncomputable def Try.pinned : Pinned := { name := "ytgicibblkmeoeaa", sum := "f53b718db47f4fbc1c19748bab2c5a5ff55b32f964914f86241b33ece233d70b", checked := Try.checked }
namespace Rows
def none {H : Type} : Left H := { results := [], args := [] }

/-- 'waferlaw13.FoldTells': WHATEVER THE INPUT: true; the input reads as it did. -/
def foldTellsSpec : ChangeSpec := { name := "foldTells", fn := fun _ => fun
  | [d] => { results := [.lit (.bool true)], args := [d] }
  | _ => none }
def foldTellsRow : OpenClaim := { program := "ytgicibblkmeoeaa", sum := "f53b718db47f4fbc1c19748bab2c5a5ff55b32f964914f86241b33ece233d70b", func := "wafer/waferlaw13.FoldTells", spec := "foldTells", recurses := true, loops := true, apart := false }
def FoldTellsSaid : Prop := foldTellsRow.holds Try.pinned (OpenSpec.ofChange foldTellsSpec)

/-- ITS FALSE NEIGHBOUR: 'it returns false'. Refute it at one input. -/
def foldTellsWrong : ChangeSpec := { name := "foldTells", fn := fun _ => fun
  | [d] => { results := [.lit (.bool false)], args := [d] }
  | _ => none }
def FoldTellsWrongFalsely : Prop := foldTellsRow.holds Try.pinned (OpenSpec.ofChange foldTellsWrong)

/-- 'waferlaw13.FoldReckons': WHATEVER THE INPUT: true; the input reads as it did. -/
def foldReckonsSpec : ChangeSpec := { name := "foldReckons", fn := fun _ => fun
  | [d1, d2, d3, d4] => { results := [.lit (.bool true)], args := [d1, d2, d3, d4] }
  | _ => none }
def foldReckonsRow : OpenClaim := { program := "ytgicibblkmeoeaa", sum := "f53b718db47f4fbc1c19748bab2c5a5ff55b32f964914f86241b33ece233d70b", func := "wafer/waferlaw13.FoldReckons", spec := "foldReckons", recurses := true, apart := false }
def FoldReckonsSaid : Prop := foldReckonsRow.holds Try.pinned (OpenSpec.ofChange foldReckonsSpec)

/-- ITS FALSE NEIGHBOUR: 'it returns false'. Refute it at one input. -/
def foldReckonsWrong : ChangeSpec := { name := "foldReckons", fn := fun _ => fun
  | [d1, d2, d3, d4] => { results := [.lit (.bool false)], args := [d1, d2, d3, d4] }
  | _ => none }
def FoldReckonsWrongFalsely : Prop := foldReckonsRow.holds Try.pinned (OpenSpec.ofChange foldReckonsWrong)

/-- 'waferlaw13.FoldSets': WHATEVER THE INPUT: true; the input reads as it did. -/
def foldSetsSpec : ChangeSpec := { name := "foldSets", fn := fun _ => fun
  | [d1, d2] => { results := [.lit (.bool true)], args := [d1, d2] }
  | _ => none }
def foldSetsRow : OpenClaim := { program := "ytgicibblkmeoeaa", sum := "f53b718db47f4fbc1c19748bab2c5a5ff55b32f964914f86241b33ece233d70b", func := "wafer/waferlaw13.FoldSets", spec := "foldSets", recurses := true, apart := false }
def FoldSetsSaid : Prop := foldSetsRow.holds Try.pinned (OpenSpec.ofChange foldSetsSpec)

/-- ITS FALSE NEIGHBOUR: 'it returns false'. Refute it at one input. -/
def foldSetsWrong : ChangeSpec := { name := "foldSets", fn := fun _ => fun
  | [d1, d2] => { results := [.lit (.bool false)], args := [d1, d2] }
  | _ => none }
def FoldSetsWrongFalsely : Prop := foldSetsRow.holds Try.pinned (OpenSpec.ofChange foldSetsWrong)

/-- 'waferlaw14.TreeLimits': WHATEVER THE INPUT: true; the input reads as it did. -/
def treeLimitsSpec : ChangeSpec := { name := "treeLimits", fn := fun _ => fun
  | [d1, d2] => { results := [.lit (.bool true)], args := [d1, d2] }
  | _ => none }
def treeLimitsRow : OpenClaim := { program := "ytgicibblkmeoeaa", sum := "f53b718db47f4fbc1c19748bab2c5a5ff55b32f964914f86241b33ece233d70b", func := "wafer/waferlaw14.TreeLimits", spec := "treeLimits", unfollowed := true, recurses := true, apart := false }
def TreeLimitsSaid : Prop := treeLimitsRow.holds Try.pinned (OpenSpec.ofChange treeLimitsSpec)

/-- ITS FALSE NEIGHBOUR: 'it returns false'. Refute it at one input. -/
def treeLimitsWrong : ChangeSpec := { name := "treeLimits", fn := fun _ => fun
  | [d1, d2] => { results := [.lit (.bool false)], args := [d1, d2] }
  | _ => none }
def TreeLimitsWrongFalsely : Prop := treeLimitsRow.holds Try.pinned (OpenSpec.ofChange treeLimitsWrong)

/-- 'waferlaw22.NeedLimits': WHATEVER THE INPUT: true; the input reads as it did. -/
def needLimitsSpec : ChangeSpec := { name := "needLimits", fn := fun _ => fun
  | [d1, d2, d3] => { results := [.lit (.bool true)], args := [d1, d2, d3] }
  | _ => none }
def needLimitsRow : OpenClaim := { program := "ytgicibblkmeoeaa", sum := "f53b718db47f4fbc1c19748bab2c5a5ff55b32f964914f86241b33ece233d70b", func := "wafer/waferlaw22.NeedLimits", spec := "needLimits", unfollowed := true, recurses := true, apart := false }
def NeedLimitsSaid : Prop := needLimitsRow.holds Try.pinned (OpenSpec.ofChange needLimitsSpec)

/-- ITS FALSE NEIGHBOUR: 'it returns false'. Refute it at one input. -/
def needLimitsWrong : ChangeSpec := { name := "needLimits", fn := fun _ => fun
  | [d1, d2, d3] => { results := [.lit (.bool false)], args := [d1, d2, d3] }
  | _ => none }
def NeedLimitsWrongFalsely : Prop := needLimitsRow.holds Try.pinned (OpenSpec.ofChange needLimitsWrong)

/- THE SECOND FORM. 'bulk': how many values and letters a reading holds, each counted each time it is reached (what is shared counts as often as it is met; a slice's spare places count too). A statement '..UptoSaid' is the law's where the arguments, and the package variables that the reading takes, are together of bulk at most 1048576: NARROWER than '..Said'. Prove '..Said' where nothing that the law and all that it calls make is longer than what came in: it says more and counts as full. Else prove '..UptoSaid'. A law counts once. -/
mutual
def uptoBulk {H : Type} : DataW H → Nat
  | .lit (.string bytes) => bytes.length + 1
  | .lit _ => 1
  | .nil => 1
  | .ptr d => uptoBulk d + 1
  | .slice elems spare => uptoBulkAll elems + uptoBulkAll spare + 1
  | .agg parts => uptoBulkAll parts + 1
  | .iface _ d => uptoBulk d + 1
  | .map entries => uptoBulkEntries entries + 1
  | .held _ => 1
def uptoBulkAll {H : Type} : List (DataW H) → Nat
  | [] => 0
  | d :: r => uptoBulk d + uptoBulkAll r
def uptoBulkEntries {H : Type} : List (Lit × DataW H) → Nat
  | [] => 0
  | x :: r => uptoBulkEntry x + uptoBulkEntries r
def uptoBulkEntry {H : Type} : Lit × DataW H → Nat
  | (.string bytes, d) => bytes.length + uptoBulk d + 1
  | (_, d) => uptoBulk d + 1
 end
def uptoSmall : (H : Type) → List (DataW H) → Bool := fun _ ds => decide (uptoBulkAll ds ≤ 1048576)
def OpenSpec.upto (s : _root_.Go.ChangeSpec) : _root_.Go.OpenSpec := { _root_.Go.OpenSpec.ofChange s with cond := some uptoSmall }

/-- 'waferlaw13.FoldTells', WHERE WHAT IT READS IS OF BULK AT MOST 1048576: true; the input reads as it did. -/
def foldTellsUptoRow : OpenClaim := { program := "ytgicibblkmeoeaa", sum := "f53b718db47f4fbc1c19748bab2c5a5ff55b32f964914f86241b33ece233d70b", func := "wafer/waferlaw13.FoldTells", spec := "foldTells", recurses := true, loops := true, apart := false, narrowed := true }
def FoldTellsUptoSaid : Prop := foldTellsUptoRow.holds Try.pinned (OpenSpec.upto foldTellsSpec)

/-- 'waferlaw13.FoldReckons', WHERE WHAT IT READS IS OF BULK AT MOST 1048576: true; the input reads as it did. -/
def foldReckonsUptoRow : OpenClaim := { program := "ytgicibblkmeoeaa", sum := "f53b718db47f4fbc1c19748bab2c5a5ff55b32f964914f86241b33ece233d70b", func := "wafer/waferlaw13.FoldReckons", spec := "foldReckons", recurses := true, apart := false, narrowed := true }
def FoldReckonsUptoSaid : Prop := foldReckonsUptoRow.holds Try.pinned (OpenSpec.upto foldReckonsSpec)

/-- 'waferlaw13.FoldSets', WHERE WHAT IT READS IS OF BULK AT MOST 1048576: true; the input reads as it did. -/
def foldSetsUptoRow : OpenClaim := { program := "ytgicibblkmeoeaa", sum := "f53b718db47f4fbc1c19748bab2c5a5ff55b32f964914f86241b33ece233d70b", func := "wafer/waferlaw13.FoldSets", spec := "foldSets", recurses := true, apart := false, narrowed := true }
def FoldSetsUptoSaid : Prop := foldSetsUptoRow.holds Try.pinned (OpenSpec.upto foldSetsSpec)

/-- 'waferlaw14.TreeLimits', WHERE WHAT IT READS IS OF BULK AT MOST 1048576: true; the input reads as it did. -/
def treeLimitsUptoRow : OpenClaim := { program := "ytgicibblkmeoeaa", sum := "f53b718db47f4fbc1c19748bab2c5a5ff55b32f964914f86241b33ece233d70b", func := "wafer/waferlaw14.TreeLimits", spec := "treeLimits", unfollowed := true, recurses := true, apart := false, narrowed := true }
def TreeLimitsUptoSaid : Prop := treeLimitsUptoRow.holds Try.pinned (OpenSpec.upto treeLimitsSpec)

/-- 'waferlaw22.NeedLimits', WHERE WHAT IT READS IS OF BULK AT MOST 1048576: true; the input reads as it did. -/
def needLimitsUptoRow : OpenClaim := { program := "ytgicibblkmeoeaa", sum := "f53b718db47f4fbc1c19748bab2c5a5ff55b32f964914f86241b33ece233d70b", func := "wafer/waferlaw22.NeedLimits", spec := "needLimits", unfollowed := true, recurses := true, apart := false, narrowed := true }
def NeedLimitsUptoSaid : Prop := needLimitsUptoRow.holds Try.pinned (OpenSpec.upto needLimitsSpec)

end Rows
end Go.Proofs.Ytgicibblkmeoeaa
