/-
  DERIVED. GIVEN WITH THE SEED: THE CARDS: each row of YtgidgiidcnlpbaaGreatDoorRows.lean that lists a variable, with what it lists TIED to the program's text (the seventh form; the later family's looks); each row that meets fmt, with fmt's text TOLD by the authors' own Lean function (tested against real Go, not proved from fmt's source: count such statements apart). THE CARD IS WHAT COUNTS. Prove the row's statement (the work); the ties are given (YtgidgiidcnlpbaaGreatDoorTie.lean); close each card by the builder's one call (the guide's Derived/Test/ToyasCard.lean, 'card_holds'). Laid BY PROGRAM, IN A SANDBOX (cutbox-door.mjs). By AI agents, Wed Nov 11 2026. No macro, syntax, notation, axiom, sorry.
-/
import Derived.Test.YtgidgiidcnlpbaaGreatDoorRows
import GoSem.ClaimSeven
namespace Go.Proofs.YtgidgiidcnlpbaaGreatDoor
namespace Rows

/-- THE TIED CARD OF 'waferlaw23.EvalTypes'. -/
def evalTypesCard : Claim7 := { stood := { row := evalTypesRow, standIns := [], harness := (true, "47ed258f49f2064c26a27a484b1e71cfd6fdd1bd8c86d7332e8ee251967c280f"), looks := true }, kinds := [], alts := [], laidByText := true, laidKinds := [.data, .data, .data], laidTests := true, laidLooks := .later }
def EvalTypesCardSaid : Prop := Claim7.holds Tryz.pinned (.plain (OpenSpec.ofChange evalTypesSpec)) evalTypesCard

/-- THE TIED CARD OF 'waferlaw23.EvalStrings'. -/
def evalStringsCard : Claim7 := { stood := { row := evalStringsRow, standIns := [], harness := (true, "47ed258f49f2064c26a27a484b1e71cfd6fdd1bd8c86d7332e8ee251967c280f"), looks := true }, kinds := [], alts := [], laidByText := true, laidKinds := [.data, .data, .data], laidTests := true, laidLooks := .later }
def EvalStringsCardSaid : Prop := Claim7.holds Tryz.pinned (.plain (OpenSpec.ofChange evalStringsSpec)) evalStringsCard

/-- THE SECOND FORM's CARD OF 'waferlaw23.EvalTypes'. -/
def evalTypesUptoCard : Claim7 := { stood := { row := evalTypesUptoRow, standIns := [], harness := (true, "47ed258f49f2064c26a27a484b1e71cfd6fdd1bd8c86d7332e8ee251967c280f"), looks := true }, kinds := [], alts := [], laidByText := true, laidKinds := [.data, .data, .data], laidTests := true, laidLooks := .later }
def EvalTypesUptoCardSaid : Prop := Claim7.holds Tryz.pinned (.plain (OpenSpec.upto evalTypesSpec)) evalTypesUptoCard

/-- THE SECOND FORM's CARD OF 'waferlaw23.EvalStrings'. -/
def evalStringsUptoCard : Claim7 := { stood := { row := evalStringsUptoRow, standIns := [], harness := (true, "47ed258f49f2064c26a27a484b1e71cfd6fdd1bd8c86d7332e8ee251967c280f"), looks := true }, kinds := [], alts := [], laidByText := true, laidKinds := [.data, .data, .data], laidTests := true, laidLooks := .later }
def EvalStringsUptoCardSaid : Prop := Claim7.holds Tryz.pinned (.plain (OpenSpec.upto evalStringsSpec)) evalStringsUptoCard
end Rows
end Go.Proofs.YtgidgiidcnlpbaaGreatDoor
