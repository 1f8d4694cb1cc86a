/-
  DERIVED. GIVEN WITH THE SEED: THE CARDS: each row of YtmgopjbcdoddoaaGreatDoorRows.lean that lists a variable, with what it lists TIED to the program's text (the seventh form; the later family's looks); each row that meets fmt, with fmt's text TOLD by the authors' own Lean function (tested against real Go, not proved from fmt's source: count such statements apart). THE CARD IS WHAT COUNTS. Prove the row's statement (the work); the ties are given (YtmgopjbcdoddoaaGreatDoorTie.lean); close each card by the builder's one call (the guide's Derived/Test/ToyasCard.lean, 'card_holds'). Laid BY PROGRAM, IN A SANDBOX (cutbox-door.mjs). By AI agents, Wed Nov 11 2026. No macro, syntax, notation, axiom, sorry.
-/
import Derived.Test.YtmgopjbcdoddoaaGreatDoorRows
import GoSem.ClaimSeven
namespace Go.Proofs.YtmgopjbcdoddoaaGreatDoor
namespace Rows

/-- THE TIED CARD OF 'waferlaw17.CheckIdents'. -/
def checkIdentsCard : Claim7 := { stood := { row := checkIdentsRow, standIns := [], harness := (true, "2e2d52878908c346395f3558f553408b910aedfeab40edd412ed20d08b206018"), looks := false }, kinds := [], alts := [], laidByText := true, laidKinds := [.data, .data, .data], laidTests := true, laidLooks := .later }
def CheckIdentsCardSaid : Prop := Claim7.holds Tryz.pinned (.plain (OpenSpec.ofChange checkIdentsSpec)) checkIdentsCard

/-- THE SECOND FORM's CARD OF 'waferlaw17.CheckIdents'. -/
def checkIdentsUptoCard : Claim7 := { stood := { row := checkIdentsUptoRow, standIns := [], harness := (true, "2e2d52878908c346395f3558f553408b910aedfeab40edd412ed20d08b206018"), looks := false }, kinds := [], alts := [], laidByText := true, laidKinds := [.data, .data, .data], laidTests := true, laidLooks := .later }
def CheckIdentsUptoCardSaid : Prop := Claim7.holds Tryz.pinned (.plain (OpenSpec.upto checkIdentsSpec)) checkIdentsUptoCard
end Rows
end Go.Proofs.YtmgopjbcdoddoaaGreatDoor
