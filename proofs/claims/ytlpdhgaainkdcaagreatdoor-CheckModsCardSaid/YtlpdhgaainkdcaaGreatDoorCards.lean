/-
  DERIVED. GIVEN WITH THE SEED: THE CARDS: each row of YtlpdhgaainkdcaaGreatDoorRows.lean that lists a variable, with what it lists TIED to the program's text (the seventh form; the later family's looks); each row that meets fmt, with fmt's text TOLD by the authors' own Lean function (tested against real Go, not proved from fmt's source: count such statements apart). THE CARD IS WHAT COUNTS. Prove the row's statement (the work); the ties are given (YtlpdhgaainkdcaaGreatDoorTie.lean); close each card by the builder's one call (the guide's Derived/Test/ToyasCard.lean, 'card_holds'). Laid BY PROGRAM, IN A SANDBOX (cutbox-door.mjs). By AI agents, Wed Nov 11 2026. No macro, syntax, notation, axiom, sorry.
-/
import Derived.Test.YtlpdhgaainkdcaaGreatDoorRows
import GoSem.ClaimSeven
namespace Go.Proofs.YtlpdhgaainkdcaaGreatDoor
namespace Rows

/-- THE TIED CARD OF 'waferlaw17.CheckIdents'. -/
def checkIdentsCard : Claim7 := { stood := { row := checkIdentsRow, standIns := [], harness := (true, "a6f6753f87be94de93ad3a620fa3caa422d9e1b4633e0143e70d07e07997861e"), looks := false }, kinds := [], alts := [], laidByText := true, laidKinds := [.data, .data, .data], laidTests := true, laidLooks := .later }
def CheckIdentsCardSaid : Prop := Claim7.holds Tryz.pinned (.plain (OpenSpec.ofChange checkIdentsSpec)) checkIdentsCard

/-- THE TIED CARD OF 'waferlaw17.CheckMods'. -/
def checkModsCard : Claim7 := { stood := { row := checkModsRow, standIns := [], harness := (true, "a6f6753f87be94de93ad3a620fa3caa422d9e1b4633e0143e70d07e07997861e"), looks := false }, kinds := [], alts := [], laidByText := true, laidKinds := [.data, .data, .data], laidTests := true, laidLooks := .later }
def CheckModsCardSaid : Prop := Claim7.holds Tryz.pinned (.plain (OpenSpec.ofChange checkModsSpec)) checkModsCard

/-- THE TIED CARD OF 'waferlaw17.CheckNames'. -/
def checkNamesCard : Claim7 := { stood := { row := checkNamesRow, standIns := [], harness := (true, "a6f6753f87be94de93ad3a620fa3caa422d9e1b4633e0143e70d07e07997861e"), looks := false }, kinds := [], alts := [], laidByText := true, laidKinds := [.data, .data, .data], laidTests := true, laidLooks := .later }
def CheckNamesCardSaid : Prop := Claim7.holds Tryz.pinned (.plain (OpenSpec.ofChange checkNamesSpec)) checkNamesCard

/-- THE TIED CARD OF 'waferlaw17.CheckLits'. -/
def checkLitsCard : Claim7 := { stood := { row := checkLitsRow, standIns := [], harness := (true, "a6f6753f87be94de93ad3a620fa3caa422d9e1b4633e0143e70d07e07997861e"), looks := false }, kinds := [], alts := [], laidByText := true, laidKinds := [.data, .data, .data], laidTests := true, laidLooks := .later }
def CheckLitsCardSaid : Prop := Claim7.holds Tryz.pinned (.plain (OpenSpec.ofChange checkLitsSpec)) checkLitsCard

/-- THE SECOND FORM's CARD OF 'waferlaw17.CheckIdents'. -/
def checkIdentsUptoCard : Claim7 := { stood := { row := checkIdentsUptoRow, standIns := [], harness := (true, "a6f6753f87be94de93ad3a620fa3caa422d9e1b4633e0143e70d07e07997861e"), looks := false }, kinds := [], alts := [], laidByText := true, laidKinds := [.data, .data, .data], laidTests := true, laidLooks := .later }
def CheckIdentsUptoCardSaid : Prop := Claim7.holds Tryz.pinned (.plain (OpenSpec.upto checkIdentsSpec)) checkIdentsUptoCard

/-- THE SECOND FORM's CARD OF 'waferlaw17.CheckMods'. -/
def checkModsUptoCard : Claim7 := { stood := { row := checkModsUptoRow, standIns := [], harness := (true, "a6f6753f87be94de93ad3a620fa3caa422d9e1b4633e0143e70d07e07997861e"), looks := false }, kinds := [], alts := [], laidByText := true, laidKinds := [.data, .data, .data], laidTests := true, laidLooks := .later }
def CheckModsUptoCardSaid : Prop := Claim7.holds Tryz.pinned (.plain (OpenSpec.upto checkModsSpec)) checkModsUptoCard

/-- THE SECOND FORM's CARD OF 'waferlaw17.CheckNames'. -/
def checkNamesUptoCard : Claim7 := { stood := { row := checkNamesUptoRow, standIns := [], harness := (true, "a6f6753f87be94de93ad3a620fa3caa422d9e1b4633e0143e70d07e07997861e"), looks := false }, kinds := [], alts := [], laidByText := true, laidKinds := [.data, .data, .data], laidTests := true, laidLooks := .later }
def CheckNamesUptoCardSaid : Prop := Claim7.holds Tryz.pinned (.plain (OpenSpec.upto checkNamesSpec)) checkNamesUptoCard

/-- THE SECOND FORM's CARD OF 'waferlaw17.CheckLits'. -/
def checkLitsUptoCard : Claim7 := { stood := { row := checkLitsUptoRow, standIns := [], harness := (true, "a6f6753f87be94de93ad3a620fa3caa422d9e1b4633e0143e70d07e07997861e"), looks := false }, kinds := [], alts := [], laidByText := true, laidKinds := [.data, .data, .data], laidTests := true, laidLooks := .later }
def CheckLitsUptoCardSaid : Prop := Claim7.holds Tryz.pinned (.plain (OpenSpec.upto checkLitsSpec)) checkLitsUptoCard
end Rows
end Go.Proofs.YtlpdhgaainkdcaaGreatDoor
