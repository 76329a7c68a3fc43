/-
  DERIVED. GIVEN WITH THE SEED: THE CARDS: each row of YtednmdammpkoeaaDoorRows.lean that lists a variable, with what it lists TIED to the program's text (the seventh form; the later family's looks); each row that meets fmt, with fmt's text TOLD by the authors' own Lean function (tested against real Go, not proved from fmt's source: count such statements apart). THE CARD IS WHAT COUNTS. Prove the row's statement (the work); the ties are given (YtednmdammpkoeaaDoorTie.lean); close each card by the builder's one call (the guide's Derived/Test/ToyasCard.lean, 'card_holds'). Laid BY PROGRAM, IN A SANDBOX (cutbox-door.mjs). By AI agents, Wed Nov 11 2026. No macro, syntax, notation, axiom, sorry.
-/
import Derived.Test.YtednmdammpkoeaaDoorRows
import GoSem.ClaimSeven
namespace Go.Proofs.YtednmdammpkoeaaDoor
namespace Rows

/-- THE TIED CARD OF 'earshotlaw12.DctTells'. -/
def dctTellsCard : Claim7 := { stood := { row := dctTellsRow, standIns := [], harness := (true, "9ed5ebbb08fce890622a5df75e8138effb7928cb82a686e89931e40cf0f83d65"), looks := false }, kinds := [], alts := [], laidByText := true, laidKinds := [.data], laidTests := true, laidLooks := .later }
def DctTellsCardSaid : Prop := Claim7.holds Tryd.pinned (.plain (OpenSpec.ofChange dctTellsSpec)) dctTellsCard

/-- THE TIED CARD OF 'earshotlaw12.DctLogs'. -/
def dctLogsCard : Claim7 := { stood := { row := dctLogsRow, standIns := [], harness := (true, "9ed5ebbb08fce890622a5df75e8138effb7928cb82a686e89931e40cf0f83d65"), looks := false }, kinds := [], alts := [], laidByText := true, laidKinds := [.data], laidTests := true, laidLooks := .later }
def DctLogsCardSaid : Prop := Claim7.holds Tryd.pinned (.plain (OpenSpec.ofChange dctLogsSpec)) dctLogsCard

/-- THE TIED CARD OF 'earshotlaw12.DctRows'. -/
def dctRowsCard : Claim7 := { stood := { row := dctRowsRow, standIns := [], harness := (true, "9ed5ebbb08fce890622a5df75e8138effb7928cb82a686e89931e40cf0f83d65"), looks := false }, kinds := [], alts := [], laidByText := true, laidKinds := [.data], laidTests := true, laidLooks := .later }
def DctRowsCardSaid : Prop := Claim7.holds Tryd.pinned (.plain (OpenSpec.ofChange dctRowsSpec)) dctRowsCard

/-- THE TIED CARD OF 'earshotlaw12.DctFlat'. -/
def dctFlatCard : Claim7 := { stood := { row := dctFlatRow, standIns := [], harness := (true, "9ed5ebbb08fce890622a5df75e8138effb7928cb82a686e89931e40cf0f83d65"), looks := false }, kinds := [], alts := [], laidByText := true, laidKinds := [.data], laidTests := true, laidLooks := .later }
def DctFlatCardSaid : Prop := Claim7.holds Tryd.pinned (.plain (OpenSpec.ofChange dctFlatSpec)) dctFlatCard

/-- THE TIED CARD OF 'earshotlaw12.DctTurned'. -/
def dctTurnedCard : Claim7 := { stood := { row := dctTurnedRow, standIns := [], harness := (true, "9ed5ebbb08fce890622a5df75e8138effb7928cb82a686e89931e40cf0f83d65"), looks := false }, kinds := [], alts := [], laidByText := true, laidKinds := [.data], laidTests := true, laidLooks := .later }
def DctTurnedCardSaid : Prop := Claim7.holds Tryd.pinned (.plain (OpenSpec.ofChange dctTurnedSpec)) dctTurnedCard

/-- THE SECOND FORM's CARD OF 'earshotlaw12.DctTells'. -/
def dctTellsUptoCard : Claim7 := { stood := { row := dctTellsUptoRow, standIns := [], harness := (true, "9ed5ebbb08fce890622a5df75e8138effb7928cb82a686e89931e40cf0f83d65"), looks := false }, kinds := [], alts := [], laidByText := true, laidKinds := [.data], laidTests := true, laidLooks := .later }
def DctTellsUptoCardSaid : Prop := Claim7.holds Tryd.pinned (.plain (OpenSpec.upto dctTellsSpec)) dctTellsUptoCard

/-- THE SECOND FORM's CARD OF 'earshotlaw12.DctLogs'. -/
def dctLogsUptoCard : Claim7 := { stood := { row := dctLogsUptoRow, standIns := [], harness := (true, "9ed5ebbb08fce890622a5df75e8138effb7928cb82a686e89931e40cf0f83d65"), looks := false }, kinds := [], alts := [], laidByText := true, laidKinds := [.data], laidTests := true, laidLooks := .later }
def DctLogsUptoCardSaid : Prop := Claim7.holds Tryd.pinned (.plain (OpenSpec.upto dctLogsSpec)) dctLogsUptoCard

/-- THE SECOND FORM's CARD OF 'earshotlaw12.DctRows'. -/
def dctRowsUptoCard : Claim7 := { stood := { row := dctRowsUptoRow, standIns := [], harness := (true, "9ed5ebbb08fce890622a5df75e8138effb7928cb82a686e89931e40cf0f83d65"), looks := false }, kinds := [], alts := [], laidByText := true, laidKinds := [.data], laidTests := true, laidLooks := .later }
def DctRowsUptoCardSaid : Prop := Claim7.holds Tryd.pinned (.plain (OpenSpec.upto dctRowsSpec)) dctRowsUptoCard

/-- THE SECOND FORM's CARD OF 'earshotlaw12.DctFlat'. -/
def dctFlatUptoCard : Claim7 := { stood := { row := dctFlatUptoRow, standIns := [], harness := (true, "9ed5ebbb08fce890622a5df75e8138effb7928cb82a686e89931e40cf0f83d65"), looks := false }, kinds := [], alts := [], laidByText := true, laidKinds := [.data], laidTests := true, laidLooks := .later }
def DctFlatUptoCardSaid : Prop := Claim7.holds Tryd.pinned (.plain (OpenSpec.upto dctFlatSpec)) dctFlatUptoCard

/-- THE SECOND FORM's CARD OF 'earshotlaw12.DctTurned'. -/
def dctTurnedUptoCard : Claim7 := { stood := { row := dctTurnedUptoRow, standIns := [], harness := (true, "9ed5ebbb08fce890622a5df75e8138effb7928cb82a686e89931e40cf0f83d65"), looks := false }, kinds := [], alts := [], laidByText := true, laidKinds := [.data], laidTests := true, laidLooks := .later }
def DctTurnedUptoCardSaid : Prop := Claim7.holds Tryd.pinned (.plain (OpenSpec.upto dctTurnedSpec)) dctTurnedUptoCard
end Rows
end Go.Proofs.YtednmdammpkoeaaDoor
