/-
  DERIVED. GIVEN WITH THE SEED: THE CARDS: each row of YtbkdgpeooeokmaaDoorRows.lean that lists a variable, with what it lists TIED to the program's text (the seventh form; the later family's looks); each row that meets fmt, with fmt's text TOLD by the authors' own Lean function (tested against real Go, not proved from fmt's source: count such statements apart). THE CARD IS WHAT COUNTS. Prove the row's statement (the work); the ties are given (YtbkdgpeooeokmaaDoorTie.lean); close each card by the builder's one call (the guide's Derived/Test/ToyasCard.lean, 'card_holds'). Laid BY PROGRAM, IN A SANDBOX (cutbox-door.mjs). By AI agents, Wed Nov 11 2026. No macro, syntax, notation, axiom, sorry.
-/
import Derived.Test.YtbkdgpeooeokmaaDoorRows
import GoSem.ClaimSeven
namespace Go.Proofs.YtbkdgpeooeokmaaDoor
namespace Rows

/-- THE TIED CARD OF 'earshotlaw13.FrontCuts'. -/
def frontCutsCard : Claim7 := { stood := { row := frontCutsRow, standIns := [], harness := (true, "2367477226ec04dd3295e6f28ce3a53f2b6e989dd7c7f9a399c98488a69b878e"), looks := false }, kinds := [], alts := [], laidByText := true, laidKinds := [.data], laidTests := true, laidLooks := .later }
def FrontCutsCardSaid : Prop := Claim7.holds Tryd.pinned (.plain (OpenSpec.ofChange frontCutsSpec)) frontCutsCard

/-- THE TIED CARD OF 'earshotlaw13.FrontMoves'. -/
def frontMovesCard : Claim7 := { stood := { row := frontMovesRow, standIns := [], harness := (true, "2367477226ec04dd3295e6f28ce3a53f2b6e989dd7c7f9a399c98488a69b878e"), looks := false }, kinds := [], alts := [], laidByText := true, laidKinds := [.data], laidTests := true, laidLooks := .later }
def FrontMovesCardSaid : Prop := Claim7.holds Tryd.pinned (.plain (OpenSpec.ofChange frontMovesSpec)) frontMovesCard

/-- THE TIED CARD OF 'earshotlaw13.FrontTails'. -/
def frontTailsCard : Claim7 := { stood := { row := frontTailsRow, standIns := [], harness := (true, "2367477226ec04dd3295e6f28ce3a53f2b6e989dd7c7f9a399c98488a69b878e"), looks := false }, kinds := [], alts := [], laidByText := true, laidKinds := [.data], laidTests := true, laidLooks := .later }
def FrontTailsCardSaid : Prop := Claim7.holds Tryd.pinned (.plain (OpenSpec.ofChange frontTailsSpec)) frontTailsCard

/-- THE TIED CARD OF 'earshotlaw13.FrontNil'. -/
def frontNilCard : Claim7 := { stood := { row := frontNilRow, standIns := [], harness := (true, "2367477226ec04dd3295e6f28ce3a53f2b6e989dd7c7f9a399c98488a69b878e"), looks := false }, kinds := [], alts := [], laidByText := true, laidKinds := [.data], laidTests := true, laidLooks := .later }
def FrontNilCardSaid : Prop := Claim7.holds Tryd.pinned (.plain (OpenSpec.ofChange frontNilSpec)) frontNilCard

/-- THE SECOND FORM's CARD OF 'earshotlaw13.FrontCuts'. -/
def frontCutsUptoCard : Claim7 := { stood := { row := frontCutsUptoRow, standIns := [], harness := (true, "2367477226ec04dd3295e6f28ce3a53f2b6e989dd7c7f9a399c98488a69b878e"), looks := false }, kinds := [], alts := [], laidByText := true, laidKinds := [.data], laidTests := true, laidLooks := .later }
def FrontCutsUptoCardSaid : Prop := Claim7.holds Tryd.pinned (.plain (OpenSpec.upto frontCutsSpec)) frontCutsUptoCard

/-- THE SECOND FORM's CARD OF 'earshotlaw13.FrontMoves'. -/
def frontMovesUptoCard : Claim7 := { stood := { row := frontMovesUptoRow, standIns := [], harness := (true, "2367477226ec04dd3295e6f28ce3a53f2b6e989dd7c7f9a399c98488a69b878e"), looks := false }, kinds := [], alts := [], laidByText := true, laidKinds := [.data], laidTests := true, laidLooks := .later }
def FrontMovesUptoCardSaid : Prop := Claim7.holds Tryd.pinned (.plain (OpenSpec.upto frontMovesSpec)) frontMovesUptoCard

/-- THE SECOND FORM's CARD OF 'earshotlaw13.FrontTails'. -/
def frontTailsUptoCard : Claim7 := { stood := { row := frontTailsUptoRow, standIns := [], harness := (true, "2367477226ec04dd3295e6f28ce3a53f2b6e989dd7c7f9a399c98488a69b878e"), looks := false }, kinds := [], alts := [], laidByText := true, laidKinds := [.data], laidTests := true, laidLooks := .later }
def FrontTailsUptoCardSaid : Prop := Claim7.holds Tryd.pinned (.plain (OpenSpec.upto frontTailsSpec)) frontTailsUptoCard

/-- THE SECOND FORM's CARD OF 'earshotlaw13.FrontNil'. -/
def frontNilUptoCard : Claim7 := { stood := { row := frontNilUptoRow, standIns := [], harness := (true, "2367477226ec04dd3295e6f28ce3a53f2b6e989dd7c7f9a399c98488a69b878e"), looks := false }, kinds := [], alts := [], laidByText := true, laidKinds := [.data], laidTests := true, laidLooks := .later }
def FrontNilUptoCardSaid : Prop := Claim7.holds Tryd.pinned (.plain (OpenSpec.upto frontNilSpec)) frontNilUptoCard
end Rows
end Go.Proofs.YtbkdgpeooeokmaaDoor
