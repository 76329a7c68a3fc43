/-
  DERIVED. GIVEN WITH THE SEED: THE CARDS: each row of YtbkdgpeooeokmaaGreatDoorRows.lean that lists a variable, with what it lists TIED to the program's text (the seventh form; the later family's looks); each row that meets fmt, with fmt's text TOLD by the authors' own Lean function (tested against real Go, not proved from fmt's source: count such statements apart). THE CARD IS WHAT COUNTS. Prove the row's statement (the work); the ties are given (YtbkdgpeooeokmaaGreatDoorTie.lean); close each card by the builder's one call (the guide's Derived/Test/ToyasCard.lean, 'card_holds'). Laid BY PROGRAM, IN A SANDBOX (cutbox-door.mjs). By AI agents, Wed Nov 11 2026. No macro, syntax, notation, axiom, sorry.
-/
import Derived.Test.YtbkdgpeooeokmaaGreatDoorRows
import GoSem.ClaimSeven
namespace Go.Proofs.YtbkdgpeooeokmaaGreatDoor
namespace Rows

/-- THE TIED CARD OF 'earshotlaw13.FrontFrames'. -/
def frontFramesCard : Claim7 := { stood := { row := frontFramesRow, standIns := [], harness := (true, "937ecba97ae786b8ea6fe40e547a098a0eb782874821600356674966dbf6bdf5"), looks := false }, kinds := [], alts := [], laidByText := true, laidKinds := [.data], laidTests := true, laidLooks := .later }
def FrontFramesCardSaid : Prop := Claim7.holds Tryz.pinned (.plain (OpenSpec.ofChange frontFramesSpec)) frontFramesCard

/-- THE TIED CARD OF 'earshotlaw13.FrontStream'. -/
def frontStreamCard : Claim7 := { stood := { row := frontStreamRow, standIns := [], harness := (true, "937ecba97ae786b8ea6fe40e547a098a0eb782874821600356674966dbf6bdf5"), looks := false }, kinds := [], alts := [], laidByText := true, laidKinds := [.data], laidTests := true, laidLooks := .later }
def FrontStreamCardSaid : Prop := Claim7.holds Tryz.pinned (.plain (OpenSpec.ofChange frontStreamSpec)) frontStreamCard

/-- THE SECOND FORM's CARD OF 'earshotlaw13.FrontFrames'. -/
def frontFramesUptoCard : Claim7 := { stood := { row := frontFramesUptoRow, standIns := [], harness := (true, "937ecba97ae786b8ea6fe40e547a098a0eb782874821600356674966dbf6bdf5"), looks := false }, kinds := [], alts := [], laidByText := true, laidKinds := [.data], laidTests := true, laidLooks := .later }
def FrontFramesUptoCardSaid : Prop := Claim7.holds Tryz.pinned (.plain (OpenSpec.upto frontFramesSpec)) frontFramesUptoCard

/-- THE SECOND FORM's CARD OF 'earshotlaw13.FrontStream'. -/
def frontStreamUptoCard : Claim7 := { stood := { row := frontStreamUptoRow, standIns := [], harness := (true, "937ecba97ae786b8ea6fe40e547a098a0eb782874821600356674966dbf6bdf5"), looks := false }, kinds := [], alts := [], laidByText := true, laidKinds := [.data], laidTests := true, laidLooks := .later }
def FrontStreamUptoCardSaid : Prop := Claim7.holds Tryz.pinned (.plain (OpenSpec.upto frontStreamSpec)) frontStreamUptoCard
end Rows
end Go.Proofs.YtbkdgpeooeokmaaGreatDoor
