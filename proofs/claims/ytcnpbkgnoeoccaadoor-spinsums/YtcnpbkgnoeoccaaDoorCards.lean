/-
  DERIVED. GIVEN WITH THE SEED: THE CARDS: each row of YtcnpbkgnoeoccaaDoorRows.lean that lists a variable, with what it lists TIED to the program's text (the seventh form; the later family's looks); each row that meets fmt, with fmt's text TOLD by the authors' own Lean function (tested against real Go, not proved from fmt's source: count such statements apart). THE CARD IS WHAT COUNTS. Prove the row's statement (the work); the ties are given (YtcnpbkgnoeoccaaDoorTie.lean); close each card by the builder's one call (the guide's Derived/Test/ToyasCard.lean, 'card_holds'). Laid BY PROGRAM, IN A SANDBOX (cutbox-door.mjs). By AI agents, Wed Nov 11 2026. No macro, syntax, notation, axiom, sorry.
-/
import Derived.Test.YtcnpbkgnoeoccaaDoorRows
import GoSem.ClaimSeven
namespace Go.Proofs.YtcnpbkgnoeoccaaDoor
namespace Rows

/-- THE TIED CARD OF 'earshotlaw09.SpinTells'. -/
def spinTellsCard : Claim7 := { stood := { row := spinTellsRow, standIns := [], harness := (true, "c4285680de2f98f2bd7030f35783ee964a10ce68151d4ac9f6684e0e094c04f0"), looks := false }, kinds := [], alts := [], laidByText := true, laidKinds := [.data], laidTests := true, laidLooks := .later }
def SpinTellsCardSaid : Prop := Claim7.holds Tryd.pinned (.plain (OpenSpec.ofChange spinTellsSpec)) spinTellsCard

/-- THE TIED CARD OF 'earshotlaw09.SpinTurns'. -/
def spinTurnsCard : Claim7 := { stood := { row := spinTurnsRow, standIns := [], harness := (true, "c4285680de2f98f2bd7030f35783ee964a10ce68151d4ac9f6684e0e094c04f0"), looks := false }, kinds := [], alts := [], laidByText := true, laidKinds := [.data], laidTests := true, laidLooks := .later }
def SpinTurnsCardSaid : Prop := Claim7.holds Tryd.pinned (.plain (OpenSpec.ofChange spinTurnsSpec)) spinTurnsCard

/-- THE TIED CARD OF 'earshotlaw09.SpinSums'. -/
def spinSumsCard : Claim7 := { stood := { row := spinSumsRow, standIns := [], harness := (true, "c4285680de2f98f2bd7030f35783ee964a10ce68151d4ac9f6684e0e094c04f0"), looks := false }, kinds := [], alts := [], laidByText := true, laidKinds := [.data], laidTests := true, laidLooks := .later }
def SpinSumsCardSaid : Prop := Claim7.holds Tryd.pinned (.plain (OpenSpec.ofChange spinSumsSpec)) spinSumsCard

/-- THE TIED CARD OF 'earshotlaw09.SpinQuarter'. -/
def spinQuarterCard : Claim7 := { stood := { row := spinQuarterRow, standIns := [], harness := (true, "c4285680de2f98f2bd7030f35783ee964a10ce68151d4ac9f6684e0e094c04f0"), looks := false }, kinds := [], alts := [], laidByText := true, laidKinds := [.data], laidTests := true, laidLooks := .later }
def SpinQuarterCardSaid : Prop := Claim7.holds Tryd.pinned (.plain (OpenSpec.ofChange spinQuarterSpec)) spinQuarterCard

/-- THE TIED CARD OF 'earshotlaw09.SpinSizes'. -/
def spinSizesCard : Claim7 := { stood := { row := spinSizesRow, standIns := [], harness := (true, "c4285680de2f98f2bd7030f35783ee964a10ce68151d4ac9f6684e0e094c04f0"), looks := false }, kinds := [], alts := [], laidByText := true, laidKinds := [.data], laidTests := true, laidLooks := .later }
def SpinSizesCardSaid : Prop := Claim7.holds Tryd.pinned (.plain (OpenSpec.ofChange spinSizesSpec)) spinSizesCard

/-- THE SECOND FORM's CARD OF 'earshotlaw09.SpinTells'. -/
def spinTellsUptoCard : Claim7 := { stood := { row := spinTellsUptoRow, standIns := [], harness := (true, "c4285680de2f98f2bd7030f35783ee964a10ce68151d4ac9f6684e0e094c04f0"), looks := false }, kinds := [], alts := [], laidByText := true, laidKinds := [.data], laidTests := true, laidLooks := .later }
def SpinTellsUptoCardSaid : Prop := Claim7.holds Tryd.pinned (.plain (OpenSpec.upto spinTellsSpec)) spinTellsUptoCard

/-- THE SECOND FORM's CARD OF 'earshotlaw09.SpinTurns'. -/
def spinTurnsUptoCard : Claim7 := { stood := { row := spinTurnsUptoRow, standIns := [], harness := (true, "c4285680de2f98f2bd7030f35783ee964a10ce68151d4ac9f6684e0e094c04f0"), looks := false }, kinds := [], alts := [], laidByText := true, laidKinds := [.data], laidTests := true, laidLooks := .later }
def SpinTurnsUptoCardSaid : Prop := Claim7.holds Tryd.pinned (.plain (OpenSpec.upto spinTurnsSpec)) spinTurnsUptoCard

/-- THE SECOND FORM's CARD OF 'earshotlaw09.SpinSums'. -/
def spinSumsUptoCard : Claim7 := { stood := { row := spinSumsUptoRow, standIns := [], harness := (true, "c4285680de2f98f2bd7030f35783ee964a10ce68151d4ac9f6684e0e094c04f0"), looks := false }, kinds := [], alts := [], laidByText := true, laidKinds := [.data], laidTests := true, laidLooks := .later }
def SpinSumsUptoCardSaid : Prop := Claim7.holds Tryd.pinned (.plain (OpenSpec.upto spinSumsSpec)) spinSumsUptoCard

/-- THE SECOND FORM's CARD OF 'earshotlaw09.SpinQuarter'. -/
def spinQuarterUptoCard : Claim7 := { stood := { row := spinQuarterUptoRow, standIns := [], harness := (true, "c4285680de2f98f2bd7030f35783ee964a10ce68151d4ac9f6684e0e094c04f0"), looks := false }, kinds := [], alts := [], laidByText := true, laidKinds := [.data], laidTests := true, laidLooks := .later }
def SpinQuarterUptoCardSaid : Prop := Claim7.holds Tryd.pinned (.plain (OpenSpec.upto spinQuarterSpec)) spinQuarterUptoCard

/-- THE SECOND FORM's CARD OF 'earshotlaw09.SpinSizes'. -/
def spinSizesUptoCard : Claim7 := { stood := { row := spinSizesUptoRow, standIns := [], harness := (true, "c4285680de2f98f2bd7030f35783ee964a10ce68151d4ac9f6684e0e094c04f0"), looks := false }, kinds := [], alts := [], laidByText := true, laidKinds := [.data], laidTests := true, laidLooks := .later }
def SpinSizesUptoCardSaid : Prop := Claim7.holds Tryd.pinned (.plain (OpenSpec.upto spinSizesSpec)) spinSizesUptoCard
end Rows
end Go.Proofs.YtcnpbkgnoeoccaaDoor
