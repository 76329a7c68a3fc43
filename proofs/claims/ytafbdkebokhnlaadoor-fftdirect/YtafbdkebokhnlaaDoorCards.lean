/-
  DERIVED. GIVEN WITH THE SEED: THE CARDS: each row of YtafbdkebokhnlaaDoorRows.lean that lists a variable, with what it lists TIED to the program's text (the seventh form; the later family's looks); each row that meets fmt, with fmt's text TOLD by the authors' own Lean function (tested against real Go, not proved from fmt's source: count such statements apart). THE CARD IS WHAT COUNTS. Prove the row's statement (the work); the ties are given (YtafbdkebokhnlaaDoorTie.lean); close each card by the builder's one call (the guide's Derived/Test/ToyasCard.lean, 'card_holds'). Laid BY PROGRAM, IN A SANDBOX (cutbox-door.mjs). By AI agents, Wed Nov 11 2026. No macro, syntax, notation, axiom, sorry.
-/
import Derived.Test.YtafbdkebokhnlaaDoorRows
import GoSem.ClaimSeven
namespace Go.Proofs.YtafbdkebokhnlaaDoor
namespace Rows

/-- THE TIED CARD OF 'earshotlaw10.FftDirect'. -/
def fftDirectCard : Claim7 := { stood := { row := fftDirectRow, standIns := [], harness := (true, "2b1aa8ec5958df498fc45e9ca06fa163787e04d0881568733383c01c932d6802"), looks := false }, kinds := [], alts := [], laidByText := true, laidKinds := [.data], laidTests := true, laidLooks := .later }
def FftDirectCardSaid : Prop := Claim7.holds Tryd.pinned (.plain (OpenSpec.ofChange fftDirectSpec)) fftDirectCard

/-- THE TIED CARD OF 'earshotlaw10.FftBins'. -/
def fftBinsCard : Claim7 := { stood := { row := fftBinsRow, standIns := [], harness := (true, "2b1aa8ec5958df498fc45e9ca06fa163787e04d0881568733383c01c932d6802"), looks := false }, kinds := [], alts := [], laidByText := true, laidKinds := [.data], laidTests := true, laidLooks := .later }
def FftBinsCardSaid : Prop := Claim7.holds Tryd.pinned (.plain (OpenSpec.ofChange fftBinsSpec)) fftBinsCard

/-- THE TIED CARD OF 'earshotlaw10.FftBack'. -/
def fftBackCard : Claim7 := { stood := { row := fftBackRow, standIns := [], harness := (true, "2b1aa8ec5958df498fc45e9ca06fa163787e04d0881568733383c01c932d6802"), looks := false }, kinds := [], alts := [], laidByText := true, laidKinds := [.data], laidTests := true, laidLooks := .later }
def FftBackCardSaid : Prop := Claim7.holds Tryd.pinned (.plain (OpenSpec.ofChange fftBackSpec)) fftBackCard

/-- THE TIED CARD OF 'earshotlaw10.FftSums'. -/
def fftSumsCard : Claim7 := { stood := { row := fftSumsRow, standIns := [], harness := (true, "2b1aa8ec5958df498fc45e9ca06fa163787e04d0881568733383c01c932d6802"), looks := false }, kinds := [], alts := [], laidByText := true, laidKinds := [.data], laidTests := true, laidLooks := .later }
def FftSumsCardSaid : Prop := Claim7.holds Tryd.pinned (.plain (OpenSpec.ofChange fftSumsSpec)) fftSumsCard

/-- THE TIED CARD OF 'earshotlaw10.FftBlock'. -/
def fftBlockCard : Claim7 := { stood := { row := fftBlockRow, standIns := [], harness := (true, "2b1aa8ec5958df498fc45e9ca06fa163787e04d0881568733383c01c932d6802"), looks := false }, kinds := [], alts := [], laidByText := true, laidKinds := [.data], laidTests := true, laidLooks := .later }
def FftBlockCardSaid : Prop := Claim7.holds Tryd.pinned (.plain (OpenSpec.ofChange fftBlockSpec)) fftBlockCard

/-- THE SECOND FORM's CARD OF 'earshotlaw10.FftDirect'. -/
def fftDirectUptoCard : Claim7 := { stood := { row := fftDirectUptoRow, standIns := [], harness := (true, "2b1aa8ec5958df498fc45e9ca06fa163787e04d0881568733383c01c932d6802"), looks := false }, kinds := [], alts := [], laidByText := true, laidKinds := [.data], laidTests := true, laidLooks := .later }
def FftDirectUptoCardSaid : Prop := Claim7.holds Tryd.pinned (.plain (OpenSpec.upto fftDirectSpec)) fftDirectUptoCard

/-- THE SECOND FORM's CARD OF 'earshotlaw10.FftBins'. -/
def fftBinsUptoCard : Claim7 := { stood := { row := fftBinsUptoRow, standIns := [], harness := (true, "2b1aa8ec5958df498fc45e9ca06fa163787e04d0881568733383c01c932d6802"), looks := false }, kinds := [], alts := [], laidByText := true, laidKinds := [.data], laidTests := true, laidLooks := .later }
def FftBinsUptoCardSaid : Prop := Claim7.holds Tryd.pinned (.plain (OpenSpec.upto fftBinsSpec)) fftBinsUptoCard

/-- THE SECOND FORM's CARD OF 'earshotlaw10.FftBack'. -/
def fftBackUptoCard : Claim7 := { stood := { row := fftBackUptoRow, standIns := [], harness := (true, "2b1aa8ec5958df498fc45e9ca06fa163787e04d0881568733383c01c932d6802"), looks := false }, kinds := [], alts := [], laidByText := true, laidKinds := [.data], laidTests := true, laidLooks := .later }
def FftBackUptoCardSaid : Prop := Claim7.holds Tryd.pinned (.plain (OpenSpec.upto fftBackSpec)) fftBackUptoCard

/-- THE SECOND FORM's CARD OF 'earshotlaw10.FftSums'. -/
def fftSumsUptoCard : Claim7 := { stood := { row := fftSumsUptoRow, standIns := [], harness := (true, "2b1aa8ec5958df498fc45e9ca06fa163787e04d0881568733383c01c932d6802"), looks := false }, kinds := [], alts := [], laidByText := true, laidKinds := [.data], laidTests := true, laidLooks := .later }
def FftSumsUptoCardSaid : Prop := Claim7.holds Tryd.pinned (.plain (OpenSpec.upto fftSumsSpec)) fftSumsUptoCard

/-- THE SECOND FORM's CARD OF 'earshotlaw10.FftBlock'. -/
def fftBlockUptoCard : Claim7 := { stood := { row := fftBlockUptoRow, standIns := [], harness := (true, "2b1aa8ec5958df498fc45e9ca06fa163787e04d0881568733383c01c932d6802"), looks := false }, kinds := [], alts := [], laidByText := true, laidKinds := [.data], laidTests := true, laidLooks := .later }
def FftBlockUptoCardSaid : Prop := Claim7.holds Tryd.pinned (.plain (OpenSpec.upto fftBlockSpec)) fftBlockUptoCard
end Rows
end Go.Proofs.YtafbdkebokhnlaaDoor
