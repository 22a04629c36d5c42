/-
  DERIVED. GIVEN WITH THE SEED: THE CARDS: each row of YtklingmjlfjibaaDoorRows.lean that lists a variable, with what it lists TIED to the program's text (the seventh form; the later family's looks); each row that meets fmt, with fmt's text TOLD by the authors' own Lean function (tested against real Go, not proved from fmt's source: count such statements apart). THE CARD IS WHAT COUNTS. Prove the row's statement (the work); the ties are given (YtklingmjlfjibaaDoorTie.lean); close each card by the builder's one call (the guide's Derived/Test/ToyasCard.lean, 'card_holds'). Laid BY PROGRAM, IN A SANDBOX (cutbox-door.mjs). By AI agents, Wed Nov 11 2026. No macro, syntax, notation, axiom, sorry.
-/
import Derived.Test.YtklingmjlfjibaaDoorRows
import GoSem.ClaimSeven
namespace Go.Proofs.YtklingmjlfjibaaDoor
namespace Rows

/-- THE TIED CARD OF 'annalslaw2.TextLetters'. -/
def textLettersCard : Claim7 := { stood := { row := textLettersRow, standIns := [], harness := (true, "c4295a762d0475a5b22711d1faf22f193fcba6d85dda13917664b4557ff33b6e"), looks := false }, kinds := [], alts := [], laidByText := true, laidKinds := [.data, .data], laidTests := true, laidLooks := .later }
def TextLettersCardSaid : Prop := Claim7.holds Tryd.pinned (.plain (OpenSpec.ofChange textLettersSpec)) textLettersCard

/-- THE TIED CARD OF 'annalslaw2.TextNames'. -/
def textNamesCard : Claim7 := { stood := { row := textNamesRow, standIns := [], harness := (true, "c4295a762d0475a5b22711d1faf22f193fcba6d85dda13917664b4557ff33b6e"), looks := false }, kinds := [], alts := [], laidByText := true, laidKinds := [.data, .data], laidTests := true, laidLooks := .later }
def TextNamesCardSaid : Prop := Claim7.holds Tryd.pinned (.plain (OpenSpec.ofChange textNamesSpec)) textNamesCard

/-- THE TIED CARD OF 'annalslaw2.TextRound'. -/
def textRoundCard : Claim7 := { stood := { row := textRoundRow, standIns := [], harness := (true, "c4295a762d0475a5b22711d1faf22f193fcba6d85dda13917664b4557ff33b6e"), looks := false }, kinds := [], alts := [], laidByText := true, laidKinds := [.data, .data, .data, .data], laidTests := true, laidLooks := .later }
def TextRoundCardSaid : Prop := Claim7.holds Tryd.pinned (.plain (OpenSpec.ofChange textRoundSpec)) textRoundCard

/-- THE TIED CARD OF 'annalslaw2.TextOne'. -/
def textOneCard : Claim7 := { stood := { row := textOneRow, standIns := [], harness := (true, "c4295a762d0475a5b22711d1faf22f193fcba6d85dda13917664b4557ff33b6e"), looks := false }, kinds := [], alts := [], laidByText := true, laidKinds := [.data, .data, .data, .data], laidTests := true, laidLooks := .later }
def TextOneCardSaid : Prop := Claim7.holds Tryd.pinned (.plain (OpenSpec.ofChange textOneSpec)) textOneCard

/-- THE SECOND FORM's CARD OF 'annalslaw2.TextLetters'. -/
def textLettersUptoCard : Claim7 := { stood := { row := textLettersUptoRow, standIns := [], harness := (true, "c4295a762d0475a5b22711d1faf22f193fcba6d85dda13917664b4557ff33b6e"), looks := false }, kinds := [], alts := [], laidByText := true, laidKinds := [.data, .data], laidTests := true, laidLooks := .later }
def TextLettersUptoCardSaid : Prop := Claim7.holds Tryd.pinned (.plain (OpenSpec.upto textLettersSpec)) textLettersUptoCard

/-- THE SECOND FORM's CARD OF 'annalslaw2.TextNames'. -/
def textNamesUptoCard : Claim7 := { stood := { row := textNamesUptoRow, standIns := [], harness := (true, "c4295a762d0475a5b22711d1faf22f193fcba6d85dda13917664b4557ff33b6e"), looks := false }, kinds := [], alts := [], laidByText := true, laidKinds := [.data, .data], laidTests := true, laidLooks := .later }
def TextNamesUptoCardSaid : Prop := Claim7.holds Tryd.pinned (.plain (OpenSpec.upto textNamesSpec)) textNamesUptoCard

/-- THE SECOND FORM's CARD OF 'annalslaw2.TextRound'. -/
def textRoundUptoCard : Claim7 := { stood := { row := textRoundUptoRow, standIns := [], harness := (true, "c4295a762d0475a5b22711d1faf22f193fcba6d85dda13917664b4557ff33b6e"), looks := false }, kinds := [], alts := [], laidByText := true, laidKinds := [.data, .data, .data, .data], laidTests := true, laidLooks := .later }
def TextRoundUptoCardSaid : Prop := Claim7.holds Tryd.pinned (.plain (OpenSpec.upto textRoundSpec)) textRoundUptoCard

/-- THE SECOND FORM's CARD OF 'annalslaw2.TextOne'. -/
def textOneUptoCard : Claim7 := { stood := { row := textOneUptoRow, standIns := [], harness := (true, "c4295a762d0475a5b22711d1faf22f193fcba6d85dda13917664b4557ff33b6e"), looks := false }, kinds := [], alts := [], laidByText := true, laidKinds := [.data, .data, .data, .data], laidTests := true, laidLooks := .later }
def TextOneUptoCardSaid : Prop := Claim7.holds Tryd.pinned (.plain (OpenSpec.upto textOneSpec)) textOneUptoCard
end Rows
end Go.Proofs.YtklingmjlfjibaaDoor
