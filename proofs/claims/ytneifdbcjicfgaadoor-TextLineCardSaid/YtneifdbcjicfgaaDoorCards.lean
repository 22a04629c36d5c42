/-
  DERIVED. GIVEN WITH THE SEED: THE CARDS: each row of YtneifdbcjicfgaaDoorRows.lean that lists a variable, with what it lists TIED to the program's text (the seventh form; the later family's looks); each row that meets fmt, with fmt's text TOLD by the authors' own Lean function (tested against real Go, not proved from fmt's source: count such statements apart). THE CARD IS WHAT COUNTS. Prove the row's statement (the work); the ties are given (YtneifdbcjicfgaaDoorTie.lean); close each card by the builder's one call (the guide's Derived/Test/ToyasCard.lean, 'card_holds'). Laid BY PROGRAM, IN A SANDBOX (cutbox-door.mjs). By AI agents, Wed Nov 11 2026. No macro, syntax, notation, axiom, sorry.
-/
import Derived.Test.YtneifdbcjicfgaaDoorRows
import GoSem.ClaimSeven
namespace Go.Proofs.YtneifdbcjicfgaaDoor
namespace Rows

/-- THE TIED CARD OF 'annalslaw2.TextLine'. -/
def textLineCard : Claim7 := { stood := { row := textLineRow, standIns := [], harness := (true, "06fb0f73652c8339cb0d55e1a64062fd35ed20e745b0ed283c4bb01d92d79bcb"), looks := true }, kinds := [], alts := [], laidByText := true, laidKinds := [.data, .data, .data, .sentinel, .sentinel, .data, .data], laidTests := true, laidLooks := .later }
def TextLineCardSaid : Prop := Claim7.holds Tryd.pinned (.plain (OpenSpec.ofChange textLineSpec)) textLineCard

/-- THE TIED CARD OF 'annalslaw2.TextKept'. -/
def textKeptCard : Claim7 := { stood := { row := textKeptRow, standIns := [], harness := (true, "06fb0f73652c8339cb0d55e1a64062fd35ed20e745b0ed283c4bb01d92d79bcb"), looks := true }, kinds := [], alts := [], laidByText := true, laidKinds := [.data, .data, .data, .sentinel, .sentinel, .data, .data, .data, .data], laidTests := true, laidLooks := .later }
def TextKeptCardSaid : Prop := Claim7.holds Tryd.pinned (.plain (OpenSpec.ofChange textKeptSpec)) textKeptCard

/-- THE TIED CARD OF 'annalslaw2.TextWords'. -/
def textWordsCard : Claim7 := { stood := { row := textWordsRow, standIns := [], harness := (true, "06fb0f73652c8339cb0d55e1a64062fd35ed20e745b0ed283c4bb01d92d79bcb"), looks := true }, kinds := [], alts := [], laidByText := true, laidKinds := [.data, .data, .data, .sentinel, .sentinel, .data, .data, .data, .data], laidTests := true, laidLooks := .later }
def TextWordsCardSaid : Prop := Claim7.holds Tryd.pinned (.plain (OpenSpec.ofChange textWordsSpec)) textWordsCard

/-- THE TIED CARD OF 'annalslaw2.TextLong'. -/
def textLongCard : Claim7 := { stood := { row := textLongRow, standIns := [], harness := (true, "06fb0f73652c8339cb0d55e1a64062fd35ed20e745b0ed283c4bb01d92d79bcb"), looks := true }, kinds := [], alts := [], laidByText := true, laidKinds := [.data, .data, .data, .sentinel, .sentinel, .data, .data, .data, .data], laidTests := true, laidLooks := .later }
def TextLongCardSaid : Prop := Claim7.holds Tryd.pinned (.plain (OpenSpec.ofChange textLongSpec)) textLongCard

/-- THE SECOND FORM's CARD OF 'annalslaw2.TextLine'. -/
def textLineUptoCard : Claim7 := { stood := { row := textLineUptoRow, standIns := [], harness := (true, "06fb0f73652c8339cb0d55e1a64062fd35ed20e745b0ed283c4bb01d92d79bcb"), looks := true }, kinds := [], alts := [], laidByText := true, laidKinds := [.data, .data, .data, .sentinel, .sentinel, .data, .data], laidTests := true, laidLooks := .later }
def TextLineUptoCardSaid : Prop := Claim7.holds Tryd.pinned (.plain (OpenSpec.upto textLineSpec)) textLineUptoCard

/-- THE SECOND FORM's CARD OF 'annalslaw2.TextKept'. -/
def textKeptUptoCard : Claim7 := { stood := { row := textKeptUptoRow, standIns := [], harness := (true, "06fb0f73652c8339cb0d55e1a64062fd35ed20e745b0ed283c4bb01d92d79bcb"), looks := true }, kinds := [], alts := [], laidByText := true, laidKinds := [.data, .data, .data, .sentinel, .sentinel, .data, .data, .data, .data], laidTests := true, laidLooks := .later }
def TextKeptUptoCardSaid : Prop := Claim7.holds Tryd.pinned (.plain (OpenSpec.upto textKeptSpec)) textKeptUptoCard

/-- THE SECOND FORM's CARD OF 'annalslaw2.TextWords'. -/
def textWordsUptoCard : Claim7 := { stood := { row := textWordsUptoRow, standIns := [], harness := (true, "06fb0f73652c8339cb0d55e1a64062fd35ed20e745b0ed283c4bb01d92d79bcb"), looks := true }, kinds := [], alts := [], laidByText := true, laidKinds := [.data, .data, .data, .sentinel, .sentinel, .data, .data, .data, .data], laidTests := true, laidLooks := .later }
def TextWordsUptoCardSaid : Prop := Claim7.holds Tryd.pinned (.plain (OpenSpec.upto textWordsSpec)) textWordsUptoCard

/-- THE SECOND FORM's CARD OF 'annalslaw2.TextLong'. -/
def textLongUptoCard : Claim7 := { stood := { row := textLongUptoRow, standIns := [], harness := (true, "06fb0f73652c8339cb0d55e1a64062fd35ed20e745b0ed283c4bb01d92d79bcb"), looks := true }, kinds := [], alts := [], laidByText := true, laidKinds := [.data, .data, .data, .sentinel, .sentinel, .data, .data, .data, .data], laidTests := true, laidLooks := .later }
def TextLongUptoCardSaid : Prop := Claim7.holds Tryd.pinned (.plain (OpenSpec.upto textLongSpec)) textLongUptoCard
end Rows
end Go.Proofs.YtneifdbcjicfgaaDoor
