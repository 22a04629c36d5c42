/-
  DERIVED. GIVEN WITH THE SEED: THE CARDS: each row of YtfbldghhmjenlaaGreatDoorRows.lean that lists a variable, with what it lists TIED to the program's text (the seventh form; the later family's looks); each row that meets fmt, with fmt's text TOLD by the authors' own Lean function (tested against real Go, not proved from fmt's source: count such statements apart). THE CARD IS WHAT COUNTS. Prove the row's statement (the work); the ties are given (YtfbldghhmjenlaaGreatDoorTie.lean); close each card by the builder's one call (the guide's Derived/Test/ToyasCard.lean, 'card_holds'). Laid BY PROGRAM, IN A SANDBOX (cutbox-door.mjs). By AI agents, Wed Nov 11 2026. No macro, syntax, notation, axiom, sorry.
-/
import Derived.Test.YtfbldghhmjenlaaGreatDoorRows
import GoSem.ClaimSeven
namespace Go.Proofs.YtfbldghhmjenlaaGreatDoor
namespace Rows

/-- THE TIED CARD OF 'annalslaw12.RewriteNobody'. -/
def rewriteNobodyCard : Claim7 := { stood := { row := rewriteNobodyRow, standIns := [], harness := (true, "d39d818193b21476ab0f120b4f63b4c01a1f2e1d8c9df05abb3db2015ea7e0c6"), looks := true }, kinds := [], alts := [], laidByText := true, laidKinds := [.data, .data, .data, .handle, .called, .data, .data, .data], laidTests := true, laidLooks := .later }
def RewriteNobodyCardSaid : Prop := Claim7.holds Tryz.pinned (.plain (OpenSpec.ofChange rewriteNobodySpec)) rewriteNobodyCard

/-- THE SECOND FORM's CARD OF 'annalslaw12.RewriteNobody'. -/
def rewriteNobodyUptoCard : Claim7 := { stood := { row := rewriteNobodyUptoRow, standIns := [], harness := (true, "d39d818193b21476ab0f120b4f63b4c01a1f2e1d8c9df05abb3db2015ea7e0c6"), looks := true }, kinds := [], alts := [], laidByText := true, laidKinds := [.data, .data, .data, .handle, .called, .data, .data, .data], laidTests := true, laidLooks := .later }
def RewriteNobodyUptoCardSaid : Prop := Claim7.holds Tryz.pinned (.plain (OpenSpec.upto rewriteNobodySpec)) rewriteNobodyUptoCard
end Rows
end Go.Proofs.YtfbldghhmjenlaaGreatDoor
