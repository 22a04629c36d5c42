/-
  DERIVED. GIVEN WITH THE SEED: THE CARDS: each row of YtgjlkkikgkbamaaGreatDoorRows.lean that lists a variable, with what it lists TIED to the program's text (the seventh form; the later family's looks); each row that meets fmt, with fmt's text TOLD by the authors' own Lean function (tested against real Go, not proved from fmt's source: count such statements apart). THE CARD IS WHAT COUNTS. Prove the row's statement (the work); the ties are given (YtgjlkkikgkbamaaGreatDoorTie.lean); close each card by the builder's one call (the guide's Derived/Test/ToyasCard.lean, 'card_holds'). Laid BY PROGRAM, IN A SANDBOX (cutbox-door.mjs). By AI agents, Wed Nov 11 2026. No macro, syntax, notation, axiom, sorry.
-/
import Derived.Test.YtgjlkkikgkbamaaGreatDoorRows
import GoSem.ClaimSeven
namespace Go.Proofs.YtgjlkkikgkbamaaGreatDoor
namespace Rows

/-- THE TIED CARD OF 'annalslaw10.SagaLifted'. -/
def sagaLiftedCard : Claim7 := { stood := { row := sagaLiftedRow, standIns := [], harness := (true, "799cba6275464cca4e6af6e7a44c0bf9e107f339b9a1ccd9c593a6aa3776ecee"), looks := false }, kinds := [], alts := [], laidByText := true, laidKinds := [.data, .data, .data, .data, .data, .data], laidTests := true, laidLooks := .later }
def SagaLiftedCardSaid : Prop := Claim7.holds Tryz.pinned (.plain (OpenSpec.ofChange sagaLiftedSpec)) sagaLiftedCard

/-- THE SECOND FORM's CARD OF 'annalslaw10.SagaLifted'. -/
def sagaLiftedUptoCard : Claim7 := { stood := { row := sagaLiftedUptoRow, standIns := [], harness := (true, "799cba6275464cca4e6af6e7a44c0bf9e107f339b9a1ccd9c593a6aa3776ecee"), looks := false }, kinds := [], alts := [], laidByText := true, laidKinds := [.data, .data, .data, .data, .data, .data], laidTests := true, laidLooks := .later }
def SagaLiftedUptoCardSaid : Prop := Claim7.holds Tryz.pinned (.plain (OpenSpec.upto sagaLiftedSpec)) sagaLiftedUptoCard
end Rows
end Go.Proofs.YtgjlkkikgkbamaaGreatDoor
