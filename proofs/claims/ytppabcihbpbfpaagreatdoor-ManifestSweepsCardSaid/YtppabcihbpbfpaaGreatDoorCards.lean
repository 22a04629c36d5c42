/-
  DERIVED. GIVEN WITH THE SEED: THE CARDS: each row of YtppabcihbpbfpaaGreatDoorRows.lean that lists a variable, with what it lists TIED to the program's text (the seventh form; the later family's looks); each row that meets fmt, with fmt's text TOLD by the authors' own Lean function (tested against real Go, not proved from fmt's source: count such statements apart). THE CARD IS WHAT COUNTS. Prove the row's statement (the work); the ties are given (YtppabcihbpbfpaaGreatDoorTie.lean); close each card by the builder's one call (the guide's Derived/Test/ToyasCard.lean, 'card_holds'). Laid BY PROGRAM, IN A SANDBOX (cutbox-door.mjs). By AI agents, Wed Nov 11 2026. No macro, syntax, notation, axiom, sorry.
-/
import Derived.Test.YtppabcihbpbfpaaGreatDoorRows
import GoSem.ClaimSeven
namespace Go.Proofs.YtppabcihbpbfpaaGreatDoor
namespace Rows

/-- THE TIED CARD OF 'annalslaw8.ManifestSweeps'. -/
def manifestSweepsCard : Claim7 := { stood := { row := manifestSweepsRow, standIns := [], harness := (true, "64cdc2f1e9d8765d9bc76522d7fb3c885ba725cf5c13c1b1a9c7dfd3914db8f0"), looks := true }, kinds := [], alts := [], laidByText := true, laidKinds := [.data, .data, .data, .sentinel, .sentinel], laidTests := true, laidLooks := .later }
def ManifestSweepsCardSaid : Prop := Claim7.holds Tryz.pinned (.plain (OpenSpec.ofChange manifestSweepsSpec)) manifestSweepsCard

/-- THE SECOND FORM's CARD OF 'annalslaw8.ManifestSweeps'. -/
def manifestSweepsUptoCard : Claim7 := { stood := { row := manifestSweepsUptoRow, standIns := [], harness := (true, "64cdc2f1e9d8765d9bc76522d7fb3c885ba725cf5c13c1b1a9c7dfd3914db8f0"), looks := true }, kinds := [], alts := [], laidByText := true, laidKinds := [.data, .data, .data, .sentinel, .sentinel], laidTests := true, laidLooks := .later }
def ManifestSweepsUptoCardSaid : Prop := Claim7.holds Tryz.pinned (.plain (OpenSpec.upto manifestSweepsSpec)) manifestSweepsUptoCard
end Rows
end Go.Proofs.YtppabcihbpbfpaaGreatDoor
