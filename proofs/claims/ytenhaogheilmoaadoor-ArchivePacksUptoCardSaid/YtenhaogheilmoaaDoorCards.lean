/-
  DERIVED. GIVEN WITH THE SEED: THE CARDS: each row of YtenhaogheilmoaaDoorRows.lean that lists a variable, with what it lists TIED to the program's text (the seventh form; the later family's looks); each row that meets fmt, with fmt's text TOLD by the authors' own Lean function (tested against real Go, not proved from fmt's source: count such statements apart). THE CARD IS WHAT COUNTS. Prove the row's statement (the work); the ties are given (YtenhaogheilmoaaDoorTie.lean); close each card by the builder's one call (the guide's Derived/Test/ToyasCard.lean, 'card_holds'). Laid BY PROGRAM, IN A SANDBOX (cutbox-door.mjs). By AI agents, Wed Nov 11 2026. No macro, syntax, notation, axiom, sorry.
-/
import Derived.Test.YtenhaogheilmoaaDoorRows
import GoSem.ClaimSeven
namespace Go.Proofs.YtenhaogheilmoaaDoor
namespace Rows

/-- THE TIED CARD OF 'annalslaw17.ArchivePacks'. -/
def archivePacksCard : Claim7 := { stood := { row := archivePacksRow, standIns := [], harness := (true, "d2d50b7e843a13dd84fdcb7d1151f527be0b8b1821f55d72570e01fee1db4c5b"), looks := false }, kinds := [], alts := [], laidByText := true, laidKinds := [.data, .data, .called, .data, .data], laidTests := true, laidLooks := .later }
def ArchivePacksCardSaid : Prop := Claim7.holds Tryd.pinned (.plain (OpenSpec.ofChange archivePacksSpec)) archivePacksCard

/-- THE SECOND FORM's CARD OF 'annalslaw17.ArchivePacks'. -/
def archivePacksUptoCard : Claim7 := { stood := { row := archivePacksUptoRow, standIns := [], harness := (true, "d2d50b7e843a13dd84fdcb7d1151f527be0b8b1821f55d72570e01fee1db4c5b"), looks := false }, kinds := [], alts := [], laidByText := true, laidKinds := [.data, .data, .called, .data, .data], laidTests := true, laidLooks := .later }
def ArchivePacksUptoCardSaid : Prop := Claim7.holds Tryd.pinned (.plain (OpenSpec.upto archivePacksSpec)) archivePacksUptoCard
end Rows
end Go.Proofs.YtenhaogheilmoaaDoor
