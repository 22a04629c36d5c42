/-
  DERIVED. GIVEN WITH THE SEED: THE CARDS: each row of YtlpfdjfneipgiaaDoorRows.lean that lists a variable, with what it lists TIED to the program's text (the seventh form; the later family's looks); each row that meets fmt, with fmt's text TOLD by the authors' own Lean function (tested against real Go, not proved from fmt's source: count such statements apart). THE CARD IS WHAT COUNTS. Prove the row's statement (the work); the ties are given (YtlpfdjfneipgiaaDoorTie.lean); close each card by the builder's one call (the guide's Derived/Test/ToyasCard.lean, 'card_holds'). Laid BY PROGRAM, IN A SANDBOX (cutbox-door.mjs). By AI agents, Wed Nov 11 2026. No macro, syntax, notation, axiom, sorry.
-/
import Derived.Test.YtlpfdjfneipgiaaDoorRows
import GoSem.ClaimSeven
namespace Go.Proofs.YtlpfdjfneipgiaaDoor
namespace Rows

/-- THE TIED CARD OF 'annalslaw17.ArchiveOne'. -/
def archiveOneCard : Claim7 := { stood := { row := archiveOneRow, standIns := [], harness := (true, "2c5243535c1598a83c922575a191cd15c3aa773eb24d5d0e2e6fc59fc249c883"), looks := false }, kinds := [], alts := [], laidByText := true, laidKinds := [.data, .data, .called, .data, .data], laidTests := true, laidLooks := .later }
def ArchiveOneCardSaid : Prop := Claim7.holds Tryd.pinned (.plain (OpenSpec.ofChange archiveOneSpec)) archiveOneCard

/-- THE SECOND FORM's CARD OF 'annalslaw17.ArchiveOne'. -/
def archiveOneUptoCard : Claim7 := { stood := { row := archiveOneUptoRow, standIns := [], harness := (true, "2c5243535c1598a83c922575a191cd15c3aa773eb24d5d0e2e6fc59fc249c883"), looks := false }, kinds := [], alts := [], laidByText := true, laidKinds := [.data, .data, .called, .data, .data], laidTests := true, laidLooks := .later }
def ArchiveOneUptoCardSaid : Prop := Claim7.holds Tryd.pinned (.plain (OpenSpec.upto archiveOneSpec)) archiveOneUptoCard
end Rows
end Go.Proofs.YtlpfdjfneipgiaaDoor
