/-
  DERIVED. GIVEN WITH THE SEED: THE CARDS: each row of YtbmoghpeapdlaaaDoorRows.lean that lists a variable, with what it lists TIED to the program's text (the seventh form; the later family's looks); each row that meets fmt, with fmt's text TOLD by the authors' own Lean function (tested against real Go, not proved from fmt's source: count such statements apart). THE CARD IS WHAT COUNTS. Prove the row's statement (the work); the ties are given (YtbmoghpeapdlaaaDoorTie.lean); close each card by the builder's one call (the guide's Derived/Test/ToyasCard.lean, 'card_holds'). Laid BY PROGRAM, IN A SANDBOX (cutbox-door.mjs). By AI agents, Wed Nov 11 2026. No macro, syntax, notation, axiom, sorry.
-/
import Derived.Test.YtbmoghpeapdlaaaDoorRows
import GoSem.ClaimSeven
namespace Go.Proofs.YtbmoghpeapdlaaaDoor
namespace Rows

/-- THE TIED CARD OF 'annalslaw3.RecordFields'. -/
def recordFieldsCard : Claim7 := { stood := { row := recordFieldsRow, standIns := [], harness := (true, "b670be771fd6be4b07136970410780d95d711802966effd32bd62df18519b401"), looks := false }, kinds := [], alts := [], laidByText := true, laidKinds := [.data, .data], laidTests := true, laidLooks := .later }
def RecordFieldsCardSaid : Prop := Claim7.holds Tryd.pinned (.plain (OpenSpec.ofChange recordFieldsSpec)) recordFieldsCard

/-- THE SECOND FORM's CARD OF 'annalslaw3.RecordFields'. -/
def recordFieldsUptoCard : Claim7 := { stood := { row := recordFieldsUptoRow, standIns := [], harness := (true, "b670be771fd6be4b07136970410780d95d711802966effd32bd62df18519b401"), looks := false }, kinds := [], alts := [], laidByText := true, laidKinds := [.data, .data], laidTests := true, laidLooks := .later }
def RecordFieldsUptoCardSaid : Prop := Claim7.holds Tryd.pinned (.plain (OpenSpec.upto recordFieldsSpec)) recordFieldsUptoCard
end Rows
end Go.Proofs.YtbmoghpeapdlaaaDoor
