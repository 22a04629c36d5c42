/-
  DERIVED. GIVEN WITH THE SEED: THE CARDS: each row of YtfkpdmmgjgchjabDoorRows.lean that lists a variable, with what it lists TIED to the program's text (the seventh form; the later family's looks); each row that meets fmt, with fmt's text TOLD by the authors' own Lean function (tested against real Go, not proved from fmt's source: count such statements apart). THE CARD IS WHAT COUNTS. Prove the row's statement (the work); the ties are given (YtfkpdmmgjgchjabDoorTie.lean); close each card by the builder's one call (the guide's Derived/Test/ToyasCard.lean, 'card_holds'). Laid BY PROGRAM, IN A SANDBOX (cutbox-door.mjs). By AI agents, Wed Nov 11 2026. No macro, syntax, notation, axiom, sorry.
-/
import Derived.Test.YtfkpdmmgjgchjabDoorRows
import GoSem.ClaimSeven
namespace Go.Proofs.YtfkpdmmgjgchjabDoor
namespace Rows

/-- THE TIED CARD OF 'annalslaw4.LiftChain'. -/
def liftChainCard : Claim7 := { stood := { row := liftChainRow, standIns := [], harness := (true, "1f299255d1f878525519b92aa0703543415f5591af1702d42e4f61fd43782af3"), looks := false }, kinds := [], alts := [], laidByText := true, laidKinds := [.data, .data, .data, .data, .data], laidTests := true, laidLooks := .later }
def LiftChainCardSaid : Prop := Claim7.holds Tryd.pinned (.plain (OpenSpec.ofChange liftChainSpec)) liftChainCard

/-- THE SECOND FORM's CARD OF 'annalslaw4.LiftChain'. -/
def liftChainUptoCard : Claim7 := { stood := { row := liftChainUptoRow, standIns := [], harness := (true, "1f299255d1f878525519b92aa0703543415f5591af1702d42e4f61fd43782af3"), looks := false }, kinds := [], alts := [], laidByText := true, laidKinds := [.data, .data, .data, .data, .data], laidTests := true, laidLooks := .later }
def LiftChainUptoCardSaid : Prop := Claim7.holds Tryd.pinned (.plain (OpenSpec.upto liftChainSpec)) liftChainUptoCard
end Rows
end Go.Proofs.YtfkpdmmgjgchjabDoor
