/-
  DERIVED. GIVEN WITH THE SEED: THE CARDS: each row of YtfkkjhcfmncieaaDoorRows.lean that lists a variable, with what it lists TIED to the program's text (the seventh form; the later family's looks); each row that meets fmt, with fmt's text TOLD by the authors' own Lean function (tested against real Go, not proved from fmt's source: count such statements apart). THE CARD IS WHAT COUNTS. Prove the row's statement (the work); the ties are given (YtfkkjhcfmncieaaDoorTie.lean); close each card by the builder's one call (the guide's Derived/Test/ToyasCard.lean, 'card_holds'). Laid BY PROGRAM, IN A SANDBOX (cutbox-door.mjs). By AI agents, Wed Nov 11 2026. No macro, syntax, notation, axiom, sorry.
-/
import Derived.Test.YtfkkjhcfmncieaaDoorRows
import GoSem.ClaimSeven
namespace Go.Proofs.YtfkkjhcfmncieaaDoor
namespace Rows

/-- THE TIED CARD OF 'annalslaw4.LiftSteps'. -/
def liftStepsCard : Claim7 := { stood := { row := liftStepsRow, standIns := [], harness := (true, "c8ea24a2abaf39cda3518779ff0c4048cfe7f218231417a2fee915c7d016da06"), looks := false }, kinds := [], alts := [], laidByText := true, laidKinds := [.data], laidTests := true, laidLooks := .later }
def LiftStepsCardSaid : Prop := Claim7.holds Tryd.pinned (.plain (OpenSpec.ofChange liftStepsSpec)) liftStepsCard

/-- THE SECOND FORM's CARD OF 'annalslaw4.LiftSteps'. -/
def liftStepsUptoCard : Claim7 := { stood := { row := liftStepsUptoRow, standIns := [], harness := (true, "c8ea24a2abaf39cda3518779ff0c4048cfe7f218231417a2fee915c7d016da06"), looks := false }, kinds := [], alts := [], laidByText := true, laidKinds := [.data], laidTests := true, laidLooks := .later }
def LiftStepsUptoCardSaid : Prop := Claim7.holds Tryd.pinned (.plain (OpenSpec.upto liftStepsSpec)) liftStepsUptoCard
end Rows
end Go.Proofs.YtfkkjhcfmncieaaDoor
