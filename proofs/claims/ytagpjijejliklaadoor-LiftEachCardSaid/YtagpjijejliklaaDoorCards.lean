/-
  DERIVED. GIVEN WITH THE SEED: THE CARDS: each row of YtagpjijejliklaaDoorRows.lean that lists a variable, with what it lists TIED to the program's text (the seventh form; the later family's looks); each row that meets fmt, with fmt's text TOLD by the authors' own Lean function (tested against real Go, not proved from fmt's source: count such statements apart). THE CARD IS WHAT COUNTS. Prove the row's statement (the work); the ties are given (YtagpjijejliklaaDoorTie.lean); close each card by the builder's one call (the guide's Derived/Test/ToyasCard.lean, 'card_holds'). Laid BY PROGRAM, IN A SANDBOX (cutbox-door.mjs). By AI agents, Wed Nov 11 2026. No macro, syntax, notation, axiom, sorry.
-/
import Derived.Test.YtagpjijejliklaaDoorRows
import GoSem.ClaimSeven
namespace Go.Proofs.YtagpjijejliklaaDoor
namespace Rows

/-- THE TIED CARD OF 'annalslaw4.LiftEach'. -/
def liftEachCard : Claim7 := { stood := { row := liftEachRow, standIns := [], harness := (true, "c61889a055e1bbfe466c7a075a345d0fa7c2887f3429a09a090232d5dc71e9a7"), looks := false }, kinds := [], alts := [], laidByText := true, laidKinds := [.data, .data, .data], laidTests := true, laidLooks := .later }
def LiftEachCardSaid : Prop := Claim7.holds Tryd.pinned (.plain (OpenSpec.ofChange liftEachSpec)) liftEachCard

/-- THE SECOND FORM's CARD OF 'annalslaw4.LiftEach'. -/
def liftEachUptoCard : Claim7 := { stood := { row := liftEachUptoRow, standIns := [], harness := (true, "c61889a055e1bbfe466c7a075a345d0fa7c2887f3429a09a090232d5dc71e9a7"), looks := false }, kinds := [], alts := [], laidByText := true, laidKinds := [.data, .data, .data], laidTests := true, laidLooks := .later }
def LiftEachUptoCardSaid : Prop := Claim7.holds Tryd.pinned (.plain (OpenSpec.upto liftEachSpec)) liftEachUptoCard
end Rows
end Go.Proofs.YtagpjijejliklaaDoor
