/-
  DERIVED. GIVEN WITH THE SEED: THE CARDS: each row of YtodcakplmoajiaaDoorRows.lean that lists a variable, with what it lists TIED to the program's text (the seventh form; the later family's looks); each row that meets fmt, with fmt's text TOLD by the authors' own Lean function (tested against real Go, not proved from fmt's source: count such statements apart). THE CARD IS WHAT COUNTS. Prove the row's statement (the work); the ties are given (YtodcakplmoajiaaDoorTie.lean); close each card by the builder's one call (the guide's Derived/Test/ToyasCard.lean, 'card_holds'). Laid BY PROGRAM, IN A SANDBOX (cutbox-door.mjs). By AI agents, Wed Nov 11 2026. No macro, syntax, notation, axiom, sorry.
-/
import Derived.Test.YtodcakplmoajiaaDoorRows
import GoSem.ClaimSeven
namespace Go.Proofs.YtodcakplmoajiaaDoor
namespace Rows

/-- THE TIED CARD OF 'annalslaw15.PlanGoesOn'. -/
def planGoesOnCard : Claim7 := { stood := { row := planGoesOnRow, standIns := [], harness := (true, "775cd164ac1b08be7145f7c3ebb92eeaa393bd52cae34c98198bdba70b5cb55e"), looks := false }, kinds := [], alts := [], laidByText := true, laidKinds := [.data, .data, .data, .data], laidTests := true, laidLooks := .later }
def PlanGoesOnCardSaid : Prop := Claim7.holds Tryd.pinned (.plain (OpenSpec.ofChange planGoesOnSpec)) planGoesOnCard

/-- THE TIED CARD OF 'annalslaw15.PlanAllOrNothing'. -/
def planAllOrNothingCard : Claim7 := { stood := { row := planAllOrNothingRow, standIns := [], harness := (true, "775cd164ac1b08be7145f7c3ebb92eeaa393bd52cae34c98198bdba70b5cb55e"), looks := false }, kinds := [], alts := [], laidByText := true, laidKinds := [.data, .data, .data, .data], laidTests := true, laidLooks := .later }
def PlanAllOrNothingCardSaid : Prop := Claim7.holds Tryd.pinned (.plain (OpenSpec.ofChange planAllOrNothingSpec)) planAllOrNothingCard

/-- THE SECOND FORM's CARD OF 'annalslaw15.PlanGoesOn'. -/
def planGoesOnUptoCard : Claim7 := { stood := { row := planGoesOnUptoRow, standIns := [], harness := (true, "775cd164ac1b08be7145f7c3ebb92eeaa393bd52cae34c98198bdba70b5cb55e"), looks := false }, kinds := [], alts := [], laidByText := true, laidKinds := [.data, .data, .data, .data], laidTests := true, laidLooks := .later }
def PlanGoesOnUptoCardSaid : Prop := Claim7.holds Tryd.pinned (.plain (OpenSpec.upto planGoesOnSpec)) planGoesOnUptoCard

/-- THE SECOND FORM's CARD OF 'annalslaw15.PlanAllOrNothing'. -/
def planAllOrNothingUptoCard : Claim7 := { stood := { row := planAllOrNothingUptoRow, standIns := [], harness := (true, "775cd164ac1b08be7145f7c3ebb92eeaa393bd52cae34c98198bdba70b5cb55e"), looks := false }, kinds := [], alts := [], laidByText := true, laidKinds := [.data, .data, .data, .data], laidTests := true, laidLooks := .later }
def PlanAllOrNothingUptoCardSaid : Prop := Claim7.holds Tryd.pinned (.plain (OpenSpec.upto planAllOrNothingSpec)) planAllOrNothingUptoCard
end Rows
end Go.Proofs.YtodcakplmoajiaaDoor
