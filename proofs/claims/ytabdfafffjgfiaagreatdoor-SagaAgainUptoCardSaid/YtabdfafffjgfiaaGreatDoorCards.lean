/-
  DERIVED. GIVEN WITH THE SEED: THE CARDS: each row of YtabdfafffjgfiaaGreatDoorRows.lean that lists a variable, with what it lists TIED to the program's text (the seventh form; the later family's looks); each row that meets fmt, with fmt's text TOLD by the authors' own Lean function (tested against real Go, not proved from fmt's source: count such statements apart). THE CARD IS WHAT COUNTS. Prove the row's statement (the work); the ties are given (YtabdfafffjgfiaaGreatDoorTie.lean); close each card by the builder's one call (the guide's Derived/Test/ToyasCard.lean, 'card_holds'). Laid BY PROGRAM, IN A SANDBOX (cutbox-door.mjs). By AI agents, Wed Nov 11 2026. No macro, syntax, notation, axiom, sorry.
-/
import Derived.Test.YtabdfafffjgfiaaGreatDoorRows
import GoSem.ClaimSeven
namespace Go.Proofs.YtabdfafffjgfiaaGreatDoor
namespace Rows

/-- THE TIED CARD OF 'annalslaw10.SagaLent'. -/
def sagaLentCard : Claim7 := { stood := { row := sagaLentRow, standIns := [], harness := (true, "2ef0c1445f9e654b70da6c45e4556c6489fc14bdee22585163f355a17b883bed"), looks := false }, kinds := [], alts := [], laidByText := true, laidKinds := [.data, .data, .data, .data, .data, .data], laidTests := true, laidLooks := .later }
def SagaLentCardSaid : Prop := Claim7.holds Tryz.pinned (.plain (OpenSpec.ofChange sagaLentSpec)) sagaLentCard

/-- THE TIED CARD OF 'annalslaw10.SagaEmpty'. -/
def sagaEmptyCard : Claim7 := { stood := { row := sagaEmptyRow, standIns := [], harness := (true, "2ef0c1445f9e654b70da6c45e4556c6489fc14bdee22585163f355a17b883bed"), looks := false }, kinds := [], alts := [], laidByText := true, laidKinds := [.data, .data, .data, .data, .data, .data], laidTests := true, laidLooks := .later }
def SagaEmptyCardSaid : Prop := Claim7.holds Tryz.pinned (.plain (OpenSpec.ofChange sagaEmptySpec)) sagaEmptyCard

/-- THE TIED CARD OF 'annalslaw10.SagaOwn'. -/
def sagaOwnCard : Claim7 := { stood := { row := sagaOwnRow, standIns := [], harness := (true, "2ef0c1445f9e654b70da6c45e4556c6489fc14bdee22585163f355a17b883bed"), looks := false }, kinds := [], alts := [], laidByText := true, laidKinds := [.data, .data, .data, .data, .data, .data], laidTests := true, laidLooks := .later }
def SagaOwnCardSaid : Prop := Claim7.holds Tryz.pinned (.plain (OpenSpec.ofChange sagaOwnSpec)) sagaOwnCard

/-- THE TIED CARD OF 'annalslaw10.SagaAgain'. -/
def sagaAgainCard : Claim7 := { stood := { row := sagaAgainRow, standIns := [], harness := (true, "2ef0c1445f9e654b70da6c45e4556c6489fc14bdee22585163f355a17b883bed"), looks := false }, kinds := [], alts := [], laidByText := true, laidKinds := [.data, .data, .data, .data, .data, .data], laidTests := true, laidLooks := .later }
def SagaAgainCardSaid : Prop := Claim7.holds Tryz.pinned (.plain (OpenSpec.ofChange sagaAgainSpec)) sagaAgainCard

/-- THE SECOND FORM's CARD OF 'annalslaw10.SagaLent'. -/
def sagaLentUptoCard : Claim7 := { stood := { row := sagaLentUptoRow, standIns := [], harness := (true, "2ef0c1445f9e654b70da6c45e4556c6489fc14bdee22585163f355a17b883bed"), looks := false }, kinds := [], alts := [], laidByText := true, laidKinds := [.data, .data, .data, .data, .data, .data], laidTests := true, laidLooks := .later }
def SagaLentUptoCardSaid : Prop := Claim7.holds Tryz.pinned (.plain (OpenSpec.upto sagaLentSpec)) sagaLentUptoCard

/-- THE SECOND FORM's CARD OF 'annalslaw10.SagaEmpty'. -/
def sagaEmptyUptoCard : Claim7 := { stood := { row := sagaEmptyUptoRow, standIns := [], harness := (true, "2ef0c1445f9e654b70da6c45e4556c6489fc14bdee22585163f355a17b883bed"), looks := false }, kinds := [], alts := [], laidByText := true, laidKinds := [.data, .data, .data, .data, .data, .data], laidTests := true, laidLooks := .later }
def SagaEmptyUptoCardSaid : Prop := Claim7.holds Tryz.pinned (.plain (OpenSpec.upto sagaEmptySpec)) sagaEmptyUptoCard

/-- THE SECOND FORM's CARD OF 'annalslaw10.SagaOwn'. -/
def sagaOwnUptoCard : Claim7 := { stood := { row := sagaOwnUptoRow, standIns := [], harness := (true, "2ef0c1445f9e654b70da6c45e4556c6489fc14bdee22585163f355a17b883bed"), looks := false }, kinds := [], alts := [], laidByText := true, laidKinds := [.data, .data, .data, .data, .data, .data], laidTests := true, laidLooks := .later }
def SagaOwnUptoCardSaid : Prop := Claim7.holds Tryz.pinned (.plain (OpenSpec.upto sagaOwnSpec)) sagaOwnUptoCard

/-- THE SECOND FORM's CARD OF 'annalslaw10.SagaAgain'. -/
def sagaAgainUptoCard : Claim7 := { stood := { row := sagaAgainUptoRow, standIns := [], harness := (true, "2ef0c1445f9e654b70da6c45e4556c6489fc14bdee22585163f355a17b883bed"), looks := false }, kinds := [], alts := [], laidByText := true, laidKinds := [.data, .data, .data, .data, .data, .data], laidTests := true, laidLooks := .later }
def SagaAgainUptoCardSaid : Prop := Claim7.holds Tryz.pinned (.plain (OpenSpec.upto sagaAgainSpec)) sagaAgainUptoCard
end Rows
end Go.Proofs.YtabdfafffjgfiaaGreatDoor
