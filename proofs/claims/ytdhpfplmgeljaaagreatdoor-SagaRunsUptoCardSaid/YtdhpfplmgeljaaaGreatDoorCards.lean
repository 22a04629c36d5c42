/-
  DERIVED. GIVEN WITH THE SEED: THE CARDS: each row of YtdhpfplmgeljaaaGreatDoorRows.lean that lists a variable, with what it lists TIED to the program's text (the seventh form; the later family's looks); each row that meets fmt, with fmt's text TOLD by the authors' own Lean function (tested against real Go, not proved from fmt's source: count such statements apart). THE CARD IS WHAT COUNTS. Prove the row's statement (the work); the ties are given (YtdhpfplmgeljaaaGreatDoorTie.lean); close each card by the builder's one call (the guide's Derived/Test/ToyasCard.lean, 'card_holds'). Laid BY PROGRAM, IN A SANDBOX (cutbox-door.mjs). By AI agents, Wed Nov 11 2026. No macro, syntax, notation, axiom, sorry.
-/
import Derived.Test.YtdhpfplmgeljaaaGreatDoorRows
import GoSem.ClaimSeven
namespace Go.Proofs.YtdhpfplmgeljaaaGreatDoor
namespace Rows

/-- THE TIED CARD OF 'annalslaw10.SagaRuns'. -/
def sagaRunsCard : Claim7 := { stood := { row := sagaRunsRow, standIns := [], harness := (true, "f02e76eaf19152ac9b62b85754b2ddce52fbe431ae3b22451f801cfe4fadafc4"), looks := false }, kinds := [], alts := [], laidByText := true, laidKinds := [.data, .data, .data, .data, .data, .data], laidTests := true, laidLooks := .later }
def SagaRunsCardSaid : Prop := Claim7.holds Tryz.pinned (.plain (OpenSpec.ofChange sagaRunsSpec)) sagaRunsCard

/-- THE TIED CARD OF 'annalslaw10.SagaPlays'. -/
def sagaPlaysCard : Claim7 := { stood := { row := sagaPlaysRow, standIns := [], harness := (true, "f02e76eaf19152ac9b62b85754b2ddce52fbe431ae3b22451f801cfe4fadafc4"), looks := false }, kinds := [], alts := [], laidByText := true, laidKinds := [.data, .data, .data, .data, .data, .data], laidTests := true, laidLooks := .later }
def SagaPlaysCardSaid : Prop := Claim7.holds Tryz.pinned (.plain (OpenSpec.ofChange sagaPlaysSpec)) sagaPlaysCard

/-- THE SECOND FORM's CARD OF 'annalslaw10.SagaRuns'. -/
def sagaRunsUptoCard : Claim7 := { stood := { row := sagaRunsUptoRow, standIns := [], harness := (true, "f02e76eaf19152ac9b62b85754b2ddce52fbe431ae3b22451f801cfe4fadafc4"), looks := false }, kinds := [], alts := [], laidByText := true, laidKinds := [.data, .data, .data, .data, .data, .data], laidTests := true, laidLooks := .later }
def SagaRunsUptoCardSaid : Prop := Claim7.holds Tryz.pinned (.plain (OpenSpec.upto sagaRunsSpec)) sagaRunsUptoCard

/-- THE SECOND FORM's CARD OF 'annalslaw10.SagaPlays'. -/
def sagaPlaysUptoCard : Claim7 := { stood := { row := sagaPlaysUptoRow, standIns := [], harness := (true, "f02e76eaf19152ac9b62b85754b2ddce52fbe431ae3b22451f801cfe4fadafc4"), looks := false }, kinds := [], alts := [], laidByText := true, laidKinds := [.data, .data, .data, .data, .data, .data], laidTests := true, laidLooks := .later }
def SagaPlaysUptoCardSaid : Prop := Claim7.holds Tryz.pinned (.plain (OpenSpec.upto sagaPlaysSpec)) sagaPlaysUptoCard
end Rows
end Go.Proofs.YtdhpfplmgeljaaaGreatDoor
