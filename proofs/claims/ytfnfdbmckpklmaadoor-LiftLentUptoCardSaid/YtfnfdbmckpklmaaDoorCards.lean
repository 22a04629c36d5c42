/-
  DERIVED. GIVEN WITH THE SEED: THE CARDS: each row of YtfnfdbmckpklmaaDoorRows.lean that lists a variable, with what it lists TIED to the program's text (the seventh form; the later family's looks); each row that meets fmt, with fmt's text TOLD by the authors' own Lean function (tested against real Go, not proved from fmt's source: count such statements apart). THE CARD IS WHAT COUNTS. Prove the row's statement (the work); the ties are given (YtfnfdbmckpklmaaDoorTie.lean); close each card by the builder's one call (the guide's Derived/Test/ToyasCard.lean, 'card_holds'). Laid BY PROGRAM, IN A SANDBOX (cutbox-door.mjs). By AI agents, Wed Nov 11 2026. No macro, syntax, notation, axiom, sorry.
-/
import Derived.Test.YtfnfdbmckpklmaaDoorRows
import GoSem.ClaimSeven
namespace Go.Proofs.YtfnfdbmckpklmaaDoor
namespace Rows

/-- THE TIED CARD OF 'annalslaw3.RecordAgain'. -/
def recordAgainCard : Claim7 := { stood := { row := recordAgainRow, standIns := [], harness := (true, "af148bada3de51fa76630b7ce48d706436d38fdbcb16c4ba7808f32060b8e73f"), looks := false }, kinds := [], alts := [], laidByText := true, laidKinds := [.data, .data, .data, .data], laidTests := true, laidLooks := .later }
def RecordAgainCardSaid : Prop := Claim7.holds Tryd.pinned (.plain (OpenSpec.ofChange recordAgainSpec)) recordAgainCard

/-- THE TIED CARD OF 'annalslaw4.LiftLent'. -/
def liftLentCard : Claim7 := { stood := { row := liftLentRow, standIns := [], harness := (true, "af148bada3de51fa76630b7ce48d706436d38fdbcb16c4ba7808f32060b8e73f"), looks := false }, kinds := [], alts := [], laidByText := true, laidKinds := [.data, .data, .data, .data, .data], laidTests := true, laidLooks := .later }
def LiftLentCardSaid : Prop := Claim7.holds Tryd.pinned (.plain (OpenSpec.ofChange liftLentSpec)) liftLentCard

/-- THE SECOND FORM's CARD OF 'annalslaw3.RecordAgain'. -/
def recordAgainUptoCard : Claim7 := { stood := { row := recordAgainUptoRow, standIns := [], harness := (true, "af148bada3de51fa76630b7ce48d706436d38fdbcb16c4ba7808f32060b8e73f"), looks := false }, kinds := [], alts := [], laidByText := true, laidKinds := [.data, .data, .data, .data], laidTests := true, laidLooks := .later }
def RecordAgainUptoCardSaid : Prop := Claim7.holds Tryd.pinned (.plain (OpenSpec.upto recordAgainSpec)) recordAgainUptoCard

/-- THE SECOND FORM's CARD OF 'annalslaw4.LiftLent'. -/
def liftLentUptoCard : Claim7 := { stood := { row := liftLentUptoRow, standIns := [], harness := (true, "af148bada3de51fa76630b7ce48d706436d38fdbcb16c4ba7808f32060b8e73f"), looks := false }, kinds := [], alts := [], laidByText := true, laidKinds := [.data, .data, .data, .data, .data], laidTests := true, laidLooks := .later }
def LiftLentUptoCardSaid : Prop := Claim7.holds Tryd.pinned (.plain (OpenSpec.upto liftLentSpec)) liftLentUptoCard
end Rows
end Go.Proofs.YtfnfdbmckpklmaaDoor
