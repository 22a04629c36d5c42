/-
  DERIVED. GIVEN WITH THE SEED: THE CARDS: each row of YtebklbijpdphaaaDoorRows.lean that lists a variable, with what it lists TIED to the program's text (the seventh form; the later family's looks); each row that meets fmt, with fmt's text TOLD by the authors' own Lean function (tested against real Go, not proved from fmt's source: count such statements apart). THE CARD IS WHAT COUNTS. Prove the row's statement (the work); the ties are given (YtebklbijpdphaaaDoorTie.lean); close each card by the builder's one call (the guide's Derived/Test/ToyasCard.lean, 'card_holds'). Laid BY PROGRAM, IN A SANDBOX (cutbox-door.mjs). By AI agents, Wed Nov 11 2026. No macro, syntax, notation, axiom, sorry.
-/
import Derived.Test.YtebklbijpdphaaaDoorRows
import GoSem.ClaimSeven
namespace Go.Proofs.YtebklbijpdphaaaDoor
namespace Rows

/-- THE TIED CARD OF 'annalslaw3.RecordOwn'. -/
def recordOwnCard : Claim7 := { stood := { row := recordOwnRow, standIns := [], harness := (true, "dc07615c16975b7b32e821997b90a33f90303edc2d2cbe9a34cd79027c148255"), looks := false }, kinds := [], alts := [], laidByText := true, laidKinds := [.data, .data], laidTests := true, laidLooks := .later }
def RecordOwnCardSaid : Prop := Claim7.holds Tryd.pinned (.plain (OpenSpec.ofChange recordOwnSpec)) recordOwnCard

/-- THE TIED CARD OF 'annalslaw3.RecordAgain'. -/
def recordAgainCard : Claim7 := { stood := { row := recordAgainRow, standIns := [], harness := (true, "dc07615c16975b7b32e821997b90a33f90303edc2d2cbe9a34cd79027c148255"), looks := false }, kinds := [], alts := [], laidByText := true, laidKinds := [.data, .data, .data, .data], laidTests := true, laidLooks := .later }
def RecordAgainCardSaid : Prop := Claim7.holds Tryd.pinned (.plain (OpenSpec.ofChange recordAgainSpec)) recordAgainCard

/-- THE TIED CARD OF 'annalslaw4.LiftLent'. -/
def liftLentCard : Claim7 := { stood := { row := liftLentRow, standIns := [], harness := (true, "dc07615c16975b7b32e821997b90a33f90303edc2d2cbe9a34cd79027c148255"), looks := false }, kinds := [], alts := [], laidByText := true, laidKinds := [.data, .data, .data, .data, .data], laidTests := true, laidLooks := .later }
def LiftLentCardSaid : Prop := Claim7.holds Tryd.pinned (.plain (OpenSpec.ofChange liftLentSpec)) liftLentCard

/-- THE SECOND FORM's CARD OF 'annalslaw3.RecordOwn'. -/
def recordOwnUptoCard : Claim7 := { stood := { row := recordOwnUptoRow, standIns := [], harness := (true, "dc07615c16975b7b32e821997b90a33f90303edc2d2cbe9a34cd79027c148255"), looks := false }, kinds := [], alts := [], laidByText := true, laidKinds := [.data, .data], laidTests := true, laidLooks := .later }
def RecordOwnUptoCardSaid : Prop := Claim7.holds Tryd.pinned (.plain (OpenSpec.upto recordOwnSpec)) recordOwnUptoCard

/-- THE SECOND FORM's CARD OF 'annalslaw3.RecordAgain'. -/
def recordAgainUptoCard : Claim7 := { stood := { row := recordAgainUptoRow, standIns := [], harness := (true, "dc07615c16975b7b32e821997b90a33f90303edc2d2cbe9a34cd79027c148255"), looks := false }, kinds := [], alts := [], laidByText := true, laidKinds := [.data, .data, .data, .data], laidTests := true, laidLooks := .later }
def RecordAgainUptoCardSaid : Prop := Claim7.holds Tryd.pinned (.plain (OpenSpec.upto recordAgainSpec)) recordAgainUptoCard

/-- THE SECOND FORM's CARD OF 'annalslaw4.LiftLent'. -/
def liftLentUptoCard : Claim7 := { stood := { row := liftLentUptoRow, standIns := [], harness := (true, "dc07615c16975b7b32e821997b90a33f90303edc2d2cbe9a34cd79027c148255"), looks := false }, kinds := [], alts := [], laidByText := true, laidKinds := [.data, .data, .data, .data, .data], laidTests := true, laidLooks := .later }
def LiftLentUptoCardSaid : Prop := Claim7.holds Tryd.pinned (.plain (OpenSpec.upto liftLentSpec)) liftLentUptoCard
end Rows
end Go.Proofs.YtebklbijpdphaaaDoor
