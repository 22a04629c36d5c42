/-
  DERIVED. GIVEN WITH THE SEED: THE CARDS: each row of YtdgdmlmdlojahaaDoorRows.lean that lists a variable, with what it lists TIED to the program's text (the seventh form; the later family's looks); each row that meets fmt, with fmt's text TOLD by the authors' own Lean function (tested against real Go, not proved from fmt's source: count such statements apart). THE CARD IS WHAT COUNTS. Prove the row's statement (the work); the ties are given (YtdgdmlmdlojahaaDoorTie.lean); close each card by the builder's one call (the guide's Derived/Test/ToyasCard.lean, 'card_holds'). Laid BY PROGRAM, IN A SANDBOX (cutbox-door.mjs). By AI agents, Wed Nov 11 2026. No macro, syntax, notation, axiom, sorry.
-/
import Derived.Test.YtdgdmlmdlojahaaDoorRows
import GoSem.ClaimSeven
namespace Go.Proofs.YtdgdmlmdlojahaaDoor
namespace Rows

/-- THE TIED CARD OF 'annalslaw4.LiftUps'. -/
def liftUpsCard : Claim7 := { stood := { row := liftUpsRow, standIns := [], harness := (true, "1865f7e93914d0160f58509dee99db7ca0dffa344d3c5c61324834e6f64a0286"), looks := false }, kinds := [], alts := [], laidByText := true, laidKinds := [.data, .data, .data, .data, .data], laidTests := true, laidLooks := .later }
def LiftUpsCardSaid : Prop := Claim7.holds Tryd.pinned (.plain (OpenSpec.ofChange liftUpsSpec)) liftUpsCard

/-- THE TIED CARD OF 'annalslaw4.LiftDowns'. -/
def liftDownsCard : Claim7 := { stood := { row := liftDownsRow, standIns := [], harness := (true, "1865f7e93914d0160f58509dee99db7ca0dffa344d3c5c61324834e6f64a0286"), looks := false }, kinds := [], alts := [], laidByText := true, laidKinds := [.data, .data, .data, .data, .data], laidTests := true, laidLooks := .later }
def LiftDownsCardSaid : Prop := Claim7.holds Tryd.pinned (.plain (OpenSpec.ofChange liftDownsSpec)) liftDownsCard

/-- THE TIED CARD OF 'annalslaw4.LiftLists'. -/
def liftListsCard : Claim7 := { stood := { row := liftListsRow, standIns := [], harness := (true, "1865f7e93914d0160f58509dee99db7ca0dffa344d3c5c61324834e6f64a0286"), looks := false }, kinds := [], alts := [], laidByText := true, laidKinds := [.data, .data, .data, .data, .data], laidTests := true, laidLooks := .later }
def LiftListsCardSaid : Prop := Claim7.holds Tryd.pinned (.plain (OpenSpec.ofChange liftListsSpec)) liftListsCard

/-- THE TIED CARD OF 'annalslaw4.LiftPlays'. -/
def liftPlaysCard : Claim7 := { stood := { row := liftPlaysRow, standIns := [], harness := (true, "1865f7e93914d0160f58509dee99db7ca0dffa344d3c5c61324834e6f64a0286"), looks := false }, kinds := [], alts := [], laidByText := true, laidKinds := [.data, .data, .data, .data, .data], laidTests := true, laidLooks := .later }
def LiftPlaysCardSaid : Prop := Claim7.holds Tryd.pinned (.plain (OpenSpec.ofChange liftPlaysSpec)) liftPlaysCard

/-- THE SECOND FORM's CARD OF 'annalslaw4.LiftUps'. -/
def liftUpsUptoCard : Claim7 := { stood := { row := liftUpsUptoRow, standIns := [], harness := (true, "1865f7e93914d0160f58509dee99db7ca0dffa344d3c5c61324834e6f64a0286"), looks := false }, kinds := [], alts := [], laidByText := true, laidKinds := [.data, .data, .data, .data, .data], laidTests := true, laidLooks := .later }
def LiftUpsUptoCardSaid : Prop := Claim7.holds Tryd.pinned (.plain (OpenSpec.upto liftUpsSpec)) liftUpsUptoCard

/-- THE SECOND FORM's CARD OF 'annalslaw4.LiftDowns'. -/
def liftDownsUptoCard : Claim7 := { stood := { row := liftDownsUptoRow, standIns := [], harness := (true, "1865f7e93914d0160f58509dee99db7ca0dffa344d3c5c61324834e6f64a0286"), looks := false }, kinds := [], alts := [], laidByText := true, laidKinds := [.data, .data, .data, .data, .data], laidTests := true, laidLooks := .later }
def LiftDownsUptoCardSaid : Prop := Claim7.holds Tryd.pinned (.plain (OpenSpec.upto liftDownsSpec)) liftDownsUptoCard

/-- THE SECOND FORM's CARD OF 'annalslaw4.LiftLists'. -/
def liftListsUptoCard : Claim7 := { stood := { row := liftListsUptoRow, standIns := [], harness := (true, "1865f7e93914d0160f58509dee99db7ca0dffa344d3c5c61324834e6f64a0286"), looks := false }, kinds := [], alts := [], laidByText := true, laidKinds := [.data, .data, .data, .data, .data], laidTests := true, laidLooks := .later }
def LiftListsUptoCardSaid : Prop := Claim7.holds Tryd.pinned (.plain (OpenSpec.upto liftListsSpec)) liftListsUptoCard

/-- THE SECOND FORM's CARD OF 'annalslaw4.LiftPlays'. -/
def liftPlaysUptoCard : Claim7 := { stood := { row := liftPlaysUptoRow, standIns := [], harness := (true, "1865f7e93914d0160f58509dee99db7ca0dffa344d3c5c61324834e6f64a0286"), looks := false }, kinds := [], alts := [], laidByText := true, laidKinds := [.data, .data, .data, .data, .data], laidTests := true, laidLooks := .later }
def LiftPlaysUptoCardSaid : Prop := Claim7.holds Tryd.pinned (.plain (OpenSpec.upto liftPlaysSpec)) liftPlaysUptoCard
end Rows
end Go.Proofs.YtdgdmlmdlojahaaDoor
