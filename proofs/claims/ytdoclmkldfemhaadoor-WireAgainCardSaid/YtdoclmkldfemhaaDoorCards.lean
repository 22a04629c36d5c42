/-
  DERIVED. GIVEN WITH THE SEED: THE CARDS: each row of YtdoclmkldfemhaaDoorRows.lean that lists a variable, with what it lists TIED to the program's text (the seventh form; the later family's looks); each row that meets fmt, with fmt's text TOLD by the authors' own Lean function (tested against real Go, not proved from fmt's source: count such statements apart). THE CARD IS WHAT COUNTS. Prove the row's statement (the work); the ties are given (YtdoclmkldfemhaaDoorTie.lean); close each card by the builder's one call (the guide's Derived/Test/ToyasCard.lean, 'card_holds'). Laid BY PROGRAM, IN A SANDBOX (cutbox-door.mjs). By AI agents, Wed Nov 11 2026. No macro, syntax, notation, axiom, sorry.
-/
import Derived.Test.YtdoclmkldfemhaaDoorRows
import GoSem.ClaimSeven
namespace Go.Proofs.YtdoclmkldfemhaaDoor
namespace Rows

/-- THE TIED CARD OF 'annalslaw1.WireAgain'. -/
def wireAgainCard : Claim7 := { stood := { row := wireAgainRow, standIns := [], harness := (true, "c9790880083720464b4d2ce3e318a14a49b36941a28bb6609b33be3d7a4d32cf"), looks := false }, kinds := [], alts := [], laidByText := true, laidKinds := [.called], laidTests := true, laidLooks := .later }
def WireAgainCardSaid : Prop := Claim7.holds Tryd.pinned (.plain (OpenSpec.ofChange wireAgainSpec)) wireAgainCard

/-- THE TIED CARD OF 'annalslaw1.WireNumbers'. -/
def wireNumbersCard : Claim7 := { stood := { row := wireNumbersRow, standIns := [], harness := (true, "c9790880083720464b4d2ce3e318a14a49b36941a28bb6609b33be3d7a4d32cf"), looks := false }, kinds := [], alts := [], laidByText := true, laidKinds := [.called], laidTests := true, laidLooks := .later }
def WireNumbersCardSaid : Prop := Claim7.holds Tryd.pinned (.plain (OpenSpec.ofChange wireNumbersSpec)) wireNumbersCard

/-- THE TIED CARD OF 'annalslaw1.WireStrings'. -/
def wireStringsCard : Claim7 := { stood := { row := wireStringsRow, standIns := [], harness := (true, "c9790880083720464b4d2ce3e318a14a49b36941a28bb6609b33be3d7a4d32cf"), looks := false }, kinds := [], alts := [], laidByText := true, laidKinds := [.called], laidTests := true, laidLooks := .later }
def WireStringsCardSaid : Prop := Claim7.holds Tryd.pinned (.plain (OpenSpec.ofChange wireStringsSpec)) wireStringsCard

/-- THE TIED CARD OF 'annalslaw1.WireFrames'. -/
def wireFramesCard : Claim7 := { stood := { row := wireFramesRow, standIns := [], harness := (true, "c9790880083720464b4d2ce3e318a14a49b36941a28bb6609b33be3d7a4d32cf"), looks := false }, kinds := [], alts := [], laidByText := true, laidKinds := [.called], laidTests := true, laidLooks := .later }
def WireFramesCardSaid : Prop := Claim7.holds Tryd.pinned (.plain (OpenSpec.ofChange wireFramesSpec)) wireFramesCard

/-- THE TIED CARD OF 'annalslaw1.WireRuns'. -/
def wireRunsCard : Claim7 := { stood := { row := wireRunsRow, standIns := [], harness := (true, "c9790880083720464b4d2ce3e318a14a49b36941a28bb6609b33be3d7a4d32cf"), looks := false }, kinds := [], alts := [], laidByText := true, laidKinds := [.called], laidTests := true, laidLooks := .later }
def WireRunsCardSaid : Prop := Claim7.holds Tryd.pinned (.plain (OpenSpec.ofChange wireRunsSpec)) wireRunsCard

/-- THE TIED CARD OF 'annalslaw1.WirePlays'. -/
def wirePlaysCard : Claim7 := { stood := { row := wirePlaysRow, standIns := [], harness := (true, "c9790880083720464b4d2ce3e318a14a49b36941a28bb6609b33be3d7a4d32cf"), looks := false }, kinds := [], alts := [], laidByText := true, laidKinds := [.called], laidTests := true, laidLooks := .later }
def WirePlaysCardSaid : Prop := Claim7.holds Tryd.pinned (.plain (OpenSpec.ofChange wirePlaysSpec)) wirePlaysCard

/-- THE SECOND FORM's CARD OF 'annalslaw1.WireAgain'. -/
def wireAgainUptoCard : Claim7 := { stood := { row := wireAgainUptoRow, standIns := [], harness := (true, "c9790880083720464b4d2ce3e318a14a49b36941a28bb6609b33be3d7a4d32cf"), looks := false }, kinds := [], alts := [], laidByText := true, laidKinds := [.called], laidTests := true, laidLooks := .later }
def WireAgainUptoCardSaid : Prop := Claim7.holds Tryd.pinned (.plain (OpenSpec.upto wireAgainSpec)) wireAgainUptoCard

/-- THE SECOND FORM's CARD OF 'annalslaw1.WireNumbers'. -/
def wireNumbersUptoCard : Claim7 := { stood := { row := wireNumbersUptoRow, standIns := [], harness := (true, "c9790880083720464b4d2ce3e318a14a49b36941a28bb6609b33be3d7a4d32cf"), looks := false }, kinds := [], alts := [], laidByText := true, laidKinds := [.called], laidTests := true, laidLooks := .later }
def WireNumbersUptoCardSaid : Prop := Claim7.holds Tryd.pinned (.plain (OpenSpec.upto wireNumbersSpec)) wireNumbersUptoCard

/-- THE SECOND FORM's CARD OF 'annalslaw1.WireStrings'. -/
def wireStringsUptoCard : Claim7 := { stood := { row := wireStringsUptoRow, standIns := [], harness := (true, "c9790880083720464b4d2ce3e318a14a49b36941a28bb6609b33be3d7a4d32cf"), looks := false }, kinds := [], alts := [], laidByText := true, laidKinds := [.called], laidTests := true, laidLooks := .later }
def WireStringsUptoCardSaid : Prop := Claim7.holds Tryd.pinned (.plain (OpenSpec.upto wireStringsSpec)) wireStringsUptoCard

/-- THE SECOND FORM's CARD OF 'annalslaw1.WireFrames'. -/
def wireFramesUptoCard : Claim7 := { stood := { row := wireFramesUptoRow, standIns := [], harness := (true, "c9790880083720464b4d2ce3e318a14a49b36941a28bb6609b33be3d7a4d32cf"), looks := false }, kinds := [], alts := [], laidByText := true, laidKinds := [.called], laidTests := true, laidLooks := .later }
def WireFramesUptoCardSaid : Prop := Claim7.holds Tryd.pinned (.plain (OpenSpec.upto wireFramesSpec)) wireFramesUptoCard

/-- THE SECOND FORM's CARD OF 'annalslaw1.WireRuns'. -/
def wireRunsUptoCard : Claim7 := { stood := { row := wireRunsUptoRow, standIns := [], harness := (true, "c9790880083720464b4d2ce3e318a14a49b36941a28bb6609b33be3d7a4d32cf"), looks := false }, kinds := [], alts := [], laidByText := true, laidKinds := [.called], laidTests := true, laidLooks := .later }
def WireRunsUptoCardSaid : Prop := Claim7.holds Tryd.pinned (.plain (OpenSpec.upto wireRunsSpec)) wireRunsUptoCard

/-- THE SECOND FORM's CARD OF 'annalslaw1.WirePlays'. -/
def wirePlaysUptoCard : Claim7 := { stood := { row := wirePlaysUptoRow, standIns := [], harness := (true, "c9790880083720464b4d2ce3e318a14a49b36941a28bb6609b33be3d7a4d32cf"), looks := false }, kinds := [], alts := [], laidByText := true, laidKinds := [.called], laidTests := true, laidLooks := .later }
def WirePlaysUptoCardSaid : Prop := Claim7.holds Tryd.pinned (.plain (OpenSpec.upto wirePlaysSpec)) wirePlaysUptoCard
end Rows
end Go.Proofs.YtdoclmkldfemhaaDoor
