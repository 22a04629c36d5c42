/-
  DERIVED. GIVEN WITH THE SEED: THE CARDS: each row of YtdgbmogkjnpoeaaDoorRows.lean that lists a variable, with what it lists TIED to the program's text (the seventh form; the later family's looks); each row that meets fmt, with fmt's text TOLD by the authors' own Lean function (tested against real Go, not proved from fmt's source: count such statements apart). THE CARD IS WHAT COUNTS. Prove the row's statement (the work); the ties are given (YtdgbmogkjnpoeaaDoorTie.lean); close each card by the builder's one call (the guide's Derived/Test/ToyasCard.lean, 'card_holds'). Laid BY PROGRAM, IN A SANDBOX (cutbox-door.mjs). By AI agents, Wed Nov 11 2026. No macro, syntax, notation, axiom, sorry.
-/
import Derived.Test.YtdgbmogkjnpoeaaDoorRows
import GoSem.ClaimSeven
namespace Go.Proofs.YtdgbmogkjnpoeaaDoor
namespace Rows

/-- THE TIED CARD OF 'annalslaw1.WireOwn'. -/
def wireOwnCard : Claim7 := { stood := { row := wireOwnRow, standIns := [], harness := (true, "91e73b18caf5b8d1d50a3630a1d381e3f9a6f40c619345cf4581a6ef5c85a8ab"), looks := false }, kinds := [], alts := [], laidByText := true, laidKinds := [.called], laidTests := true, laidLooks := .later }
def WireOwnCardSaid : Prop := Claim7.holds Tryd.pinned (.plain (OpenSpec.ofChange wireOwnSpec)) wireOwnCard

/-- THE TIED CARD OF 'annalslaw1.WireLent'. -/
def wireLentCard : Claim7 := { stood := { row := wireLentRow, standIns := [], harness := (true, "91e73b18caf5b8d1d50a3630a1d381e3f9a6f40c619345cf4581a6ef5c85a8ab"), looks := false }, kinds := [], alts := [], laidByText := true, laidKinds := [.called], laidTests := true, laidLooks := .later }
def WireLentCardSaid : Prop := Claim7.holds Tryd.pinned (.plain (OpenSpec.ofChange wireLentSpec)) wireLentCard

/-- THE TIED CARD OF 'annalslaw0.NamesNumbers'. -/
def namesNumbersCard : Claim7 := { stood := { row := namesNumbersRow, standIns := [], harness := (true, "91e73b18caf5b8d1d50a3630a1d381e3f9a6f40c619345cf4581a6ef5c85a8ab"), looks := false }, kinds := [], alts := [], laidByText := true, laidKinds := [.data, .data, .data], laidTests := true, laidLooks := .later }
def NamesNumbersCardSaid : Prop := Claim7.holds Tryd.pinned (.plain (OpenSpec.ofChange namesNumbersSpec)) namesNumbersCard

/-- THE SECOND FORM's CARD OF 'annalslaw1.WireOwn'. -/
def wireOwnUptoCard : Claim7 := { stood := { row := wireOwnUptoRow, standIns := [], harness := (true, "91e73b18caf5b8d1d50a3630a1d381e3f9a6f40c619345cf4581a6ef5c85a8ab"), looks := false }, kinds := [], alts := [], laidByText := true, laidKinds := [.called], laidTests := true, laidLooks := .later }
def WireOwnUptoCardSaid : Prop := Claim7.holds Tryd.pinned (.plain (OpenSpec.upto wireOwnSpec)) wireOwnUptoCard

/-- THE SECOND FORM's CARD OF 'annalslaw1.WireLent'. -/
def wireLentUptoCard : Claim7 := { stood := { row := wireLentUptoRow, standIns := [], harness := (true, "91e73b18caf5b8d1d50a3630a1d381e3f9a6f40c619345cf4581a6ef5c85a8ab"), looks := false }, kinds := [], alts := [], laidByText := true, laidKinds := [.called], laidTests := true, laidLooks := .later }
def WireLentUptoCardSaid : Prop := Claim7.holds Tryd.pinned (.plain (OpenSpec.upto wireLentSpec)) wireLentUptoCard

/-- THE SECOND FORM's CARD OF 'annalslaw0.NamesNumbers'. -/
def namesNumbersUptoCard : Claim7 := { stood := { row := namesNumbersUptoRow, standIns := [], harness := (true, "91e73b18caf5b8d1d50a3630a1d381e3f9a6f40c619345cf4581a6ef5c85a8ab"), looks := false }, kinds := [], alts := [], laidByText := true, laidKinds := [.data, .data, .data], laidTests := true, laidLooks := .later }
def NamesNumbersUptoCardSaid : Prop := Claim7.holds Tryd.pinned (.plain (OpenSpec.upto namesNumbersSpec)) namesNumbersUptoCard
end Rows
end Go.Proofs.YtdgbmogkjnpoeaaDoor
