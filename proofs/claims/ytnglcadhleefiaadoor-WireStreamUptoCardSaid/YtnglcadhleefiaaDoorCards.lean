/-
  DERIVED. GIVEN WITH THE SEED: THE CARDS: each row of YtnglcadhleefiaaDoorRows.lean that lists a variable, with what it lists TIED to the program's text (the seventh form; the later family's looks); each row that meets fmt, with fmt's text TOLD by the authors' own Lean function (tested against real Go, not proved from fmt's source: count such statements apart). THE CARD IS WHAT COUNTS. Prove the row's statement (the work); the ties are given (YtnglcadhleefiaaDoorTie.lean); close each card by the builder's one call (the guide's Derived/Test/ToyasCard.lean, 'card_holds'). Laid BY PROGRAM, IN A SANDBOX (cutbox-door.mjs). By AI agents, Wed Nov 11 2026. No macro, syntax, notation, axiom, sorry.
-/
import Derived.Test.YtnglcadhleefiaaDoorRows
import GoSem.ClaimSeven
namespace Go.Proofs.YtnglcadhleefiaaDoor
namespace Rows

/-- THE TIED CARD OF 'annalslaw1.WireLaid'. -/
def wireLaidCard : Claim7 := { stood := { row := wireLaidRow, standIns := [], harness := (true, "4022060e0f24ab42548be79135f532f8b4ab186b8abf2468a4acdd198b0894eb"), looks := false }, kinds := [], alts := [], laidByText := true, laidKinds := [.called], laidTests := true, laidLooks := .later }
def WireLaidCardSaid : Prop := Claim7.holds Tryd.pinned (.plain (OpenSpec.ofChange wireLaidSpec)) wireLaidCard

/-- THE TIED CARD OF 'annalslaw1.WireTorn'. -/
def wireTornCard : Claim7 := { stood := { row := wireTornRow, standIns := [], harness := (true, "4022060e0f24ab42548be79135f532f8b4ab186b8abf2468a4acdd198b0894eb"), looks := false }, kinds := [], alts := [], laidByText := true, laidKinds := [.called], laidTests := true, laidLooks := .later }
def WireTornCardSaid : Prop := Claim7.holds Tryd.pinned (.plain (OpenSpec.ofChange wireTornSpec)) wireTornCard

/-- THE TIED CARD OF 'annalslaw1.WireBurst'. -/
def wireBurstCard : Claim7 := { stood := { row := wireBurstRow, standIns := [], harness := (true, "4022060e0f24ab42548be79135f532f8b4ab186b8abf2468a4acdd198b0894eb"), looks := false }, kinds := [], alts := [], laidByText := true, laidKinds := [.called], laidTests := true, laidLooks := .later }
def WireBurstCardSaid : Prop := Claim7.holds Tryd.pinned (.plain (OpenSpec.ofChange wireBurstSpec)) wireBurstCard

/-- THE TIED CARD OF 'annalslaw1.WireStream'. -/
def wireStreamCard : Claim7 := { stood := { row := wireStreamRow, standIns := [], harness := (true, "4022060e0f24ab42548be79135f532f8b4ab186b8abf2468a4acdd198b0894eb"), looks := false }, kinds := [], alts := [], laidByText := true, laidKinds := [.called], laidTests := true, laidLooks := .later }
def WireStreamCardSaid : Prop := Claim7.holds Tryd.pinned (.plain (OpenSpec.ofChange wireStreamSpec)) wireStreamCard

/-- THE TIED CARD OF 'annalslaw1.WireBack'. -/
def wireBackCard : Claim7 := { stood := { row := wireBackRow, standIns := [], harness := (true, "4022060e0f24ab42548be79135f532f8b4ab186b8abf2468a4acdd198b0894eb"), looks := false }, kinds := [], alts := [], laidByText := true, laidKinds := [.called], laidTests := true, laidLooks := .later }
def WireBackCardSaid : Prop := Claim7.holds Tryd.pinned (.plain (OpenSpec.ofChange wireBackSpec)) wireBackCard

/-- THE TIED CARD OF 'annalslaw1.WireOneWay'. -/
def wireOneWayCard : Claim7 := { stood := { row := wireOneWayRow, standIns := [], harness := (true, "4022060e0f24ab42548be79135f532f8b4ab186b8abf2468a4acdd198b0894eb"), looks := false }, kinds := [], alts := [], laidByText := true, laidKinds := [.called], laidTests := true, laidLooks := .later }
def WireOneWayCardSaid : Prop := Claim7.holds Tryd.pinned (.plain (OpenSpec.ofChange wireOneWaySpec)) wireOneWayCard

/-- THE SECOND FORM's CARD OF 'annalslaw1.WireLaid'. -/
def wireLaidUptoCard : Claim7 := { stood := { row := wireLaidUptoRow, standIns := [], harness := (true, "4022060e0f24ab42548be79135f532f8b4ab186b8abf2468a4acdd198b0894eb"), looks := false }, kinds := [], alts := [], laidByText := true, laidKinds := [.called], laidTests := true, laidLooks := .later }
def WireLaidUptoCardSaid : Prop := Claim7.holds Tryd.pinned (.plain (OpenSpec.upto wireLaidSpec)) wireLaidUptoCard

/-- THE SECOND FORM's CARD OF 'annalslaw1.WireTorn'. -/
def wireTornUptoCard : Claim7 := { stood := { row := wireTornUptoRow, standIns := [], harness := (true, "4022060e0f24ab42548be79135f532f8b4ab186b8abf2468a4acdd198b0894eb"), looks := false }, kinds := [], alts := [], laidByText := true, laidKinds := [.called], laidTests := true, laidLooks := .later }
def WireTornUptoCardSaid : Prop := Claim7.holds Tryd.pinned (.plain (OpenSpec.upto wireTornSpec)) wireTornUptoCard

/-- THE SECOND FORM's CARD OF 'annalslaw1.WireBurst'. -/
def wireBurstUptoCard : Claim7 := { stood := { row := wireBurstUptoRow, standIns := [], harness := (true, "4022060e0f24ab42548be79135f532f8b4ab186b8abf2468a4acdd198b0894eb"), looks := false }, kinds := [], alts := [], laidByText := true, laidKinds := [.called], laidTests := true, laidLooks := .later }
def WireBurstUptoCardSaid : Prop := Claim7.holds Tryd.pinned (.plain (OpenSpec.upto wireBurstSpec)) wireBurstUptoCard

/-- THE SECOND FORM's CARD OF 'annalslaw1.WireStream'. -/
def wireStreamUptoCard : Claim7 := { stood := { row := wireStreamUptoRow, standIns := [], harness := (true, "4022060e0f24ab42548be79135f532f8b4ab186b8abf2468a4acdd198b0894eb"), looks := false }, kinds := [], alts := [], laidByText := true, laidKinds := [.called], laidTests := true, laidLooks := .later }
def WireStreamUptoCardSaid : Prop := Claim7.holds Tryd.pinned (.plain (OpenSpec.upto wireStreamSpec)) wireStreamUptoCard

/-- THE SECOND FORM's CARD OF 'annalslaw1.WireBack'. -/
def wireBackUptoCard : Claim7 := { stood := { row := wireBackUptoRow, standIns := [], harness := (true, "4022060e0f24ab42548be79135f532f8b4ab186b8abf2468a4acdd198b0894eb"), looks := false }, kinds := [], alts := [], laidByText := true, laidKinds := [.called], laidTests := true, laidLooks := .later }
def WireBackUptoCardSaid : Prop := Claim7.holds Tryd.pinned (.plain (OpenSpec.upto wireBackSpec)) wireBackUptoCard

/-- THE SECOND FORM's CARD OF 'annalslaw1.WireOneWay'. -/
def wireOneWayUptoCard : Claim7 := { stood := { row := wireOneWayUptoRow, standIns := [], harness := (true, "4022060e0f24ab42548be79135f532f8b4ab186b8abf2468a4acdd198b0894eb"), looks := false }, kinds := [], alts := [], laidByText := true, laidKinds := [.called], laidTests := true, laidLooks := .later }
def WireOneWayUptoCardSaid : Prop := Claim7.holds Tryd.pinned (.plain (OpenSpec.upto wireOneWaySpec)) wireOneWayUptoCard
end Rows
end Go.Proofs.YtnglcadhleefiaaDoor
