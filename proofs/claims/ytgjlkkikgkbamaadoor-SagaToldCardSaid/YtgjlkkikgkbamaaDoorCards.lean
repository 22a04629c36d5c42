/-
  DERIVED. GIVEN WITH THE SEED: THE CARDS: each row of YtgjlkkikgkbamaaDoorRows.lean that lists a variable, with what it lists TIED to the program's text (the seventh form; the later family's looks); each row that meets fmt, with fmt's text TOLD by the authors' own Lean function (tested against real Go, not proved from fmt's source: count such statements apart). THE CARD IS WHAT COUNTS. Prove the row's statement (the work); the ties are given (YtgjlkkikgkbamaaDoorTie.lean); close each card by the builder's one call (the guide's Derived/Test/ToyasCard.lean, 'card_holds'). Laid BY PROGRAM, IN A SANDBOX (cutbox-door.mjs). By AI agents, Wed Nov 11 2026. No macro, syntax, notation, axiom, sorry.
-/
import Derived.Test.YtgjlkkikgkbamaaDoorRows
import GoSem.ClaimSeven
namespace Go.Proofs.YtgjlkkikgkbamaaDoor
namespace Rows

/-- THE TIED CARD OF 'annalslaw10.SagaWhole'. -/
def sagaWholeCard : Claim7 := { stood := { row := sagaWholeRow, standIns := [], harness := (true, "588e8fdbf91209b5ce64805e365616e52d9bc0fabb845713358c7695c2b96afc"), looks := false }, kinds := [], alts := [], laidByText := true, laidKinds := [.data, .data, .data, .data], laidTests := true, laidLooks := .later }
def SagaWholeCardSaid : Prop := Claim7.holds Tryd.pinned (.plain (OpenSpec.ofChange sagaWholeSpec)) sagaWholeCard

/-- THE TIED CARD OF 'annalslaw10.SagaMay'. -/
def sagaMayCard : Claim7 := { stood := { row := sagaMayRow, standIns := [], harness := (true, "588e8fdbf91209b5ce64805e365616e52d9bc0fabb845713358c7695c2b96afc"), looks := false }, kinds := [], alts := [], laidByText := true, laidKinds := [.data, .data, .data, .data], laidTests := true, laidLooks := .later }
def SagaMayCardSaid : Prop := Claim7.holds Tryd.pinned (.plain (OpenSpec.ofChange sagaMaySpec)) sagaMayCard

/-- THE TIED CARD OF 'annalslaw10.SagaEnds'. -/
def sagaEndsCard : Claim7 := { stood := { row := sagaEndsRow, standIns := [], harness := (true, "588e8fdbf91209b5ce64805e365616e52d9bc0fabb845713358c7695c2b96afc"), looks := false }, kinds := [], alts := [], laidByText := true, laidKinds := [.data, .data, .data, .data], laidTests := true, laidLooks := .later }
def SagaEndsCardSaid : Prop := Claim7.holds Tryd.pinned (.plain (OpenSpec.ofChange sagaEndsSpec)) sagaEndsCard

/-- THE TIED CARD OF 'annalslaw10.SagaTold'. -/
def sagaToldCard : Claim7 := { stood := { row := sagaToldRow, standIns := [], harness := (true, "588e8fdbf91209b5ce64805e365616e52d9bc0fabb845713358c7695c2b96afc"), looks := false }, kinds := [], alts := [], laidByText := true, laidKinds := [.data, .data, .data, .data], laidTests := true, laidLooks := .later }
def SagaToldCardSaid : Prop := Claim7.holds Tryd.pinned (.plain (OpenSpec.ofChange sagaToldSpec)) sagaToldCard

/-- THE SECOND FORM's CARD OF 'annalslaw10.SagaWhole'. -/
def sagaWholeUptoCard : Claim7 := { stood := { row := sagaWholeUptoRow, standIns := [], harness := (true, "588e8fdbf91209b5ce64805e365616e52d9bc0fabb845713358c7695c2b96afc"), looks := false }, kinds := [], alts := [], laidByText := true, laidKinds := [.data, .data, .data, .data], laidTests := true, laidLooks := .later }
def SagaWholeUptoCardSaid : Prop := Claim7.holds Tryd.pinned (.plain (OpenSpec.upto sagaWholeSpec)) sagaWholeUptoCard

/-- THE SECOND FORM's CARD OF 'annalslaw10.SagaMay'. -/
def sagaMayUptoCard : Claim7 := { stood := { row := sagaMayUptoRow, standIns := [], harness := (true, "588e8fdbf91209b5ce64805e365616e52d9bc0fabb845713358c7695c2b96afc"), looks := false }, kinds := [], alts := [], laidByText := true, laidKinds := [.data, .data, .data, .data], laidTests := true, laidLooks := .later }
def SagaMayUptoCardSaid : Prop := Claim7.holds Tryd.pinned (.plain (OpenSpec.upto sagaMaySpec)) sagaMayUptoCard

/-- THE SECOND FORM's CARD OF 'annalslaw10.SagaEnds'. -/
def sagaEndsUptoCard : Claim7 := { stood := { row := sagaEndsUptoRow, standIns := [], harness := (true, "588e8fdbf91209b5ce64805e365616e52d9bc0fabb845713358c7695c2b96afc"), looks := false }, kinds := [], alts := [], laidByText := true, laidKinds := [.data, .data, .data, .data], laidTests := true, laidLooks := .later }
def SagaEndsUptoCardSaid : Prop := Claim7.holds Tryd.pinned (.plain (OpenSpec.upto sagaEndsSpec)) sagaEndsUptoCard

/-- THE SECOND FORM's CARD OF 'annalslaw10.SagaTold'. -/
def sagaToldUptoCard : Claim7 := { stood := { row := sagaToldUptoRow, standIns := [], harness := (true, "588e8fdbf91209b5ce64805e365616e52d9bc0fabb845713358c7695c2b96afc"), looks := false }, kinds := [], alts := [], laidByText := true, laidKinds := [.data, .data, .data, .data], laidTests := true, laidLooks := .later }
def SagaToldUptoCardSaid : Prop := Claim7.holds Tryd.pinned (.plain (OpenSpec.upto sagaToldSpec)) sagaToldUptoCard
end Rows
end Go.Proofs.YtgjlkkikgkbamaaDoor
