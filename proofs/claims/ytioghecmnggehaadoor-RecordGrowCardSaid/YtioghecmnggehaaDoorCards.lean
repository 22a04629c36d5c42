/-
  DERIVED. GIVEN WITH THE SEED: THE CARDS: each row of YtioghecmnggehaaDoorRows.lean that lists a variable, with what it lists TIED to the program's text (the seventh form; the later family's looks); each row that meets fmt, with fmt's text TOLD by the authors' own Lean function (tested against real Go, not proved from fmt's source: count such statements apart). THE CARD IS WHAT COUNTS. Prove the row's statement (the work); the ties are given (YtioghecmnggehaaDoorTie.lean); close each card by the builder's one call (the guide's Derived/Test/ToyasCard.lean, 'card_holds'). Laid BY PROGRAM, IN A SANDBOX (cutbox-door.mjs). By AI agents, Wed Nov 11 2026. No macro, syntax, notation, axiom, sorry.
-/
import Derived.Test.YtioghecmnggehaaDoorRows
import GoSem.ClaimSeven
namespace Go.Proofs.YtioghecmnggehaaDoor
namespace Rows

/-- THE TIED CARD OF 'annalslaw3.RecordLater'. -/
def recordLaterCard : Claim7 := { stood := { row := recordLaterRow, standIns := [], harness := (true, "6002b1d684d55caf6c79fa4e4c5bba41822931de049a37247d9af4f4da9f56e0"), looks := false }, kinds := [], alts := [], laidByText := true, laidKinds := [.data, .data], laidTests := true, laidLooks := .later }
def RecordLaterCardSaid : Prop := Claim7.holds Tryd.pinned (.plain (OpenSpec.ofChange recordLaterSpec)) recordLaterCard

/-- THE TIED CARD OF 'annalslaw3.RecordGrow'. -/
def recordGrowCard : Claim7 := { stood := { row := recordGrowRow, standIns := [], harness := (true, "6002b1d684d55caf6c79fa4e4c5bba41822931de049a37247d9af4f4da9f56e0"), looks := false }, kinds := [], alts := [], laidByText := true, laidKinds := [.data, .data], laidTests := true, laidLooks := .later }
def RecordGrowCardSaid : Prop := Claim7.holds Tryd.pinned (.plain (OpenSpec.ofChange recordGrowSpec)) recordGrowCard

/-- THE TIED CARD OF 'annalslaw3.RecordBack'. -/
def recordBackCard : Claim7 := { stood := { row := recordBackRow, standIns := [], harness := (true, "6002b1d684d55caf6c79fa4e4c5bba41822931de049a37247d9af4f4da9f56e0"), looks := false }, kinds := [], alts := [], laidByText := true, laidKinds := [.data, .data], laidTests := true, laidLooks := .later }
def RecordBackCardSaid : Prop := Claim7.holds Tryd.pinned (.plain (OpenSpec.ofChange recordBackSpec)) recordBackCard

/-- THE TIED CARD OF 'annalslaw3.RecordOneWay'. -/
def recordOneWayCard : Claim7 := { stood := { row := recordOneWayRow, standIns := [], harness := (true, "6002b1d684d55caf6c79fa4e4c5bba41822931de049a37247d9af4f4da9f56e0"), looks := false }, kinds := [], alts := [], laidByText := true, laidKinds := [.data, .data], laidTests := true, laidLooks := .later }
def RecordOneWayCardSaid : Prop := Claim7.holds Tryd.pinned (.plain (OpenSpec.ofChange recordOneWaySpec)) recordOneWayCard

/-- THE SECOND FORM's CARD OF 'annalslaw3.RecordLater'. -/
def recordLaterUptoCard : Claim7 := { stood := { row := recordLaterUptoRow, standIns := [], harness := (true, "6002b1d684d55caf6c79fa4e4c5bba41822931de049a37247d9af4f4da9f56e0"), looks := false }, kinds := [], alts := [], laidByText := true, laidKinds := [.data, .data], laidTests := true, laidLooks := .later }
def RecordLaterUptoCardSaid : Prop := Claim7.holds Tryd.pinned (.plain (OpenSpec.upto recordLaterSpec)) recordLaterUptoCard

/-- THE SECOND FORM's CARD OF 'annalslaw3.RecordGrow'. -/
def recordGrowUptoCard : Claim7 := { stood := { row := recordGrowUptoRow, standIns := [], harness := (true, "6002b1d684d55caf6c79fa4e4c5bba41822931de049a37247d9af4f4da9f56e0"), looks := false }, kinds := [], alts := [], laidByText := true, laidKinds := [.data, .data], laidTests := true, laidLooks := .later }
def RecordGrowUptoCardSaid : Prop := Claim7.holds Tryd.pinned (.plain (OpenSpec.upto recordGrowSpec)) recordGrowUptoCard

/-- THE SECOND FORM's CARD OF 'annalslaw3.RecordBack'. -/
def recordBackUptoCard : Claim7 := { stood := { row := recordBackUptoRow, standIns := [], harness := (true, "6002b1d684d55caf6c79fa4e4c5bba41822931de049a37247d9af4f4da9f56e0"), looks := false }, kinds := [], alts := [], laidByText := true, laidKinds := [.data, .data], laidTests := true, laidLooks := .later }
def RecordBackUptoCardSaid : Prop := Claim7.holds Tryd.pinned (.plain (OpenSpec.upto recordBackSpec)) recordBackUptoCard

/-- THE SECOND FORM's CARD OF 'annalslaw3.RecordOneWay'. -/
def recordOneWayUptoCard : Claim7 := { stood := { row := recordOneWayUptoRow, standIns := [], harness := (true, "6002b1d684d55caf6c79fa4e4c5bba41822931de049a37247d9af4f4da9f56e0"), looks := false }, kinds := [], alts := [], laidByText := true, laidKinds := [.data, .data], laidTests := true, laidLooks := .later }
def RecordOneWayUptoCardSaid : Prop := Claim7.holds Tryd.pinned (.plain (OpenSpec.upto recordOneWaySpec)) recordOneWayUptoCard
end Rows
end Go.Proofs.YtioghecmnggehaaDoor
