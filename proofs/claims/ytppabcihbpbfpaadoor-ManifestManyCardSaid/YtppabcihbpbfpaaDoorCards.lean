/-
  DERIVED. GIVEN WITH THE SEED: THE CARDS: each row of YtppabcihbpbfpaaDoorRows.lean that lists a variable, with what it lists TIED to the program's text (the seventh form; the later family's looks); each row that meets fmt, with fmt's text TOLD by the authors' own Lean function (tested against real Go, not proved from fmt's source: count such statements apart). THE CARD IS WHAT COUNTS. Prove the row's statement (the work); the ties are given (YtppabcihbpbfpaaDoorTie.lean); close each card by the builder's one call (the guide's Derived/Test/ToyasCard.lean, 'card_holds'). Laid BY PROGRAM, IN A SANDBOX (cutbox-door.mjs). By AI agents, Wed Nov 11 2026. No macro, syntax, notation, axiom, sorry.
-/
import Derived.Test.YtppabcihbpbfpaaDoorRows
import GoSem.ClaimSeven
namespace Go.Proofs.YtppabcihbpbfpaaDoor
namespace Rows

/-- THE TIED CARD OF 'annalslaw8.ManifestMany'. -/
def manifestManyCard : Claim7 := { stood := { row := manifestManyRow, standIns := [], harness := (true, "9f97728a12516b924ebf3ffb1b9063127a35139a22b0f708fe5f3d7ad734a411"), looks := true }, kinds := [], alts := [], laidByText := true, laidKinds := [.data, .data, .data, .sentinel, .sentinel], laidTests := true, laidLooks := .later }
def ManifestManyCardSaid : Prop := Claim7.holds Tryd.pinned (.plain (OpenSpec.ofChange manifestManySpec)) manifestManyCard

/-- THE SECOND FORM's CARD OF 'annalslaw8.ManifestMany'. -/
def manifestManyUptoCard : Claim7 := { stood := { row := manifestManyUptoRow, standIns := [], harness := (true, "9f97728a12516b924ebf3ffb1b9063127a35139a22b0f708fe5f3d7ad734a411"), looks := true }, kinds := [], alts := [], laidByText := true, laidKinds := [.data, .data, .data, .sentinel, .sentinel], laidTests := true, laidLooks := .later }
def ManifestManyUptoCardSaid : Prop := Claim7.holds Tryd.pinned (.plain (OpenSpec.upto manifestManySpec)) manifestManyUptoCard
end Rows
end Go.Proofs.YtppabcihbpbfpaaDoor
