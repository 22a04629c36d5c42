/-
  DERIVED. GIVEN WITH THE SEED: THE PROGRAM's TIES (one call each: nine closed facts by the kernel) AND EACH ROW's TIE, after the 31st guide's Derived/Test/Toyas{Tie, Card}.lean. No idea stands in it: it is a product of the set-up. Laid BY PROGRAM, IN A SANDBOX (cutbox-door.mjs). By AI agents, Wed Nov 11 2026. No macro, syntax, notation, axiom, sorry.
-/
import Derived.Test.YtodcakplmoajiaaDoorRows
import Derived.LaidByTextLater
import Derived.SevenTiedAt
import Derived.LaidSub
import Derived.LaidOnce
namespace Go.Proofs.YtodcakplmoajiaaDoor
open Go
set_option maxRecDepth 100000
theorem seatTie1 : Tryd.prog.laidByTextLater [("annals/text.letters", Rows.laid_annals_text_letters), ("annals/record.tags", Rows.laid_annals_record_tags), ("annals/lift.ways", Rows.laid_annals_lift_ways), ("annals/saga.kinds", Rows.laid_annals_saga_kinds)] [.data, .data, .data, .data] true :=
  Program.laidByTextLater_by_one 89 8 148 (by kernel_rfl) (by kernel_rfl) (by kernel_rfl) (by kernel_rfl) (by kernel_rfl) (by kernel_rfl) (fun _ _ => by kernel_rfl)
theorem noOwnUnsafe : Tryd.pinned.checked.prog.headLifts.contains "ownunsafe" = false := by kernel_rfl
theorem tie : Tryd.prog.laidByTextLater [("annals/text.letters", Rows.laid_annals_text_letters), ("annals/record.tags", Rows.laid_annals_record_tags), ("annals/lift.ways", Rows.laid_annals_lift_ways), ("annals/saga.kinds", Rows.laid_annals_saga_kinds)] [.data, .data, .data, .data] true :=
  Program.laidByTextLater.sub seatTie1 ["annals/text.letters", "annals/record.tags", "annals/lift.ways", "annals/saga.kinds"] (by kernel_rfl) (by kernel_rfl)
theorem planGoesOn_row_tie : Rows.planGoesOnRow.laidByTextAt .later Tryd.pinned [.data, .data, .data, .data] true :=
  OpenClaim.laidByTextAt_later rfl rfl tie noOwnUnsafe
theorem planAllOrNothing_row_tie : Rows.planAllOrNothingRow.laidByTextAt .later Tryd.pinned [.data, .data, .data, .data] true :=
  OpenClaim.laidByTextAt_later rfl rfl tie noOwnUnsafe
theorem planGoesOnUpto_row_tie : Rows.planGoesOnUptoRow.laidByTextAt .later Tryd.pinned [.data, .data, .data, .data] true :=
  OpenClaim.laidByTextAt_later rfl rfl tie noOwnUnsafe
theorem planAllOrNothingUpto_row_tie : Rows.planAllOrNothingUptoRow.laidByTextAt .later Tryd.pinned [.data, .data, .data, .data] true :=
  OpenClaim.laidByTextAt_later rfl rfl tie noOwnUnsafe
end Go.Proofs.YtodcakplmoajiaaDoor
