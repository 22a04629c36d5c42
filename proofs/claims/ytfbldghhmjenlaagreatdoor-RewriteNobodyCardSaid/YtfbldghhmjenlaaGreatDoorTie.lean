/-
  DERIVED. GIVEN WITH THE SEED: THE PROGRAM's TIES (one call each: nine closed facts by the kernel) AND EACH ROW's TIE, after the 31st guide's Derived/Test/Toyas{Tie, Card}.lean. No idea stands in it: it is a product of the set-up. Laid BY PROGRAM, IN A SANDBOX (cutbox-door.mjs). By AI agents, Wed Nov 11 2026. No macro, syntax, notation, axiom, sorry.
-/
import Derived.Test.YtfbldghhmjenlaaGreatDoorRows
import Derived.LaidByTextLater
import Derived.SevenTiedAt
import Derived.LaidSub
import Derived.LaidOnce
namespace Go.Proofs.YtfbldghhmjenlaaGreatDoor
open Go
set_option maxRecDepth 100000
theorem seatTie1 : Tryz.prog.laidByTextLater [("math/bits.deBruijn32tab", Rows.laid_math_bits_deBruijn32tab), ("math/bits.deBruijn64tab", Rows.laid_math_bits_deBruijn64tab), ("internal/strconv.uint64pow10", Rows.laid_internal_strconv_uint64pow10), ("errors.errorType", Rows.laid_errors_errorType), ("annals/wire.halves", Rows.laid_annals_wire_halves), ("annals/text.letters", Rows.laid_annals_text_letters), ("annals/record.tags", Rows.laid_annals_record_tags), ("annals/lift.ways", Rows.laid_annals_lift_ways)] [.data, .data, .data, .handle, .called, .data, .data, .data] true :=
  Program.laidByTextLater_by_one 3494 8 148 (by kernel_rfl) (by kernel_rfl) (by kernel_rfl) (by kernel_rfl) (by kernel_rfl) (by kernel_rfl) (fun _ _ => by kernel_rfl)
theorem noOwnUnsafe : Tryz.pinned.checked.prog.headLifts.contains "ownunsafe" = false := by kernel_rfl
theorem tie : Tryz.prog.laidByTextLater [("math/bits.deBruijn32tab", Rows.laid_math_bits_deBruijn32tab), ("math/bits.deBruijn64tab", Rows.laid_math_bits_deBruijn64tab), ("internal/strconv.uint64pow10", Rows.laid_internal_strconv_uint64pow10), ("errors.errorType", Rows.laid_errors_errorType), ("annals/wire.halves", Rows.laid_annals_wire_halves), ("annals/text.letters", Rows.laid_annals_text_letters), ("annals/record.tags", Rows.laid_annals_record_tags), ("annals/lift.ways", Rows.laid_annals_lift_ways)] [.data, .data, .data, .handle, .called, .data, .data, .data] true :=
  Program.laidByTextLater.sub seatTie1 ["math/bits.deBruijn32tab", "math/bits.deBruijn64tab", "internal/strconv.uint64pow10", "errors.errorType", "annals/wire.halves", "annals/text.letters", "annals/record.tags", "annals/lift.ways"] (by kernel_rfl) (by kernel_rfl)
theorem rewriteNobody_row_tie : Rows.rewriteNobodyRow.laidByTextAt .later Tryz.pinned [.data, .data, .data, .handle, .called, .data, .data, .data] true :=
  OpenClaim.laidByTextAt_later rfl rfl tie noOwnUnsafe
theorem rewriteNobodyUpto_row_tie : Rows.rewriteNobodyUptoRow.laidByTextAt .later Tryz.pinned [.data, .data, .data, .handle, .called, .data, .data, .data] true :=
  OpenClaim.laidByTextAt_later rfl rfl tie noOwnUnsafe
end Go.Proofs.YtfbldghhmjenlaaGreatDoor
