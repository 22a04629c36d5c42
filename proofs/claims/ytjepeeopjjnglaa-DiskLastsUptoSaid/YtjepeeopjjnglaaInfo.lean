/-
  The element types' rows of the table.
-/
import Derived.Test.YtjepeeopjjnglaaChecked
import Derived.Test.YtjepeeopjjnglaaBase
import Derived.WalkSpells
import Derived.WalkLawsBesides
namespace Go.Proofs.Ytjepeeopjjnglaa
open Go Go.RowKit
open Wb
theorem info5 : (Try.prog.info? 5).map (fun i => (i.zero, i.size, i.bytes)) = some (some (.int .u8 0), 1, 1) := by kernel_rfl
end Go.Proofs.Ytjepeeopjjnglaa
