/-
  The reference's table of letters: within, Letter.
-/
import Derived.Test.YtioghecmnggehaaDoorLet
import Derived.Deep.QuietTactic
import Derived.BigQuiet
import Derived.WalkSmall
namespace Go.Proofs.YtioghecmnggehaaDoor.Text
open Go Go.RowKit
open Tx

end Go.Proofs.YtioghecmnggehaaDoor.Text
