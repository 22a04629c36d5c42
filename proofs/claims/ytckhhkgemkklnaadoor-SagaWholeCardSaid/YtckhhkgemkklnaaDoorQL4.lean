import Derived.Deep.RegionHeld
import Derived.Test.YtckhhkgemkklnaaDoorQL3
import Derived.Test.YtckhhkgemkklnaaDoorQG1
/-
  Package lift: Down.
-/
namespace Go.Proofs.YtckhhkgemkklnaaDoor
open Go Go.RowKit
open Wb

end Go.Proofs.YtckhhkgemkklnaaDoor
