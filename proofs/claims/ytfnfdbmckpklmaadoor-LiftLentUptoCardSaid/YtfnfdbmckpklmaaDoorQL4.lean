import Derived.Deep.RegionHeld
import Derived.Test.YtfnfdbmckpklmaaDoorQL3
import Derived.Test.YtfnfdbmckpklmaaDoorQG1
/-
  Package lift: Down.
-/
namespace Go.Proofs.YtfnfdbmckpklmaaDoor
open Go Go.RowKit
open Wb

end Go.Proofs.YtfnfdbmckpklmaaDoor
