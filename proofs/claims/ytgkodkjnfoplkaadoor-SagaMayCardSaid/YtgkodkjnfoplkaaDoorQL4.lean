import Derived.Deep.RegionHeld
import Derived.Test.YtgkodkjnfoplkaaDoorQL3
import Derived.Test.YtgkodkjnfoplkaaDoorQG1
/-
  Package lift: Down.
-/
namespace Go.Proofs.YtgkodkjnfoplkaaDoor
open Go Go.RowKit
open Wb

end Go.Proofs.YtgkodkjnfoplkaaDoor
