import Derived.Deep.RegionHeld
import Derived.Test.YtdnackjakfiffaaGreatDoorQL3
import Derived.Test.YtdnackjakfiffaaGreatDoorQG1
/-
  Package lift: Down.
-/
namespace Go.Proofs.YtdnackjakfiffaaGreatDoor
open Go Go.RowKit
open Wb

end Go.Proofs.YtdnackjakfiffaaGreatDoor
