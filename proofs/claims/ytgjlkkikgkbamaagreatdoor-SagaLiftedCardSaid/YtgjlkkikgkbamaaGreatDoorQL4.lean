import Derived.Deep.RegionHeld
import Derived.Test.YtgjlkkikgkbamaaGreatDoorQL3
import Derived.Test.YtgjlkkikgkbamaaGreatDoorQG1
/-
  Package lift: Down.
-/
namespace Go.Proofs.YtgjlkkikgkbamaaGreatDoor
open Go Go.RowKit
open Wb

end Go.Proofs.YtgjlkkikgkbamaaGreatDoor
