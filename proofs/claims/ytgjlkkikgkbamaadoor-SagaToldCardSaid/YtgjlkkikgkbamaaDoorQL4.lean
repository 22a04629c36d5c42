import Derived.Deep.RegionHeld
import Derived.Test.YtgjlkkikgkbamaaDoorQL3
import Derived.Test.YtgjlkkikgkbamaaDoorQG1
/-
  Package lift: Down.
-/
namespace Go.Proofs.YtgjlkkikgkbamaaDoor
open Go Go.RowKit
open Wb

end Go.Proofs.YtgjlkkikgkbamaaDoor
