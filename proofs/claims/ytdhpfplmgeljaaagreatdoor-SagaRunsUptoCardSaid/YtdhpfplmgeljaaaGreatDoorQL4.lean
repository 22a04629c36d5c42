import Derived.Deep.RegionHeld
import Derived.Test.YtdhpfplmgeljaaaGreatDoorQL3
import Derived.Test.YtdhpfplmgeljaaaGreatDoorQG1
namespace Go.Proofs.YtdhpfplmgeljaaaGreatDoor
open Go Go.RowKit
open Wb

end Go.Proofs.YtdhpfplmgeljaaaGreatDoor
