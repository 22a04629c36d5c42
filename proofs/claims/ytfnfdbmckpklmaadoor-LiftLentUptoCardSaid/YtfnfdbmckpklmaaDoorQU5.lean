import Derived.Test.YtfnfdbmckpklmaaDoorQU2
import Derived.Test.YtfnfdbmckpklmaaDoorQU4
import Derived.Test.YtfnfdbmckpklmaaDoorQR3
/-
  The reference's Down.
-/
namespace Go.Proofs.YtfnfdbmckpklmaaDoor
open Go Go.RowKit
open Wb

end Go.Proofs.YtfnfdbmckpklmaaDoor
