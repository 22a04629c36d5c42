import Derived.Test.YtfnfdbmckpklmaaDoorQC1
/-
  Package lift: Least; LiftChain: the law's walk.
-/
namespace Go.Proofs.YtfnfdbmckpklmaaDoor
open Go Go.RowKit
open Wb

end Go.Proofs.YtfnfdbmckpklmaaDoor
