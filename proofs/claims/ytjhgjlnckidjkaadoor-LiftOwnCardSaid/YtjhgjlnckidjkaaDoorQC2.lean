import Derived.Test.YtjhgjlnckidjkaaDoorQC1
/-
  Package lift: Least; LiftChain: the law's walk.
-/
namespace Go.Proofs.YtjhgjlnckidjkaaDoor
open Go Go.RowKit
open Wb

end Go.Proofs.YtjhgjlnckidjkaaDoor
