/-
  Of the law package: stretches at a Sum.
-/
import Derived.Test.YtppgijgmhjfdfaaDoorPlays2
namespace Go.Proofs.YtppgijgmhjfdfaaDoor
open Go Go.RowKit
open Wb

end Go.Proofs.YtppgijgmhjfdfaaDoor
