import Derived.Test.YtdgdmlmdlojahaaDoorQU8
import Derived.Test.YtdgdmlmdlojahaaDoorQP2
import Derived.Test.YtdgdmlmdlojahaaDoorQP3
/-
  LiftUps and its kin: the kinds 2 to 3.
-/
namespace Go.Proofs.YtdgdmlmdlojahaaDoor
open Go Go.RowKit
open Wb

theorem ok_downs (kd : Int) (h1 : 2 ≤ kd) (h2 : kd ≤ 3) : PlaysOk kd := by
  obtain rfl | rfl : kd = 2 ∨ kd = 3 := by omega
  · exact plays_2
  · exact plays_3
end Go.Proofs.YtdgdmlmdlojahaaDoor
