import Derived.Test.YtdgdmlmdlojahaaDoorQU8
import Derived.Test.YtdgdmlmdlojahaaDoorQP4
/-
  LiftUps and its kin: the kinds 4 to 4.
-/
namespace Go.Proofs.YtdgdmlmdlojahaaDoor
open Go Go.RowKit
open Wb

theorem ok_lists (kd : Int) (h1 : 4 ≤ kd) (h2 : kd ≤ 4) : PlaysOk kd := by
  obtain rfl : kd = 4 := by omega
  exact plays_4
end Go.Proofs.YtdgdmlmdlojahaaDoor
