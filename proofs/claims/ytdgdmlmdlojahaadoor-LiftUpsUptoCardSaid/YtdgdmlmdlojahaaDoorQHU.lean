import Derived.Test.YtdgdmlmdlojahaaDoorQU8
import Derived.Test.YtdgdmlmdlojahaaDoorQP1
/-
  LiftUps and its kin: the kinds 1 to 1.
-/
namespace Go.Proofs.YtdgdmlmdlojahaaDoor
open Go Go.RowKit
open Wb

theorem ok_ups (kd : Int) (h1 : 1 ≤ kd) (h2 : kd ≤ 1) : PlaysOk kd := by
  obtain rfl : kd = 1 := by omega
  exact plays_1
end Go.Proofs.YtdgdmlmdlojahaaDoor
