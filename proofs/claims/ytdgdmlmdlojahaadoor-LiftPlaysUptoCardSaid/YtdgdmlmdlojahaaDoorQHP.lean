import Derived.Test.YtdgdmlmdlojahaaDoorQU8
import Derived.Test.YtdgdmlmdlojahaaDoorQP1
import Derived.Test.YtdgdmlmdlojahaaDoorQP2
import Derived.Test.YtdgdmlmdlojahaaDoorQP3
import Derived.Test.YtdgdmlmdlojahaaDoorQP4
import Derived.Test.YtdgdmlmdlojahaaDoorQP5
/-
  LiftUps and its kin: the kinds 1 to 5.
-/
namespace Go.Proofs.YtdgdmlmdlojahaaDoor
open Go Go.RowKit
open Wb

theorem ok_plays (kd : Int) (h1 : 1 ≤ kd) (h2 : kd ≤ 5) : PlaysOk kd := by
  obtain rfl | rfl | rfl | rfl | rfl : kd = 1 ∨ kd = 2 ∨ kd = 3 ∨ kd = 4 ∨ kd = 5 := by omega
  · exact plays_1
  · exact plays_2
  · exact plays_3
  · exact plays_4
  · exact plays_5
end Go.Proofs.YtdgdmlmdlojahaaDoor
