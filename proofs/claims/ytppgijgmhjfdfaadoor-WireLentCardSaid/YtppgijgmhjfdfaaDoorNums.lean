/-
  The reference's ReadInt; the law package's 'numbers' at each kind.
-/
import Derived.Test.YtppgijgmhjfdfaaDoorRef2
import Derived.Test.YtppgijgmhjfdfaaDoorRef3
import Derived.Test.YtppgijgmhjfdfaaDoorSameAll
import Derived.Test.YtppgijgmhjfdfaaDoorWalk8
import Derived.OpenShut
namespace Go.Proofs.YtppgijgmhjfdfaaDoor
open Go Go.RowKit Go.ChangeShapes Go.WideShapes
open Wb

theorem uz_ref (x : Nat) : uz x = if x % 2 = 1 then -((x / 2 : Nat) : Int) - 1 else ((x / 2 : Nat) : Int) := by
  unfold uz
  by_cases h : x % 2 = 1
  · rw [if_pos h, if_neg (by omega)]
  · rw [if_neg h, if_pos (by omega)]
theorem ru_small (l : List Nat) (p : Int) : (Wn.ru l p).2.2 ≤ 12 := by
  rcases Wn.ru_cases l p with ⟨e, _, he, hr⟩ | ⟨q, x, n, rfl, hq, hn, hrd, hr⟩
  · rw [hr]; exact he
  · rw [hr]; simp
theorem ri_small (l : List Nat) (p : Int) : (ri l p).2.2 ≤ 12 := by
  have := ru_small l p
  unfold ri
  split
  · exact this
  · simp
end Go.Proofs.YtppgijgmhjfdfaaDoor
