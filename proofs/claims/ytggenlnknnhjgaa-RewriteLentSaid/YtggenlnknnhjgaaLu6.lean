/-
  LiftUps and its kin: roomy, copies, laid.
-/
import Derived.Test.YtggenlnknnhjgaaLu5
namespace Go.Proofs.Ytggenlnknnhjgaa
open Go Go.RowKit
open Wb

/-- what roomy makes of bytes -/
def tlK (k : Nat) : List Nat := (List.range k).map fun i => 201 + i % 5
def roomL (l : List Nat) : List Nat := l ++ tlK 75
theorem tlK_succ (k : Nat) : tlK (k + 1) = tlK k ++ [201 + k % 5] := by unfold tlK; rw [List.range_succ, List.map_append]; rfl
theorem tlK_len (k : Nat) : (tlK k).length = k := by simp [tlK]
theorem rem5 (k : Nat) : Int.tmod (k : Int) 5 = ((k % 5 : Nat) : Int) := by
  rw [Int.tmod_eq_emod_of_nonneg (by omega)]
  omega
theorem wrap5 (k : Nat) : IntKind.wrap .u8 (201 + ((k % 5 : Nat) : Int)) = ((201 + k % 5 : Nat) : Int) := by
  have h : k % 5 < 5 := Nat.mod_lt _ (by decide)
  generalize k % 5 = m at *
  obtain rfl | rfl | rfl | rfl | rfl : m = 0 ∨ m = 1 ∨ m = 2 ∨ m = 3 ∨ m = 4 := by omega
  all_goals decide
/-- what the lists of a step hold is small -/
structure LGood (rs : List Rec) : Prop where
  each : ∀ r ∈ rs, r.nm.size ≤ 1048576 ∧ r.x.fit ∧ r.l.length ≤ 1048576
  few : rs.length ≤ 1048576
end Go.Proofs.Ytggenlnknnhjgaa
