/-
  wire: Int, ReadInt, Bytes, ReadBytes.
-/
import Derived.Test.YtfccimacloagiaaDoorWalk5
import Derived.Test.YtfccimacloagiaaDoorNum2
namespace Go.Proofs.YtfccimacloagiaaDoor
open Go Go.RowKit
open Wb

/-- ReadInt's answer -/
def ri (l : List Nat) (p : Int) : Int × Int × Nat := if (Wn.ru l p).2.2 ≠ 0 then (0, 0, (Wn.ru l p).2.2) else (uz (Wn.ru l p).1, (Wn.ru l p).2.1, 0)

theorem bsNil (w : World) (a : Addr) (c : Nat) (h : c ≤ maxLen) : Bs w (.slice (some a) 0 c) [] :=
  ⟨⟨some a, c, rfl, Nat.zero_le _, h, fun e => (by cases e), fun e => absurd rfl e⟩, ok_nil⟩
theorem rb_arg (l : List Nat) (p m : Int) (h : m < 0) : rb l p m = ([], 0, 1) := by unfold rb; rw [if_pos h]
end Go.Proofs.YtfccimacloagiaaDoor
