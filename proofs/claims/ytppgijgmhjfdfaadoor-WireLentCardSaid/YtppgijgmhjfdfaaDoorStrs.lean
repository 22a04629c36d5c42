/-
  The reference's ReadBytes; the law package's 'stretches' at Bytes and ReadBytes.
-/
import Derived.Test.YtppgijgmhjfdfaaDoorNums
namespace Go.Proofs.YtppgijgmhjfdfaaDoor
open Go Go.RowKit Go.ChangeShapes Go.WideShapes
open Wb

theorem rb_small (l : List Nat) (p m : Int) : (rb l p m).2.2 ≤ 13 := by
  have := ru_small l p
  unfold rb
  repeat' split
  all_goals simp
  omega
end Go.Proofs.YtppgijgmhjfdfaaDoor
