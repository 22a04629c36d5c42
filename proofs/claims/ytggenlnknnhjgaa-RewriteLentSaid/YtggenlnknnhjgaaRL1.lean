/-
  Package record: a record's value; apart; the reference's number.
-/
import Derived.Test.YtggenlnknnhjgaaBase
import Derived.Handy
import Derived.Test.YtggenlnknnhjgaaChecked
namespace Go.Proofs.Ytggenlnknnhjgaa
open Go Go.RowKit
open Wb

/-- a record's numbers -/
structure Nums where
  v : Int
  k : Int
  s : Int
  p : Int
  t : Int
  a : Int
  l : Int
  c : Int
  n : Int
  i : Int
deriving DecidableEq
/-- a record by value -/
def rv (x : Nums) (nm : ByteArray) (d : Value) : Value := .agg #[.int .i64 x.v, .int .i64 x.k, .int .i64 x.s, .int .i64 x.p, .int .i64 x.t, .int .i64 x.a, .int .i64 x.l, .int .i64 x.c, .int .i64 x.n, .int .i64 x.i, .string nm, d]
/-- the number of a tag -/
def Nums.tag (x : Nums) (t : Nat) : Int := if t = 1 then x.k else if t = 2 then x.s else if t = 3 then x.p else if t = 4 then x.t else if t = 5 then x.a else if t = 6 then x.l else if t = 7 then x.c else if t = 8 then x.n else if t = 9 then x.i else 0
set_option maxRecDepth 100000 in
set_option maxHeartbeats 2000000 in
theorem number_any (x : Nums) (nm : ByteArray) (ao : Option Addr) (n cap : Nat) (t : Nat) (w : World) (h1 : 1 ≤ t) (h9 : t ≤ 9) :
    Calls Try.prog 21 #[rv x nm (.slice ao n cap), .int .i64 (t : Int)] w fun e w' => e = .returned (.int .i64 (x.tag t)) ∧ Below w.heap.size w w' := by
  unfold rv
  obtain rfl | rfl | rfl | rfl | rfl | rfl | rfl | rfl | rfl : t = 1 ∨ t = 2 ∨ t = 3 ∨ t = 4 ∨ t = 5 ∨ t = 6 ∨ t = 7 ∨ t = 8 ∨ t = 9 := by omega
  all_goals
    go_enter Try.func21, Try.ntmps21
    go_wp2
    go_ret
    exact ⟨rfl, by go_grown⟩
end Go.Proofs.Ytggenlnknnhjgaa
