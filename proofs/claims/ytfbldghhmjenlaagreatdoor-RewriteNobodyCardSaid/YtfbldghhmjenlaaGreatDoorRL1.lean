/-
  Package record: a record's value; apart; the reference's number.
-/
import Derived.Test.YtfbldghhmjenlaaGreatDoorBase
import Derived.Handy
import Derived.Test.YtfbldghhmjenlaaGreatDoorChecked
namespace Go.Proofs.YtfbldghhmjenlaaGreatDoor
open Go Go.RowKit
open Wb

/-- a record's numbers -/
structure Nums where
  v : Int
  k : Int
  s : Int
  p : Int
  t : Int
  a : Int
  l : Int
  c : Int
  n : Int
  i : Int
deriving DecidableEq
/-- a record by value -/
def rv (x : Nums) (nm : ByteArray) (d : Value) : Value := .agg #[.int .i64 x.v, .int .i64 x.k, .int .i64 x.s, .int .i64 x.p, .int .i64 x.t, .int .i64 x.a, .int .i64 x.l, .int .i64 x.c, .int .i64 x.n, .int .i64 x.i, .string nm, d]
set_option maxRecDepth 100000 in
theorem apart_any (x : Nums) (nm : ByteArray) (ao : Option Addr) (n cap : Nat) (w : World) :
    Calls Tryz.prog 87 #[rv x nm (.slice ao n cap)] w fun e w' => e = .returned (.agg #[.int .i64 0, .int .i64 x.k, .int .i64 x.s, .int .i64 x.p, .int .i64 x.t, .int .i64 x.a, .int .i64 x.l, .int .i64 x.c, .int .i64 x.n, .int .i64 x.i, .string nm, .slice ao n cap]) ∧ Below w.heap.size w w' := by
  unfold rv
  go_enter Tryz.func87, Tryz.ntmps87
  go_wp2
  go_returns
  exact ⟨rfl, by go_grown⟩
/-- the number of a tag -/
def Nums.tag (x : Nums) (t : Nat) : Int := if t = 1 then x.k else if t = 2 then x.s else if t = 3 then x.p else if t = 4 then x.t else if t = 5 then x.a else if t = 6 then x.l else if t = 7 then x.c else if t = 8 then x.n else if t = 9 then x.i else 0
end Go.Proofs.YtfbldghhmjenlaaGreatDoor
