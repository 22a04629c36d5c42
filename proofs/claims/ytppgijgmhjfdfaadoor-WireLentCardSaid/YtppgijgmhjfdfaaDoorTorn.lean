/-
  WireTorn's walk.
-/
import Derived.Test.YtppgijgmhjfdfaaDoorFrm
import Derived.Test.YtppgijgmhjfdfaaDoorLaws1
namespace Go.Proofs.YtppgijgmhjfdfaaDoor
open Go Go.RowKit
open Wb

theorem part_n (v : Value) (l : List Nat) (n : Nat) (w : World) (h : Bs w v l) (hlen : l.length ≤ 140737488355328) (hhi : n ≤ 9223372036854775807) :
    Calls Tryd.prog 7 #[v, .int .i64 0, .int .i64 (n : Int)] w fun e w' => ∃ v', e = .returned v' ∧ Own w.heap.size w' v' (l.take n) ∧ Below w.heap.size w w' := by
  have := part_any v l 0 (n : Int) w h hlen (by omega)
  simpa using this

/-- Frame of one part, in one answer -/
theorem frame1 (pv : Value) (body : List Nat) (w : World) (hT : Tab w) (hp : Ps w pv [body]) (h : body.length ≤ 1048576) (h0 : 0 < body.length) :
    Calls Tryd.prog 6 #[pv] w fun e w' => ∃ v', e = .returned (.tuple #[v', .int .i64 0]) ∧ Own w.heap.size w' v' (fr body) ∧ Below w.heap.size w w' := by
  have := frame_ok pv [body] w hT hp (by simpa using h) (by simpa using h0)
  simpa using this
theorem readFrame_eq (v : Value) (l : List Nat) (p : Int) (w : World) (hT : Tab w) (h : Bs w v l) (hlen : l.length ≤ 140737488355328) (x : List Nat) (q : Int) (e0 : Nat) (hr : rf l p = (x, q, e0)) :
    Calls Tryd.prog 23 #[v, .int .i64 p] w fun e w' => ∃ v', e = .returned (.tuple #[v', .int .i64 q, .int .i64 (e0 : Int)]) ∧ Own w.heap.size w' v' x ∧ Below w.heap.size w w' := by
  have := readFrame_any v l p w hT h hlen
  rw [hr] at this
  exact this
theorem same_yes (va vb : Value) (a : List Nat) (w : World) (ha : Bs w va a) (hb : Bs w vb a) :
    Calls Tryd.prog 13 #[va, vb] w fun e w' => e = .returned (.bool true) ∧ Below w.heap.size w w' := by
  have := same_any va vb a a w ha hb
  simpa using this

end Go.Proofs.YtppgijgmhjfdfaaDoor
