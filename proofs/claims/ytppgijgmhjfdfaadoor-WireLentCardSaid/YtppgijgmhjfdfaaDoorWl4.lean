/-
  WireLent: the arguments.
-/
import Derived.Test.YtppgijgmhjfdfaaDoorWo6
import Derived.Test.YtppgijgmhjfdfaaDoorWl3
namespace Go.Proofs.YtppgijgmhjfdfaaDoor
open Go.ChangeShapes Go.WideShapes Go.ChangeAt Go.RowKit
open Wb

theorem wireLent_any (va : Value) (la : List (List Nat)) (vb : Value) (lb : List (List Nat)) (w : World) (hT : Tab w) (ha : Ps w va la) (hb : Ps w vb lb) (ca : ∀ j (h : j < la.length), la[j].length ≤ 140737488355328) (ka : ∀ ao n cap, va = .slice ao n cap → n ≤ cap) (cb : ∀ j (h : j < lb.length), lb[j].length ≤ 140737488355328) (kb : ∀ ao n cap, vb = .slice ao n cap → n ≤ cap) :
    Calls Tryd.prog 4 #[va, vb] w fun e w' => e = .returned (.bool true) ∧ Below w.heap.size w w' := wlent_any va vb la lb w hT ha hb ca cb ka kb
end Go.Proofs.YtppgijgmhjfdfaaDoor
