/-
  WireAgain: the law's walk, at any size.
-/
import Derived.Test.YtdoclmkldfemhaaDoorAgain4
import Derived.Test.YtdoclmkldfemhaaDoorAgain5
namespace Go.Proofs.YtdoclmkldfemhaaDoor
open Go Go.RowKit Go.ChangeShapes Go.WideShapes
open Wb

theorem again_any (sz : Int) (v : Value) (n : Nat) (w : World) (hT : Tab w) (_hw : (Lit.int .i64 sz).wf = true) (h : Script w v n) :
    Calls Tryd.prog 3 #[.int .i64 sz, v] w fun e w' => e = .returned (.bool true) ∧ Below w.heap.size w w' := by
  have h1 : -400 < sz.tmod 400 := Int.lt_tmod_of_pos sz (by decide)
  have h2 : sz.tmod 400 < 400 := Int.tmod_lt_of_pos sz (by decide)
  by_cases hs : 0 ≤ sz.tmod 400
  · exact again_pos sz v n w hT h hs h1 h2
  · exact again_neg sz v n w hT h hs h1 h2
end Go.Proofs.YtdoclmkldfemhaaDoor
