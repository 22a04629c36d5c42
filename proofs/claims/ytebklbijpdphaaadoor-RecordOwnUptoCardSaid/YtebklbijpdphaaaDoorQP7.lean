import Derived.Test.YtebklbijpdphaaaDoorQP6
import Derived.Test.YtebklbijpdphaaaDoorQP5
/-
  RecordOwn: the law.
-/
namespace Go.Proofs.YtebklbijpdphaaaDoor
open Go Go.RowKit
open Wb
theorem recordOwn_any (v : Value) (rs : List Rec) (w : World) (h : RecsAt w v rs) (hg : LGood rs) (hT : Text.TabP 3 .i32 Text.Tx.lets w) (hG : TagsT w) (hF : Fld.TagsT w) :
    Calls Tryd.prog 3 #[v] w fun e w' => e = .returned (.bool true) ∧ Below w.heap.size w w' :=
  rown_any v rs w h hg hT hG fun w' hb => fields2_any w' (hF.kept hb)
end Go.Proofs.YtebklbijpdphaaaDoor
