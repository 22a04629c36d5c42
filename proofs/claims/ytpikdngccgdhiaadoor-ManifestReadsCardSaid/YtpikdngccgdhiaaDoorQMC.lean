import Derived.Test.YtpikdngccgdhiaaDoorQMB
import Derived.Test.YtpikdngccgdhiaaDoorQMA
/-
  ManifestReads: the law's walk, the reference's Decode put in.
-/
namespace Go.Proofs.YtpikdngccgdhiaaDoor
open Go Go.RowKit
open Wb

theorem manifestReads_any (bw : Value) (b : List Nat) (w : World) (hT : Tab w) (hb : Bs w bw b) :
    Calls Tryd.prog 5 #[bw] w fun e w' => e = .returned (.bool true) ∧ Below w.heap.size w w' := mreads_any bw b w hT hb rdecode8_any
end Go.Proofs.YtpikdngccgdhiaaDoor
