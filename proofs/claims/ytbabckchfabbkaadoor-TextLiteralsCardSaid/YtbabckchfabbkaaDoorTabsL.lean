/-
  The reference's table of hidden runes.
-/
import Derived.Test.YtbabckchfabbkaaDoorTabsU
namespace Go.Proofs.YtbabckchfabbkaaDoor
open Go Go.RowKit
open Tx

theorem gRHids : Tryd.prog.globalNamed "annals/annalsref2.hidden" = some 0 := by kernel_rfl
theorem gRHidsT : (Tryd.prog.globals[0]?).map (·.type) = some 91 := by kernel_rfl
theorem rhids_of {W : World} {l : List (String × DataW Unit)} (h : laidMet Tryd.prog l W) (hm : ("annals/annalsref2.hidden", Rows.laid_annals_annalsref2_hidden) ∈ l) : TabP 0 .i64 hids W :=
  tabP_of_reads gRHids gRHidsT Tryd.underlying91 rfl cPair (pair_elem W) (Lib.laidMet.reads h hm)
def lay_rhids : Obj → Obj := layP .i64 hids
end Go.Proofs.YtbabckchfabbkaaDoor
