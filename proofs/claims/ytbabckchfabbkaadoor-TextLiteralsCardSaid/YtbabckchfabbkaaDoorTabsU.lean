/-
  The tables that the literals' laws list.
-/
import Derived.Test.YtbabckchfabbkaaDoorTabs
namespace Go.Proofs.YtbabckchfabbkaaDoor
open Go Go.RowKit
open Tx

theorem gHids : Tryd.prog.globalNamed "annals/text.hiddens" = some 3 := by kernel_rfl
theorem gHidsT : (Tryd.prog.globals[3]?).map (·.type) = some 102 := by kernel_rfl
theorem hids_of {W : World} {l : List (String × DataW Unit)} (h : laidMet Tryd.prog l W) (hm : ("annals/text.hiddens", Rows.laid_annals_text_hiddens) ∈ l) : TabP 3 .i32 hids W :=
  tabP_of_reads gHids gHidsT Tryd.underlying102 rfl cSpan (span_elem W) (Lib.laidMet.reads h hm)
theorem gDb64 : Tryd.prog.globalNamed "math/bits.deBruijn64tab" = some 9 := by kernel_rfl
theorem gDb64T : (Tryd.prog.globals[9]?).map (·.type) = some 139 := by kernel_rfl
theorem cU8 : Tryd.prog.cellsOf 5 = 1 := by kernel_rfl
theorem cDb64 : Tryd.prog.cellsOf 139 = 64 := by kernel_rfl
def db64 : List Int := [0, 1, 56, 2, 57, 49, 28, 3, 61, 58, 42, 50, 38, 29, 17, 4, 62, 47, 59, 36, 45, 43, 51, 22, 53, 39, 33, 30, 24, 18, 12, 5, 63, 55, 48, 27, 60, 41, 37, 16, 46, 35, 44, 21, 52, 32, 23, 11, 54, 26, 40, 15, 34, 20, 31, 10, 25, 14, 19, 9, 13, 8, 7, 6]
def db32 : List Int := [0, 1, 28, 2, 29, 14, 24, 3, 30, 22, 20, 15, 25, 17, 4, 8, 31, 27, 13, 23, 21, 19, 16, 7, 26, 12, 18, 6, 11, 5, 10, 9]
def pow10 : List Int := [1, 10, 100, 1000, 10000, 100000, 1000000, 10000000, 100000000, 1000000000, 10000000000, 100000000000, 1000000000000, 10000000000000, 100000000000000, 1000000000000000, 10000000000000000, 100000000000000000, 1000000000000000000, 10000000000000000000]
theorem db64_of {W : World} {l : List (String × DataW Unit)} (h : laidMet Tryd.prog l W) (hm : ("math/bits.deBruijn64tab", Rows.laid_math_bits_deBruijn64tab) ∈ l) : W.cell? ⟨9, 15, none⟩ = some (.int .u8 4) := by
  obtain ⟨g, t, cs, fuel, p, hg, ht, hvar, hd⟩ := Lib.laidMet.reads h hm
  obtain rfl := Option.some.inj (gDb64.symm.trans hg)
  obtain rfl := Option.some.inj (gDb64T.symm.trans ht)
  have hcs := Lib.cells_of_tab (k := .u8) (zs := db64) Tryd.underlying139 Tryd.underlying5 cU8 cDb64 hd
  rw [World.var?_cell hg hvar 15, ← Array.getElem?_toList, hcs]
  rfl
theorem db32_of {W : World} {l : List (String × DataW Unit)} (_h : laidMet Tryd.prog l W) (_hm : ("math/bits.deBruijn32tab", Rows.laid_math_bits_deBruijn32tab) ∈ l) : True := trivial
theorem pow10_of {W : World} {l : List (String × DataW Unit)} (_h : laidMet Tryd.prog l W) (_hm : ("internal/strconv.uint64pow10", Rows.laid_internal_strconv_uint64pow10) ∈ l) : True := trivial
def layI (k : IntKind) (zs : List Int) : Obj → Obj
  | .cells _ ty frozen => .cells (zs.map fun z => Value.int k z).toArray ty frozen
  | o => o
def lay_db32 : Obj → Obj := layI .u8 db32
def lay_db64 : Obj → Obj := layI .u8 db64
def lay_pow10 : Obj → Obj := layI .u64 pow10
def lay_hids : Obj → Obj := layP .i32 hids
end Go.Proofs.YtbabckchfabbkaaDoor
