import Derived.Test.YtcnnpohnfoaceaaGreatDoorRows
import Derived.Lib.LaidU8
import Derived.ChangeMaps5
import Derived.ProofKit
import Derived.OpenShut
import Derived.ShutString
import Derived.ChangeOld
import Derived.Deep.DeepHandedRow
import Derived.Test.YtcnnpohnfoaceaaGreatDoorQT1
/-
  Tables of pairs: from the row's condition to the cells.
-/
namespace Go.Proofs.YtcnnpohnfoaceaaGreatDoor.Text
open Go Go.RowKit
open Tx

def pairData (k : IntKind) (t : List (Int × Int)) : DataW Unit := .agg (t.map fun p => .agg ([p.1, p.2].map fun z => .lit (.int k z)))
theorem tabP_of_reads {P : Program} {W : World} {name : String} {g : Nat} {ty te : TypeId} {n : Nat} {k : IntKind} {t : List (Int × Int)} (hg : P.globalNamed name = some g) (hty : (P.globals[g]?).map (·.type) = some ty) (ht : P.underlying ty = some (.array n te)) (hn : t.length = n) (hc : P.cellsOf te = 2)
    (he : ∀ fuel cs q (zs : List Int), DataW.trod (fun _ => ()) P W 0 (fun _ => true) false fuel te cs = some (.agg (zs.map fun z => .lit (.int k z)), q) → cs = zs.map fun z => Value.int k z)
    (h : Lib.VarReads P W name (pairData k t)) : TabP g k t W := by
  obtain ⟨g', t', cs, fuel, p, hg', ht', hvar, hd⟩ := h
  obtain rfl := Option.some.inj (hg.symm.trans hg')
  obtain rfl := Option.some.inj (hty.symm.trans ht')
  intro j hj
  have hl := flat_len t
  have hi : j / 2 < t.length := by omega
  obtain ⟨fuel', d, q, hds, hr⟩ := Lib.array_elem ht hd (j / 2) (by omega)
  rw [List.getElem?_map, List.getElem?_eq_getElem hi] at hds
  simp only [Option.map_some, Option.some.injEq] at hds
  subst hds
  rw [hc] at hr
  have e := he _ _ _ _ hr
  have hg2 := flat_get t (j / 2) hi
  have hjj := List.getElem?_eq_getElem hj
  rw [World.var?_cell hg hvar j, ← Array.getElem?_toList]
  rcases Nat.mod_two_eq_zero_or_one j with h0 | h1
  · have e1 : j = 2 * (j / 2) := by omega
    have e2 := congrArg (·[0]?) e
    simp only [List.getElem?_take, List.getElem?_drop] at e2
    rw [show j / 2 * 2 + 0 = j by omega] at e2
    have e3 : (flat t)[j]? = some t[j / 2].1 := by
      have := hg2.1
      rwa [← e1] at this
    rw [hjj] at e3
    rw [Option.some.inj e3]
    simpa using e2
  · have e1 : j = 2 * (j / 2) + 1 := by omega
    have e2 := congrArg (·[1]?) e
    simp only [List.getElem?_take, List.getElem?_drop] at e2
    rw [show j / 2 * 2 + 1 = j by omega] at e2
    have e3 : (flat t)[j]? = some t[j / 2].2 := by
      have := hg2.2
      rwa [← e1] at this
    rw [hjj] at e3
    rw [Option.some.inj e3]
    simpa using e2

theorem gLets : Tryz.prog.globalNamed "annals/text.letters" = some 0 := by kernel_rfl
theorem gRLets : Tryz.prog.globalNamed "annals/annalsref2.letters" = some 1 := by kernel_rfl
theorem gLetsT : (Tryz.prog.globals[0]?).map (·.type) = some 119 := by kernel_rfl
theorem gRLetsT : (Tryz.prog.globals[1]?).map (·.type) = some 129 := by kernel_rfl
theorem cSpan : Tryz.prog.cellsOf 118 = 2 := by kernel_rfl
theorem cPair : Tryz.prog.cellsOf 128 = 2 := by kernel_rfl
theorem cRune : Tryz.prog.cellsOf 21 = 1 := by kernel_rfl
theorem cInt : Tryz.prog.cellsOf 3 = 1 := by kernel_rfl
theorem span_elem (W : World) : ∀ fuel cs q (zs : List Int), DataW.trod (fun _ => ()) Tryz.prog W 0 (fun _ => true) false fuel 118 cs = some (.agg (zs.map fun z => .lit (.int .i32 z)), q) → cs = zs.map fun z => Value.int .i32 z := by
  intro fuel cs q zs h
  refine Lib.ints_of_struct Tryz.underlying118 (fun i f hf => ?_) (by rw [cSpan]; rfl) h
  match i, hf with
  | 0, hf => cases hf; exact ⟨Tryz.underlying21, rfl, cRune⟩
  | 1, hf => cases hf; exact ⟨Tryz.underlying21, rfl, cRune⟩
theorem pair_elem (W : World) : ∀ fuel cs q (zs : List Int), DataW.trod (fun _ => ()) Tryz.prog W 0 (fun _ => true) false fuel 128 cs = some (.agg (zs.map fun z => .lit (.int .i64 z)), q) → cs = zs.map fun z => Value.int .i64 z := by
  intro fuel cs q zs h
  exact Lib.cells_of_tab Tryz.underlying128 Tryz.underlying3 cInt cPair h
theorem lets_of {W : World} {l : List (String × DataW Unit)} (h : laidMet Tryz.prog l W) (hm : ("annals/text.letters", Rows.laid_annals_text_letters) ∈ l) : TabP 0 .i32 lets W :=
  tabP_of_reads gLets gLetsT Tryz.underlying119 rfl cSpan (span_elem W) (Lib.laidMet.reads h hm)
theorem rlets_of {W : World} {l : List (String × DataW Unit)} (h : laidMet Tryz.prog l W) (hm : ("annals/annalsref2.letters", Rows.laid_annals_annalsref2_letters) ∈ l) : TabP 1 .i64 lets W :=
  tabP_of_reads gRLets gRLetsT Tryz.underlying129 rfl cPair (pair_elem W) (Lib.laidMet.reads h hm)
/-- For the witness: a table's block holds what its initialiser lays. -/
def layP (k : IntKind) (t : List (Int × Int)) : Obj → Obj
  | .cells _ ty frozen => .cells ((flat t).map fun z => Value.int k z).toArray ty frozen
  | o => o
def lay_lets : Obj → Obj := layP .i32 lets
def lay_rlets : Obj → Obj := layP .i64 lets
theorem own : ownKnob Tryz.prog.godebug = none := by kernel_rfl
theorem laidOut : laidOutB Tryz.prog = true := by kernel_rfl
end Go.Proofs.YtcnnpohnfoaceaaGreatDoor.Text

/-
  The tables that the literals' laws list.
-/
namespace Go.Proofs.YtcnnpohnfoaceaaGreatDoor.Text
open Go Go.RowKit
open Tx

theorem gHids : Tryz.prog.globalNamed "annals/text.hiddens" = some 7 := by kernel_rfl
theorem gHidsT : (Tryz.prog.globals[7]?).map (·.type) = some 172 := by kernel_rfl
theorem hids_of {W : World} {l : List (String × DataW Unit)} (h : laidMet Tryz.prog l W) (hm : ("annals/text.hiddens", Rows.laid_annals_text_hiddens) ∈ l) : TabP 7 .i32 hids W :=
  tabP_of_reads gHids gHidsT Tryz.underlying172 rfl cSpan (span_elem W) (Lib.laidMet.reads h hm)
theorem gDb64 : Tryz.prog.globalNamed "math/bits.deBruijn64tab" = some 9 := by kernel_rfl
theorem gDb64T : (Tryz.prog.globals[9]?).map (·.type) = some 179 := by kernel_rfl
theorem cU8 : Tryz.prog.cellsOf 5 = 1 := by kernel_rfl
theorem cDb64 : Tryz.prog.cellsOf 179 = 64 := by kernel_rfl
def db64 : List Int := [0, 1, 56, 2, 57, 49, 28, 3, 61, 58, 42, 50, 38, 29, 17, 4, 62, 47, 59, 36, 45, 43, 51, 22, 53, 39, 33, 30, 24, 18, 12, 5, 63, 55, 48, 27, 60, 41, 37, 16, 46, 35, 44, 21, 52, 32, 23, 11, 54, 26, 40, 15, 34, 20, 31, 10, 25, 14, 19, 9, 13, 8, 7, 6]
def db32 : List Int := [0, 1, 28, 2, 29, 14, 24, 3, 30, 22, 20, 15, 25, 17, 4, 8, 31, 27, 13, 23, 21, 19, 16, 7, 26, 12, 18, 6, 11, 5, 10, 9]
def pow10 : List Int := [1, 10, 100, 1000, 10000, 100000, 1000000, 10000000, 100000000, 1000000000, 10000000000, 100000000000, 1000000000000, 10000000000000, 100000000000000, 1000000000000000, 10000000000000000, 100000000000000000, 1000000000000000000, 10000000000000000000]
theorem db64_of {W : World} {l : List (String × DataW Unit)} (h : laidMet Tryz.prog l W) (hm : ("math/bits.deBruijn64tab", Rows.laid_math_bits_deBruijn64tab) ∈ l) : W.cell? ⟨9, 15, none⟩ = some (.int .u8 4) := by
  obtain ⟨g, t, cs, fuel, p, hg, ht, hvar, hd⟩ := Lib.laidMet.reads h hm
  obtain rfl := Option.some.inj (gDb64.symm.trans hg)
  obtain rfl := Option.some.inj (gDb64T.symm.trans ht)
  have hcs := Lib.cells_of_tab (k := .u8) (zs := db64) Tryz.underlying179 Tryz.underlying5 cU8 cDb64 hd
  rw [World.var?_cell hg hvar 15, ← Array.getElem?_toList, hcs]
  rfl
theorem db32_of {W : World} {l : List (String × DataW Unit)} (_h : laidMet Tryz.prog l W) (_hm : ("math/bits.deBruijn32tab", Rows.laid_math_bits_deBruijn32tab) ∈ l) : True := trivial
theorem pow10_of {W : World} {l : List (String × DataW Unit)} (_h : laidMet Tryz.prog l W) (_hm : ("internal/strconv.uint64pow10", Rows.laid_internal_strconv_uint64pow10) ∈ l) : True := trivial
def layI (k : IntKind) (zs : List Int) : Obj → Obj
  | .cells _ ty frozen => .cells (zs.map fun z => Value.int k z).toArray ty frozen
  | o => o
def lay_db32 : Obj → Obj := layI .u8 db32
def lay_db64 : Obj → Obj := layI .u8 db64
def lay_pow10 : Obj → Obj := layI .u64 pow10
def lay_hids : Obj → Obj := layP .i32 hids
end Go.Proofs.YtcnnpohnfoaceaaGreatDoor.Text

/-
  The reference's table of hidden runes.
-/
namespace Go.Proofs.YtcnnpohnfoaceaaGreatDoor.Text
open Go Go.RowKit
open Tx

theorem gRHids : Tryz.prog.globalNamed "annals/annalsref2.hidden" = some 2 := by kernel_rfl
theorem gRHidsT : (Tryz.prog.globals[2]?).map (·.type) = some 141 := by kernel_rfl
theorem rhids_of {W : World} {l : List (String × DataW Unit)} (h : laidMet Tryz.prog l W) (hm : ("annals/annalsref2.hidden", Rows.laid_annals_annalsref2_hidden) ∈ l) : TabP 2 .i64 hids W :=
  tabP_of_reads gRHids gRHidsT Tryz.underlying141 rfl cPair (pair_elem W) (Lib.laidMet.reads h hm)
def lay_rhids : Obj → Obj := layP .i64 hids
end Go.Proofs.YtcnnpohnfoaceaaGreatDoor.Text
