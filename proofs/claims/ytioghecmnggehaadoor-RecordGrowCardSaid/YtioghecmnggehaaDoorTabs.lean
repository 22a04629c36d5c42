/-
  Tables of pairs: from the row's condition to the cells.
-/
import Derived.Test.YtioghecmnggehaaDoorLet
import Derived.Test.YtioghecmnggehaaDoorRows
import Derived.Lib.LaidU8
import Derived.ChangeMaps5
import Derived.ProofKit
import Derived.OpenShut
import Derived.ShutString
import Derived.ChangeOld
import Derived.Deep.DeepHandedRow
namespace Go.Proofs.YtioghecmnggehaaDoor.Text
open Go Go.RowKit
open Tx

def pairData (k : IntKind) (t : List (Int × Int)) : DataW Unit := .agg (t.map fun p => .agg ([p.1, p.2].map fun z => .lit (.int k z)))
theorem tabP_of_reads {P : Program} {W : World} {name : String} {g : Nat} {ty te : TypeId} {n : Nat} {k : IntKind} {t : List (Int × Int)} (hg : P.globalNamed name = some g) (hty : (P.globals[g]?).map (·.type) = some ty) (ht : P.underlying ty = some (.array n te)) (hn : t.length = n) (hc : P.cellsOf te = 2)
    (he : ∀ fuel cs q (zs : List Int), DataW.trod (fun _ => ()) P W 0 (fun _ => true) false fuel te cs = some (.agg (zs.map fun z => .lit (.int k z)), q) → cs = zs.map fun z => Value.int k z)
    (h : Lib.VarReads P W name (pairData k t)) : TabP g k t W := by
  obtain ⟨g', t', cs, fuel, p, hg', ht', hvar, hd⟩ := h
  obtain rfl := Option.some.inj (hg.symm.trans hg')
  obtain rfl := Option.some.inj (hty.symm.trans ht')
  intro j hj
  have hl := flat_len t
  have hi : j / 2 < t.length := by omega
  obtain ⟨fuel', d, q, hds, hr⟩ := Lib.array_elem ht hd (j / 2) (by omega)
  rw [List.getElem?_map, List.getElem?_eq_getElem hi] at hds
  simp only [Option.map_some, Option.some.injEq] at hds
  subst hds
  rw [hc] at hr
  have e := he _ _ _ _ hr
  have hg2 := flat_get t (j / 2) hi
  have hjj := List.getElem?_eq_getElem hj
  rw [World.var?_cell hg hvar j, ← Array.getElem?_toList]
  rcases Nat.mod_two_eq_zero_or_one j with h0 | h1
  · have e1 : j = 2 * (j / 2) := by omega
    have e2 := congrArg (·[0]?) e
    simp only [List.getElem?_take, List.getElem?_drop] at e2
    rw [show j / 2 * 2 + 0 = j by omega] at e2
    have e3 : (flat t)[j]? = some t[j / 2].1 := by
      have := hg2.1
      rwa [← e1] at this
    rw [hjj] at e3
    rw [Option.some.inj e3]
    simpa using e2
  · have e1 : j = 2 * (j / 2) + 1 := by omega
    have e2 := congrArg (·[1]?) e
    simp only [List.getElem?_take, List.getElem?_drop] at e2
    rw [show j / 2 * 2 + 1 = j by omega] at e2
    have e3 : (flat t)[j]? = some t[j / 2].2 := by
      have := hg2.2
      rwa [← e1] at this
    rw [hjj] at e3
    rw [Option.some.inj e3]
    simpa using e2

theorem gLets : Tryd.prog.globalNamed "annals/text.letters" = some 1 := by kernel_rfl
theorem gLetsT : (Tryd.prog.globals[1]?).map (·.type) = some 85 := by kernel_rfl
theorem cSpan : Tryd.prog.cellsOf 84 = 2 := by kernel_rfl
theorem cRune : Tryd.prog.cellsOf 21 = 1 := by kernel_rfl
theorem cInt : Tryd.prog.cellsOf 3 = 1 := by kernel_rfl
theorem span_elem (W : World) : ∀ fuel cs q (zs : List Int), DataW.trod (fun _ => ()) Tryd.prog W 0 (fun _ => true) false fuel 84 cs = some (.agg (zs.map fun z => .lit (.int .i32 z)), q) → cs = zs.map fun z => Value.int .i32 z := by
  intro fuel cs q zs h
  refine Lib.ints_of_struct Tryd.underlying84 (fun i f hf => ?_) (by rw [cSpan]; rfl) h
  match i, hf with
  | 0, hf => cases hf; exact ⟨Tryd.underlying21, rfl, cRune⟩
  | 1, hf => cases hf; exact ⟨Tryd.underlying21, rfl, cRune⟩
theorem lets_of {W : World} {l : List (String × DataW Unit)} (h : laidMet Tryd.prog l W) (hm : ("annals/text.letters", Rows.laid_annals_text_letters) ∈ l) : TabP 1 .i32 lets W :=
  tabP_of_reads gLets gLetsT Tryd.underlying85 rfl cSpan (span_elem W) (Lib.laidMet.reads h hm)
/-- For the witness: a table's block holds what its initialiser lays. -/
def layP (k : IntKind) (t : List (Int × Int)) : Obj → Obj
  | .cells _ ty frozen => .cells ((flat t).map fun z => Value.int k z).toArray ty frozen
  | o => o
def lay_lets : Obj → Obj := layP .i32 lets
def lay_rlets : Obj → Obj := layP .i64 lets
theorem own : ownKnob Tryd.prog.godebug = none := by kernel_rfl
theorem laidOut : laidOutB Tryd.prog = true := by kernel_rfl
end Go.Proofs.YtioghecmnggehaaDoor.Text
