/-
  Package lift: the table of ways.
-/
import Derived.Test.YtfkkjhcfmncieaaDoorLsD
import Derived.Test.YtfkkjhcfmncieaaDoorRows
import Derived.Lib.LaidU8
import Derived.ChangeMaps5
import Derived.ProofKit
import Derived.OpenShut
import Derived.ShutString
import Derived.ChangeOld
import Derived.Deep.DeepHandedRow
import Derived.Deep.Strs
namespace Go.Proofs.YtfkkjhcfmncieaaDoor
open Go Go.RowKit

theorem gWays : Tryd.prog.globalNamed "annals/lift.ways" = some 0 := by kernel_rfl
theorem gWaysT : (Tryd.prog.globals[0]?).map (·.type) = some 34 := by kernel_rfl
theorem cWay : Tryd.prog.cellsOf 33 = 3 := by kernel_rfl
theorem cInt : Tryd.prog.cellsOf 3 = 1 := by kernel_rfl
theorem cStr : Tryd.prog.cellsOf 9 = 1 := by kernel_rfl
theorem way_of {cs : List Value} {fuel : Nat} {W : World} {f t : Int} {s : List UInt8} {p : List MemPlace}
    (h : DataW.trod (fun _ => ()) Tryd.prog W 0 (fun _ => true) false fuel 33 cs = some (.agg [.lit (.int .i64 f), .lit (.int .i64 t), .lit (.string s)], p)) : cs = [.int .i64 f, .int .i64 t, .string ⟨s.toArray⟩] := by
  obtain ⟨y0, y1, y2, n, hx, hl, g0, g1, g2⟩ := Go.Deep.trod_struct3 Tryd.underlying33 h
  simp only [cInt, cStr] at g0 g1 g2
  obtain ⟨z0, e0, q0, _⟩ := DataW.trod_int Tryd.underlying3 g0
  obtain ⟨z1, e1, q1, _⟩ := DataW.trod_int Tryd.underlying3 g1
  obtain ⟨z2, e2, q2, _⟩ := DataW.trod_string Tryd.underlying9 g2
  subst q0 q1 q2
  simp only [Prod.mk.injEq, DataW.agg.injEq, List.cons.injEq, DataW.lit.injEq, Lit.int.injEq, Lit.string.injEq, true_and, and_true] at hx
  obtain ⟨⟨rfl, rfl, rfl⟩, _⟩ := hx
  rw [cWay] at hl
  match cs, hl with
  | [a, b, c], _ =>
    simp at e0 e1 e2
    subst e0 e1 e2
    rfl
theorem ways_of {W : World} {l : List (String × DataW Unit)} (h : laidMet Tryd.prog l W) (hm : ("annals/lift.ways", Rows.laid_annals_lift_ways) ∈ l) : WaysT W := by
  obtain ⟨g', t', cs, fuel, p, hg', ht', hvar, hd⟩ := Lib.laidMet.reads h hm
  obtain rfl := Option.some.inj (gWays.symm.trans hg')
  obtain rfl := Option.some.inj (gWaysT.symm.trans ht')
  have key : ∀ i, i < 4 → ∃ L s, (Rows.laid_annals_lift_ways : DataW Unit) = .agg L ∧ L[i]? = some (.agg [.lit (.int .i64 (wF i)), .lit (.int .i64 (wT i)), .lit (.string s)]) ∧ (⟨s.toArray⟩ : ByteArray) = wN i := by
    intro i hi
    obtain rfl | rfl | rfl | rfl : i = 0 ∨ i = 1 ∨ i = 2 ∨ i = 3 := by omega
    all_goals exact ⟨_, _, rfl, rfl, rfl⟩
  have hrow : ∀ i, i < 4 → (cs.toList.drop (i * 3)).take 3 = [.int .i64 (wF i), .int .i64 (wT i), .string (wN i)] := by
    intro i hi
    obtain ⟨L, s, e1, e2, e3⟩ := key i hi
    have hd' := hd
    rw [e1] at hd'
    obtain ⟨f1, d1, q1, hd1, hr1⟩ := Lib.array_elem Tryd.underlying34 hd' i hi
    rw [e2] at hd1
    obtain rfl := Option.some.inj hd1
    rw [cWay] at hr1
    rw [way_of hr1, e3]
  intro m v hv
  rw [Nat.zero_add, World.var?_cell gWays hvar, ← Array.getElem?_toList]
  have hm12 : m < 12 := (List.getElem?_eq_some_iff.1 hv).1
  have h1 := congrArg (·[m % 3]?) (hrow (m / 3) (by omega))
  simp only [List.getElem?_take, List.getElem?_drop] at h1
  rw [if_pos (by omega), show m / 3 * 3 + m % 3 = m by omega] at h1
  rw [h1, ← hv]
  obtain rfl | rfl | rfl | rfl | rfl | rfl | rfl | rfl | rfl | rfl | rfl | rfl : m = 0 ∨ m = 1 ∨ m = 2 ∨ m = 3 ∨ m = 4 ∨ m = 5 ∨ m = 6 ∨ m = 7 ∨ m = 8 ∨ m = 9 ∨ m = 10 ∨ m = 11 := by omega
  all_goals rfl
/-- For the witness: the table's block holds what its initialiser lays. -/
def lay_ways : Obj → Obj
  | .cells _ ty frozen => .cells ((List.range 4).flatMap fun k => [Value.int .i64 (wF k), .int .i64 (wT k), .string (wN k)]).toArray ty frozen
  | o => o
theorem own : ownKnob Tryd.prog.godebug = none := by kernel_rfl
theorem laidOut : laidOutB Tryd.prog = true := by kernel_rfl
theorem liftStepsW_any (a b : Int) (w : World) (hT : WaysT w) (_h0 : (Lit.int .i64 a).wf = true) (_h1 : (Lit.int .i64 b).wf = true) :
    Calls Tryd.prog 3 #[.int .i64 a, .int .i64 b] w fun e w' => e = .returned (.bool true) ∧ Below w.heap.size w w' := liftSteps_any a b w hT
end Go.Proofs.YtfkkjhcfmncieaaDoor
