import Derived.Deep.Matrix
import Derived.Test.YtabdfafffjgfiaaGreatDoorAS4
namespace Go.Proofs.YtabdfafffjgfiaaGreatDoor
open Go Go.RowKit Go.ChangeShapes Go.WideShapes Go.ChangeAt
open Wb

theorem cellsTI : Tryz.prog.cellsOf 3 = 1 := by kernel_rfl
theorem cellsTBOOL : Tryz.prog.cellsOf 4 = 1 := by kernel_rfl
theorem gKinds : Tryz.prog.globalNamed "annals/saga.kinds" = some 0 := by kernel_rfl
theorem gKindsT : (Tryz.prog.globals[0]?).map (·.type) = some 68 := by kernel_rfl
theorem cKind : Tryz.prog.cellsOf 67 = 2 := by kernel_rfl
set_option maxRecDepth 100000 in
theorem kind_of {cs : List Value} {fuel : Nat} {W : World} {f : Int} {b : Bool} {p : List MemPlace}
  (h : DataW.trod (fun _ => ()) Tryz.prog W 0 (fun _ => true) false fuel 67 cs = some (.agg [.lit (.int .i64 f), .lit (.bool b)], p)) : cs = [.int .i64 f, .bool b] := by
 obtain ⟨xs, k', _, hxy, hl, hxl, hfs⟩ := DataW.trod_struct Tryz.underlying67 h
 rw [cKind] at hl
 match xs, hxl, cs, hl with
 | [y0, y1], _, [v0, v1], _ =>
  have g0 := hfs 0 _ rfl
  have g1 := hfs 1 _ rfl
  simp [cellsTI, cellsTBOOL] at g0 g1
  obtain ⟨z0, e0, q0, _⟩ := DataW.trod_int Tryz.underlying3 g0
  obtain ⟨z1, e1, q1⟩ := DataW.trod_bool Tryz.underlying4 g1
  subst q0 q1
  simp only [Prod.mk.injEq, List.map_cons, List.map_nil, DataW.agg.injEq, List.cons.injEq, DataW.lit.injEq, Lit.int.injEq, Lit.bool.injEq, true_and, and_true] at hxy
  obtain ⟨⟨rfl, rfl⟩, _⟩ := hxy
  simp at e0 e1
  subst e0 e1
  rfl
theorem kinds_of {W : World} {l : List (String × DataW Unit)} (h : laidMet Tryz.prog l W) (hm : ("annals/saga.kinds", Rows.laid_annals_saga_kinds) ∈ l) : KindsT W := by
 obtain ⟨g', t', cs, fuel, p, hg', ht', hvar, hd⟩ := Lib.laidMet.reads h hm
 obtain rfl := Option.some.inj (gKinds.symm.trans hg')
 obtain rfl := Option.some.inj (gKindsT.symm.trans ht')
 have key : ∀ i : Nat, i < 8 → ∃ L, (Rows.laid_annals_saga_kinds : DataW Unit) = .agg L ∧ L[i]? = some (.agg [.lit (.int .i64 (kph i)), .lit (.bool (lands i))]) := by
  intro i hi
  obtain rfl | rfl | rfl | rfl | rfl | rfl | rfl | rfl : i = 0 ∨ i = 1 ∨ i = 2 ∨ i = 3 ∨ i = 4 ∨ i = 5 ∨ i = 6 ∨ i = 7 := by omega
  all_goals exact ⟨_, rfl, rfl⟩
 intro i hi
 obtain ⟨L, e1, e2⟩ := key i hi
 have hd' := hd
 rw [e1] at hd'
 obtain ⟨f1, d1, q1, hd1, hr1⟩ := Lib.array_elem Tryz.underlying68 hd' i hi
 rw [e2] at hd1
 obtain rfl := Option.some.inj hd1
 rw [cKind] at hr1
 have hrow := kind_of hr1
 constructor
 ·rw [World.var?_cell gKinds hvar, ← Array.getElem?_toList]
  have h1 := congrArg (·[0]?) hrow
  simp only [List.getElem?_take, List.getElem?_drop] at h1
  rw [if_pos (by omega), show i * 2 + 0 = 2 * i by omega] at h1
  rw [h1]; rfl
 ·rw [World.var?_cell gKinds hvar, ← Array.getElem?_toList]
  have h1 := congrArg (·[1]?) hrow
  simp only [List.getElem?_take, List.getElem?_drop] at h1
  rw [if_pos (by omega), show i * 2 + 1 = 2 * i + 1 by omega] at h1
  rw [h1]; rfl
def lay_kinds : Obj → Obj
 | .cells _ ty frozen => .cells ((List.range 8).flatMap fun k : Nat => [Value.int .i64 (kph (k : Int)), .bool (lands (k : Int))]).toArray ty frozen
 | o => o
end Go.Proofs.YtabdfafffjgfiaaGreatDoor
