/-
  LiftEach: the law's walk.
-/
import Derived.Test.YtggenlnknnhjgaaLe2
import Derived.Deep.RegionHeld
namespace Go.Proofs.Ytggenlnknnhjgaa
open Go Go.RowKit
open Wb

theorem range_cells {w : World} {g o : Nat} {p : Rec × Value} (h : w.rangeAt g o (rcl p)) : (w.cell? ⟨g, o, none⟩ = some (.int .i64 p.1.x.v) ∧ w.cell? ⟨g, o + 1, none⟩ = some (.int .i64 p.1.x.k) ∧ w.cell? ⟨g, o + 2, none⟩ = some (.int .i64 p.1.x.s) ∧ w.cell? ⟨g, o + 3, none⟩ = some (.int .i64 p.1.x.p) ∧ w.cell? ⟨g, o + 4, none⟩ = some (.int .i64 p.1.x.t) ∧ w.cell? ⟨g, o + 5, none⟩ = some (.int .i64 p.1.x.a) ∧ w.cell? ⟨g, o + 6, none⟩ = some (.int .i64 p.1.x.l) ∧ w.cell? ⟨g, o + 7, none⟩ = some (.int .i64 p.1.x.c) ∧ w.cell? ⟨g, o + 8, none⟩ = some (.int .i64 p.1.x.n) ∧ w.cell? ⟨g, o + 9, none⟩ = some (.int .i64 p.1.x.i) ∧ w.cell? ⟨g, o + 10, none⟩ = some (.string p.1.nm) ∧ w.cell? ⟨g, o + 11, none⟩ = some (p.2)) := ⟨h 0 _ rfl, h 1 _ rfl, h 2 _ rfl, h 3 _ rfl, h 4 _ rfl, h 5 _ rfl, h 6 _ rfl, h 7 _ rfl, h 8 _ rfl, h 9 _ rfl, h 10 _ rfl, h 11 _ rfl⟩
theorem recEq_self (x : Nums) (nm : ByteArray) (l : List Nat) : recEq x x nm nm l l = true := by simp [recEq]
def oneR : Rec := ⟨⟨2, 7, 9, 0, 0, 0, 0, 0, 0, 0⟩, ⟨#[]⟩, []⟩
theorem one_fit : oneR.x.fit := fun t h1 h9 => by
  obtain rfl | rfl | rfl | rfl | rfl | rfl | rfl | rfl | rfl : t = 1 ∨ t = 2 ∨ t = 3 ∨ t = 4 ∨ t = 5 ∨ t = 6 ∨ t = 7 ∨ t = 8 ∨ t = 9 := by omega
  all_goals decide
end Go.Proofs.Ytggenlnknnhjgaa
