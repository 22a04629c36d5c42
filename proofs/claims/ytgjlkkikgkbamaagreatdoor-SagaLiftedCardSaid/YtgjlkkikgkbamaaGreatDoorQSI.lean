import Derived.Test.YtgjlkkikgkbamaaGreatDoorQSH
/-
  SagaMay: the walk.
-/
namespace Go.Proofs.YtgjlkkikgkbamaaGreatDoor
open Go Go.RowKit
open Wb

theorem one_box (w : World) (t : TypeId) (Z D : List Value) (hl : D.length = Z.length) : LB ((w.alloc (.cells Z.toArray t)).setCells w.heap.size 0 D) w.heap.size t D ∧ Below w.heap.size w ((w.alloc (.cells Z.toArray t)).setCells w.heap.size 0 D) := ⟨(lb_new w Z t).sets D hl, below_cells (Nat.le_refl _) _ 0 _ (up0 _ _)⟩
theorem two_boxes (w : World) (t t2 : TypeId) (Z1 Z2 G D : List Value) (h1 : G.length = Z1.length) (h2 : D.length = Z2.length) : LB ((((w.alloc (.cells Z1.toArray t)).alloc (.cells Z2.toArray t2)).setCells w.heap.size 0 G).setCells (w.heap.size + 1) 0 D) w.heap.size t G ∧ LB ((((w.alloc (.cells Z1.toArray t)).alloc (.cells Z2.toArray t2)).setCells w.heap.size 0 G).setCells (w.heap.size + 1) 0 D) (w.heap.size + 1) t2 D ∧ Below w.heap.size w ((((w.alloc (.cells Z1.toArray t)).alloc (.cells Z2.toArray t2)).setCells w.heap.size 0 G).setCells (w.heap.size + 1) 0 D) := by
  obtain ⟨a, b, c⟩ := lb_new2 w Z1 Z2 t t2
  exact ⟨(a.sets G h1).others _ _ _ (by omega), (b.others _ _ _ (by omega)).sets D h2, below_cells (by omega) _ 0 _ (below_cells (Nat.le_refl _) _ 0 _ c)⟩
theorem sg1_good : chkS sg1 = true ∧ allowedP sg1 = [2] := by
  have hn : (Text.Tx.nmA buy).1 = 0 := by decide +kernel
  have hc : chkS sg1 = true := by
    rw [chkS_iff]
    refine ⟨⟨hn, ?_⟩, .inl ?_⟩
    · simp [sg1, shortP]
    · simp [Gd1, sg1]
  refine ⟨hc, ?_⟩
  rw [allowed_eq sg1 hc rfl]
  rfl
end Go.Proofs.YtgjlkkikgkbamaaGreatDoor
