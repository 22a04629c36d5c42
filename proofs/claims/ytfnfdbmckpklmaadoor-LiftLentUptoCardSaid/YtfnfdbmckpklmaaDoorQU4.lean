import Derived.Deep.RegionHeldLaw
import Derived.Deep.RegionLaw
import Derived.Test.YtfnfdbmckpklmaaDoorQU1
/-
  The reference's guess.
-/
namespace Go.Proofs.YtfnfdbmckpklmaaDoor
open Go Go.RowKit
open Wb

/-- the record under way: its data is a row of its own -/
def Mid (w : World) (g : Nat) (x : Nums) (nm : ByteArray) (u : Value) (l : List Nat) : Prop := Box w g x nm u ∧ Own (g + 1) w u l
theorem heap3 (w : World) (o1 o2 o3 : Obj) : (((w.alloc o1).alloc o2).alloc o3).heap[w.heap.size]? = some o1 ∧ (((w.alloc o1).alloc o2).alloc o3).heap[w.heap.size + 1]? = some o2 ∧ (((w.alloc o1).alloc o2).alloc o3).heap[w.heap.size + 2]? = some o3 ∧ Below w.heap.size w (((w.alloc o1).alloc o2).alloc o3) ∧ (((w.alloc o1).alloc o2).alloc o3).heap.size = w.heap.size + 3 := by
  refine ⟨?_, ?_, ?_, up (up (up0 _ _) _) _, by rw [heap_one, heap_one, heap_one]⟩
  · rw [heap_old _ _ _ (by rw [heap_one, heap_one]; omega)]
    exact (heap2 w o1 o2).1
  · rw [heap_old _ _ _ (by rw [heap_one, heap_one]; omega)]
    exact (heap2 w o1 o2).2.1
  · have := heap_new ((w.alloc o1).alloc o2) o3
    rw [heap_one, heap_one] at this
    exact this
theorem box_d' {w : World} {g : Nat} {x : Nums} {nm : ByteArray} {d : Value} (h : Box w g x nm d) (z : Value) : Box (w.setCell ⟨g, 11, none⟩ z) g x nm z := by
  unfold Box at *
  simp [World.setCell, Array.getElem?_modify, h]
theorem box_to2 {w : World} {g : Nat} {x : Nums} {nm : ByteArray} {d : Value} (h : Box w g x nm d) (t a l n : Int) (nm2 : ByteArray) : Box (((((w.setCell ⟨g, 4, none⟩ (.int .i64 t)).setCell ⟨g, 5, none⟩ (.int .i64 a)).setCell ⟨g, 6, none⟩ (.int .i64 l)).setCell ⟨g, 8, none⟩ (.int .i64 n)).setCell ⟨g, 10, none⟩ (.string nm2)) g { x with t := t, a := a, l := l, n := n } nm2 d := by
  unfold Box at *
  simp [World.setCell, Array.getElem?_modify, h]
theorem box_to3 {w : World} {g : Nat} {x : Nums} {nm : ByteArray} {d : Value} (h : Box w g x nm d) (t a l n : Int) (nm2 : ByteArray) (c i : Int) : Box (((((((w.setCell ⟨g, 4, none⟩ (.int .i64 t)).setCell ⟨g, 5, none⟩ (.int .i64 a)).setCell ⟨g, 6, none⟩ (.int .i64 l)).setCell ⟨g, 8, none⟩ (.int .i64 n)).setCell ⟨g, 10, none⟩ (.string nm2)).setCell ⟨g, 7, none⟩ (.int .i64 c)).setCell ⟨g, 9, none⟩ (.int .i64 i)) g { x with t := t, a := a, l := l, c := c, n := n, i := i } nm2 d := by
  unfold Box at *
  simp [World.setCell, Array.getElem?_modify, h]
end Go.Proofs.YtfnfdbmckpklmaaDoor
