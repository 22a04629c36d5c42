/-
  Two blocks one behind the other.
-/
import Derived.Test.YtggenlnknnhjgaaRL3
namespace Go.Proofs.Ytggenlnknnhjgaa
open Go Go.RowKit
open Wb
theorem heap2 (w : World) (o1 o2 : Obj) : ((w.alloc o1).alloc o2).heap[w.heap.size]? = some o1 ∧ ((w.alloc o1).alloc o2).heap[w.heap.size + 1]? = some o2 ∧ Below w.heap.size w ((w.alloc o1).alloc o2) := by
  have e1 : (w.alloc o1).heap.size = w.heap.size + 1 := by
    show (w.heap.push o1).size = _
    rw [Array.size_push]
  refine ⟨?_, ?_, up (up0 _ _) _⟩
  · show ((w.alloc o1).heap.push o2)[w.heap.size]? = _
    rw [Array.getElem?_push, if_neg (by omega)]
    exact Array.getElem?_push_size
  · rw [← e1]
    exact Array.getElem?_push_size
end Go.Proofs.Ytggenlnknnhjgaa
