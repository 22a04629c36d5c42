/-
  An iterator over a string in any block.
-/
import Derived.Test.YtioghecmnggehaaDoorTxB
import Derived.Laws.AppendOwnNone
import Derived.Maps.AppendAt
import Derived.WalkSpells
import Derived.WalkLawsBesides
namespace Go.Proofs.YtioghecmnggehaaDoor.Text
open Go Go.RowKit
open Tx

/-- the iterator in block k stands at p -/
def setIter (w : World) (k : Nat) (s : ByteArray) (p : Nat) : World := { w with heap := w.heap.setIfInBounds k (.stringIter s p) }
theorem iter_at (w : World) (k : Nat) (s : ByteArray) (p : Nat) (o : Obj) (h : w.heap[k]? = some o) : (setIter w k s p).heap[k]? = some (.stringIter s p) := by
  obtain ⟨h1, _⟩ := Array.getElem?_eq_some_iff.1 h
  show (w.heap.setIfInBounds k _)[k]? = _
  rw [Array.getElem?_setIfInBounds_self_of_lt h1]
theorem run_next_at {P : Program} (w : World) (k : Nat) (s : ByteArray) (pos : Nat) (ty : TypeId) (hk : w.heap[k]? = some (.stringIter s pos)) (h : pos < s.size) :
    (Instr.next (.pointer (some ⟨k, 0, none⟩)) true ty).run P w = .ok (.tuple #[.bool true, .int .i64 pos, .int .i32 (Utf8.decode s pos).1]) (setIter w k s (pos + (Utf8.decode s pos).2)) := by
  simp only [Instr.next, getObj, setObj, Sem.run_bind, Sem.run, hk, Result.andThen, h, if_true]
  simp [goInt, setIter]
theorem run_next_over {P : Program} (w : World) (k : Nat) (s : ByteArray) (pos : Nat) (ty : TypeId) (hk : w.heap[k]? = some (.stringIter s pos)) (h : ¬ pos < s.size) :
    (Instr.next (.pointer (some ⟨k, 0, none⟩)) true ty).run P w = .ok (.tuple #[.bool false]) w := by
  simp [Instr.next, getObj, Sem.run, hk, h]
theorem below_iter {w wr : World} (h : Below w.heap.size w wr) (k : Nat) (hk : w.heap.size ≤ k) (s : ByteArray) (p : Nat) : Below w.heap.size w (setIter wr k s p) := by
  refine ⟨h.os, h.tape, h.output, ?_, fun j hj => ?_⟩
  · show w.heap.size ≤ (wr.heap.setIfInBounds k _).size
    rw [Array.size_setIfInBounds]
    exact h.size
  · show (wr.heap.setIfInBounds k _)[j]? = _
    rw [Array.getElem?_setIfInBounds_ne (by omega)]
    exact h.block j hj
theorem iter_pos {w : World} {k : Nat} {s : ByteArray} {p : Nat} (h : w.heap[k]? = some (.stringIter s p)) : w.iterPos k = p := by
  unfold World.iterPos
  rw [h]
theorem info_parts3 {P : Program} {t : TypeId} {z : Value} {a b : Nat} (h : (P.info? t).map (fun i => (i.zero, i.size, i.bytes)) = some (some z, a, b)) : ∃ i, P.info? t = some i ∧ i.zero = some z ∧ i.size = a ∧ i.bytes = b := by
  cases hq : P.info? t with
  | none => rw [hq] at h; simp at h
  | some i =>
    rw [hq] at h
    simp at h
    exact ⟨i, rfl, h.1, h.2.1, h.2.2⟩
end Go.Proofs.YtioghecmnggehaaDoor.Text
