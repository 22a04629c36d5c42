/-
  WireAgain: what each round leaves.
-/
import Derived.Test.YtdoclmkldfemhaaDoorAgain2
import Derived.Laws.MakeOwn
import Derived.OwnWalk
import Derived.Deep.MidRow
namespace Go.Proofs.YtdoclmkldfemhaaDoor
open Go Go.RowKit Go.ChangeShapes Go.WideShapes
open Wb

theorem made_bytes (n : Nat) : (madeCells #[Value.int .u8 0] n).toList = bv (List.replicate n 0) := by
  unfold madeCells bv
  apply List.ext_getElem?
  intro j
  by_cases hj : j < n
  · simp [hj]
    rw [Nat.mod_one]
    rfl
  · rw [List.getElem?_eq_none (by simp; omega), List.getElem?_eq_none (by simp; omega)]
theorem buf_made {w w1 : World} {N : Nat} (hown : w1.ownsRow w.heap.size 5 1 (.slice (some ⟨w.heap.size, 0, none⟩) N N) N (madeCells #[Value.int .u8 0] N).toList) : Buf w1 w.heap.size (List.replicate N 0) := by
  refine ⟨?_, fun x hx => by have := List.eq_of_mem_replicate hx; omega⟩
  rcases hown.2 with ⟨h1, _⟩ | ⟨g, c2, cur, hv, _, hg, _, _, hcs, htk⟩
  · cases h1
  · simp only [Value.slice.injEq, Option.some.injEq, Addr.mk.injEq, and_true, true_and] at hv
    obtain ⟨rfl, rfl⟩ := hv
    rw [hg]
    congr 2
    rw [made_bytes, List.take_of_length_le (by rw [Array.length_toList, hcs]; exact Nat.le_refl _)] at htk
    rw [← htk]
/-- the box of a round -/
def Box (w : World) (g : Nat) (kd u i a m : Int) (bv pv : Value) : Prop := w.heap[g]? = some (.cells #[.int .i64 kd, .int .u64 u, .int .i64 i, .int .i64 a, .int .i64 m, bv, pv] 27)
theorem Box.cells {w : World} {g : Nat} {kd u i a m : Int} {bv pv : Value} (h : Box w g kd u i a m bv pv) :
    w.cell? ⟨g, 0, none⟩ = some (.int .i64 kd) ∧ w.cell? ⟨g, 1, none⟩ = some (.int .u64 u) ∧ w.cell? ⟨g, 2, none⟩ = some (.int .i64 i) ∧ w.cell? ⟨g, 3, none⟩ = some (.int .i64 a) ∧ w.cell? ⟨g, 4, none⟩ = some (.int .i64 m) ∧ w.cell? ⟨g, 5, none⟩ = some bv ∧ w.cell? ⟨g, 6, none⟩ = some pv := by
  unfold Box at h
  simp [World.cell?, h]
theorem Box.frozen {w : World} {g : Nat} {kd u i a m : Int} {bv pv : Value} (h : Box w g kd u i a m bv pv) (j : Nat) : w.frozen? ⟨g, j, none⟩ = false := by
  unfold Box at h
  unfold World.frozen?
  rw [h]
  simp
theorem Box.kept {w w' : World} {g : Nat} {kd u i a m : Int} {bv pv : Value} (h : Box w g kd u i a m bv pv) (hb : Below w.heap.size w w') : Box w' g kd u i a m bv pv :=
  (hb.block g (Array.getElem?_eq_some_iff.1 h).1).trans h
theorem Box.grown {w w' : World} {g g' : Nat} {kd u i a m : Int} {bv pv : Value} (h : Box w g kd u i a m bv pv) (hb : w.grownBy w' (some g')) (hne : g ≠ g') : Box w' g kd u i a m bv pv :=
  (hb.block g (Array.getElem?_eq_some_iff.1 h).1 (fun e => hne (Option.some.inj e))).trans h
theorem Box.new (w : World) (kd u i a m : Int) (bv pv : Value) : Box (w.alloc (.cells #[.int .i64 kd, .int .u64 u, .int .i64 i, .int .i64 a, .int .i64 m, bv, pv] 27)) w.heap.size kd u i a m bv pv := by
  show (w.heap.push _)[w.heap.size]? = _
  simp
theorem buf_grown_other {w w' : World} {g : Nat} {l : List Nat} {o : Obj} (h : Buf w g l) (e : w' = w.alloc o) : Buf w' g l := by rw [e]; exact h.kept (up0 _ _)
theorem below_grown {w0 w w' : World} {g : Nat} (h : Below w0.heap.size w0 w) (hg : w.grownBy w' (some g)) (hk : w0.heap.size ≤ g) : Below w0.heap.size w0 w' :=
  h.grown hg h.size (fun k e => by have := Option.some.inj e; omega)
/-- the box with the buffer for its bytes -/
theorem Box.set5 {w : World} {g : Nat} {kd u i a m : Int} {bv pv : Value} (h : Box w g kd u i a m bv pv) (x : Value) : Box (w.setCell ⟨g, 5, none⟩ x) g kd u i a m x pv := Go.heap_setCell_same w g 5 _ _ x h
theorem buf_set5 {w : World} {g g' : Nat} {l : List Nat} {x : Value} (h : Buf w g l) (hne : g ≠ g') : Buf (w.setCell ⟨g', 5, none⟩ x) g l := ⟨(Below.heap_setCell w ⟨g', 5, none⟩ x g hne).trans h.heap, h.good⟩
theorem own_set5 {B : Nat} {w : World} {v x : Value} {l : List Nat} {g' : Nat} (h : Own B w v l) (hb : g' < B) : Own B (w.setCell ⟨g', 5, none⟩ x) v l := own_set h hb
end Go.Proofs.YtdoclmkldfemhaaDoor
