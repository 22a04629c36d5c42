import Derived.Test.YtdnackjakfiffaaGreatDoorQE1
/-
  LiftEach: UpAll.
-/
namespace Go.Proofs.YtdnackjakfiffaaGreatDoor
open Go Go.RowKit
open Wb

/-- a list of records that was handed in -/
def RecsAt (w : World) (v : Value) (rs : List Rec) : Prop := ∃ ao cap, v = .slice ao rs.length cap ∧ rs.length ≤ maxLen ∧ ∀ k r, rs[k]? = some r → ∃ b off d, ao = some ⟨b, off, none⟩ ∧ w.rangeAt b (off + k * 12) (rcl (r, d)) ∧ Bs w d r.l
theorem RecsAt.kept {w w' : World} {v : Value} {rs : List Rec} (h : RecsAt w v rs) (hb : Below w.heap.size w w') : RecsAt w' v rs := by
  obtain ⟨ao, cap, e, hm, hc⟩ := h
  refine ⟨ao, cap, e, hm, fun k r hr => ?_⟩
  obtain ⟨b, off, d, e2, h1, h2⟩ := hc k r hr
  refine ⟨b, off, d, e2, fun j v hv => ?_, h2.kept hb⟩
  have h3 := h1 j v hv
  rw [hb.cell (World.block_lt_of_cell? w _ h3)]
  exact h3
structure RGood (rs : List Rec) : Prop where
  each : ∀ r ∈ rs, r.nm.size ≤ 140737488355000 ∧ r.x.fit
  few : rs.length * 120 ≤ 140737488355328
/-- what UpAll answers -/
def UaPost (to : Int) (rs : List Rec) (w : World) (e : Ending) (w' : World) : Prop := Below w.heap.size w w' ∧
  ((∃ ps v', (∀ r ∈ rs, (upP to r).1 = 0) ∧ e = .returned (.tuple #[v', .int .i64 0, .int .i64 0]) ∧ Outs w.heap.size w' v' ps ∧ ps.map Prod.fst = rs.map fun r => (upP to r).2) ∨
   ∃ k r, rs[k]? = some r ∧ (∀ q ∈ rs.take k, (upP to q).1 = 0) ∧ (upP to r).1 ≠ 0 ∧ e = .returned (.tuple #[.slice none 0 0, .int .i64 (k : Int), .int .i64 (upP to r).1]))
theorem new_range (w : World) (cs : Array Value) : (w.alloc (.cells cs 32)).rangeAt w.heap.size 0 cs.toList := by
  have h : (w.alloc (.cells cs 32)).heap[w.heap.size]? = some (.cells cs 32) := Array.getElem?_push_size
  have h2 := World.rangeAt_of_block h 0 cs.size
  simpa using h2
theorem new_range2 (w : World) (o : Obj) (cs : Array Value) : ((w.alloc o).alloc (.cells cs 32)).rangeAt (w.heap.size + 1) 0 cs.toList := by
  have h2 := World.rangeAt_of_block (heap2 w o (.cells cs 32)).2.1 0 cs.size
  simpa using h2
end Go.Proofs.YtdnackjakfiffaaGreatDoor
