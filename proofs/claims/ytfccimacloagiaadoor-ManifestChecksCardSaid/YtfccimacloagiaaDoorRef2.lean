/-
  The document's answer: annalsref1's Bytes, Int; the law package's 'started'.
-/
import Derived.Test.YtfccimacloagiaaDoorRef1
import Derived.Test.YtfccimacloagiaaDoorWalk8
namespace Go.Proofs.YtfccimacloagiaaDoor
open Go Go.RowKit
open Wb

set_option maxHeartbeats 400000 in
theorem rbytes_any (v : Value) (l : List Nat) (w : World) (h : Bs w v l) (hlen : l.length ≤ 140737488355000) :
    Calls Tryd.prog 52 #[v] w fun e w' => ∃ v', e = .returned v' ∧ Own w.heap.size w' v' (Wn.uint l.length ++ l) ∧ Below w.heap.size w w' := by
  have hin := info5
  have hob := h
  obtain ⟨ao, cap, rfl, hl, hmx, _, _⟩ := h.shape
  go_enter Tryd.func52, Tryd.ntmps52
  go_wp2_with fail
  refine (ruint_any l.length _ (by omega)).mono ?_
  rintro e w1 ⟨v1, rfl, ho, b1⟩
  have hul := Wn.uint_len10 l.length (by omega)
  generalize eU : Wn.uint l.length = U at ho hul
  have EU : Hid (Wn.uint l.length = U) := eU
  clear eU
  obtain ⟨ao1, cap1, rfl, _⟩ := ho.bs.shape
  have h1 := hob.kept b1
  have hsz := b1.size
  clear hob h
  go_wp2_with (at_builtin; refine wpList_append _ rfl (.tmp 8) (.tmp 9) 25 rfl w.heap.size hin Tryd.underlying25 _ U rfl ho _ l rfl h1 (by omega) hsz ?_)
  intro v2 w2 ho2 b2 _
  have R : Hid (Own w.heap.size w2 v2 (Wn.uint l.length ++ l) ∧ Below w.heap.size w w2) := ⟨by rw [EU.out]; exact ho2, b1.trans b2⟩
  clear ho2 b2 b1 ho h1
  go_wp2
  go_ret
  exact ⟨_, rfl, R.out.1, R.out.2⟩

end Go.Proofs.YtfccimacloagiaaDoor
