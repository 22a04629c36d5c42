/-
  The document's answer: annalsref1's Bytes, Int; the law package's 'started'.
-/
import Derived.Test.YtppgijgmhjfdfaaDoorRef1
import Derived.Test.YtppgijgmhjfdfaaDoorWalk8
import Derived.Test.YtppgijgmhjfdfaaDoorSameAll
namespace Go.Proofs.YtppgijgmhjfdfaaDoor
open Go Go.RowKit
open Wb

set_option maxHeartbeats 400000 in
theorem rbytes_any (v : Value) (l : List Nat) (w : World) (h : Bs w v l) (hlen : l.length ≤ 140737488355000) :
    Calls Tryd.prog 36 #[v] w fun e w' => ∃ v', e = .returned v' ∧ Own w.heap.size w' v' (Wn.uint l.length ++ l) ∧ Below w.heap.size w w' := by
  have hin := info5
  have hob := h
  obtain ⟨ao, cap, rfl, hl, hmx, _, _⟩ := h.shape
  go_enter Tryd.func36, Tryd.ntmps36
  go_wp2_with fail
  refine (ruint_any l.length _ (by omega)).mono ?_
  rintro e w1 ⟨v1, rfl, ho, b1⟩
  have hul := Wn.uint_len10 l.length (by omega)
  generalize eU : Wn.uint l.length = U at ho hul
  have EU : Hid (Wn.uint l.length = U) := eU
  clear eU
  obtain ⟨ao1, cap1, rfl, _⟩ := ho.bs.shape
  have h1 := hob.kept b1
  have hsz := b1.size
  clear hob h
  go_wp2_with (at_builtin; refine wpList_append _ rfl (.tmp 8) (.tmp 9) 25 rfl w.heap.size hin Tryd.underlying25 _ U rfl ho _ l rfl h1 (by omega) hsz ?_)
  intro v2 w2 ho2 b2 _
  have R : Hid (Own w.heap.size w2 v2 (Wn.uint l.length ++ l) ∧ Below w.heap.size w w2) := ⟨by rw [EU.out]; exact ho2, b1.trans b2⟩
  clear ho2 b2 b1 ho h1
  go_wp2
  go_ret
  exact ⟨_, rfl, R.out.1, R.out.2⟩

set_option maxHeartbeats 400000 in
theorem started_any (w : World) : Calls Tryd.prog 16 #[] w fun e w' => e = .returned (.bool true) ∧ Below w.heap.size w w' := by
  have HU : Hid (∃ U : List Nat, U = Wn.uint 300) := ⟨_, rfl⟩
  obtain ⟨U, eU⟩ := HU.out
  have EU : Hid (U = Wn.uint 300) := eU
  clear eU HU
  go_enter Tryd.func16, Tryd.ntmps16
  go_wp2_with fail
  refine (uint_any 300 _ (by decide)).mono ?_
  rw [← EU.out]
  rintro e w1 ⟨v1, rfl, ho, b1⟩
  obtain ⟨ao, cap, rfl, _⟩ := ho.bs.shape
  go_wp2_with fail
  refine (ruint_any 300 _ (by decide)).mono ?_
  rw [← EU.out]
  rintro e w2 ⟨v2, rfl, ho2, b2⟩
  obtain ⟨ao2, cap2, rfl, _⟩ := ho2.bs.shape
  have hA := ho.bs.kept b2
  have hC := ho2.bs
  have hb2 := andThen b1 b2
  clear ho ho2 b1 b2 EU
  go_wp2_with fail
  refine (same_ok _ _ U _ hA hC).mono ?_
  rintro e w3 ⟨rfl, b3⟩
  have hb3 := andThen hb2 b3
  clear hA hC hb2 b3
  go_wp2
  go_ret
  exact ⟨rfl, hb3⟩
end Go.Proofs.YtppgijgmhjfdfaaDoor
