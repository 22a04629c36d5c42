/-
  The law package's helper: join.
-/
import Derived.Test.YtnglcadhleefiaaDoorLaws1
import Derived.Test.YtnglcadhleefiaaDoorCrc
namespace Go.Proofs.YtnglcadhleefiaaDoor
open Go Go.RowKit
open Wb

set_option maxHeartbeats 400000 in
theorem join_any (v1 v2 v3 : Value) (l1 l2 l3 : List Nat) (w : World) (h1 : Bs w v1 l1) (h2 : Bs w v2 l2) (h3 : Bs w v3 l3) (hlen : l1.length + l2.length + l3.length ≤ 140737488355328) :
    Calls Tryd.prog 12 #[v1, v2, v3] w fun e w' => ∃ v', e = .returned v' ∧ Own w.heap.size w' v' (l1 ++ l2 ++ l3) ∧ Below w.heap.size w w' := by
  have hin := info5
  go_enter Tryd.func12, Tryd.ntmps12
  go_wp2_with (at_builtin; refine wpList_append _ rfl (.tmp 8) (.tmp 9) 22 rfl w.heap.size hin Tryd.underlying22 _ [] rfl (Own.nil _ _) _ l1 rfl h1 (by simp; omega) (Nat.le_refl _) ?_)
  intro va wa hoa hba _
  have h2a := h2.kept hba
  have sza := hba.size
  go_wp2_with (at_builtin; refine wpList_append _ rfl (.tmp 11) (.tmp 12) 22 rfl w.heap.size hin Tryd.underlying22 _ _ rfl hoa _ l2 rfl h2a (by first | omega | (simp; omega)) sza ?_)
  intro vb wb hob hbb _
  have h3b := h3.kept (hba.trans hbb)
  have szb := (hba.trans hbb).size
  go_wp2_with (at_builtin; refine wpList_append _ rfl (.tmp 14) (.tmp 15) 22 rfl w.heap.size hin Tryd.underlying22 _ _ rfl hob _ l3 rfl h3b (by first | omega | (simp; omega)) szb ?_)
  intro vc wc hoc hbc _
  have HF : Hid (Own w.heap.size wc vc (l1 ++ l2 ++ l3) ∧ Below w.heap.size w wc) := ⟨by simpa using hoc, (hba.trans hbb).trans hbc⟩
  clear hoa hba h2a hob hbb h3b hoc hbc
  go_wp2
  go_ret
  exact ⟨_, rfl, HF.out.1, HF.out.2⟩

end Go.Proofs.YtnglcadhleefiaaDoor
