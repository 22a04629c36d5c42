/-
  RecordFields: the law's walk.
-/
import Derived.Test.YtbmoghpeapdlaaaDoorRTabs
namespace Go.Proofs.YtbmoghpeapdlaaaDoor
open Go Go.RowKit

theorem fl17 : fl 1 7 = [1, 2] := by decide +kernel
theorem blwDrew {B : Nat} {a w : World} (h : Below B a w) (n : Nat) : Below B a (w.drewN n) := h.trans ⟨rfl, rfl, rfl, Nat.le_refl _, fun _ _ => rfl⟩
theorem sl_two (w : World) (t : TypeId) : SlI (w.alloc (.cells #[.int .i64 1, .int .i64 2] t)) (.slice (some ⟨w.heap.size, 0, none⟩) 2 2) [1, 2] := by
  refine ⟨_, 2, rfl, fun j hj => ⟨_, rfl, ?_⟩⟩
  rw [World.cell?_alloc_new]
  match j, hj with
  | 0, _ => rfl
  | 1, _ => rfl

set_option maxRecDepth 100000 in
set_option maxHeartbeats 1000000 in
theorem recordFields_any (v k : Int) (w : World) (hT : TagsT w) (hR : RowsT w) :
    Calls Tryd.prog 3 #[.int .i64 v, .int .i64 k] w fun e w' => e = .returned (.bool true) ∧ Below w.heap.size w w' := by
  have HT : Hid (∀ w', Below w.heap.size w w' → TagsT w') := fun w' hb => hT.kept hb
  have HR : Hid (∀ w', Below w.heap.size w w' → RowsT w') := fun w' hb => hR.kept hb
  obtain ⟨F, hF⟩ : ∃ F, fl v k = F := ⟨_, rfl⟩
  have HL : Hid (F.length ≤ 1000) := by have := fl_len v k; rw [hF] at this; show _ ≤ _; omega
  have HF : Hid (fl v k = F) := hF
  clear hF
  clear hT hR
  go_enter Tryd.func3, Tryd.ntmps3
  go_wp2_with fail
  refine (fields_any 1 7 _ (HT.out _ (Below.refl _ _))).mono ?_
  rw [fl17]
  rintro e w1 ⟨o1, rfl, r1, b1⟩
  have S1 := r1.sl
  clear r1
  obtain ⟨ao1, cap1, rfl, hc1⟩ := S1
  have HS1 : Hid (SlI w1 (.slice ao1 [1, 2].length cap1) [1, 2]) := ⟨ao1, cap1, rfl, hc1⟩
  clear hc1
  go_wp2_with fail
  refine (fields_any v k _ (HT.out _ b1)).mono ?_
  rw [HF.out]
  rintro e w2 ⟨o2, rfl, r2, b2⟩
  have S2 := r2.sl
  clear r2
  obtain ⟨ao2, cap2, rfl, hc2⟩ := S2
  have HS2 : Hid (SlI w2 (.slice ao2 F.length cap2) F) := ⟨ao2, cap2, rfl, hc2⟩
  clear hc2
  have HS1' : Hid (SlI w2 (.slice ao1 [1, 2].length cap1) [1, 2]) := HS1.out.kept b2
  have B2 := andThen b1 b2
  clear b1 b2 HS1
  go_wp2_with fail
  refine (same_any [1, 2] _ _ _ (HS1'.out.kept (up0 _ _)) (sl_two _ _) (by decide)).mono ?_
  rintro e w3 ⟨rfl, n3, hn3⟩
  have b3 : Below w2.heap.size w2 w3 := by rw [hn3]; exact blwDrew (up0 _ _) n3
  have HS2' : Hid (SlI w3 (.slice ao2 F.length cap2) F) := HS2.out.kept b3
  have B3 := andThen B2 b3
  clear hn3 b3 HS1' HS2 B2
  go_wp2_with fail
  refine (rfields_any v k _ (HR.out _ B3)).mono ?_
  rw [HF.out]
  rintro e w4 ⟨o4, rfl, r4, b4⟩
  have S4 := r4.sl
  clear r4
  obtain ⟨ao4, cap4, rfl, hc4⟩ := S4
  have HS4 : Hid (SlI w4 (.slice ao4 F.length cap4) F) := ⟨ao4, cap4, rfl, hc4⟩
  have HS5 : Hid (SlI w4 (.slice ao2 F.length cap2) F) := HS2'.out.kept b4
  have B4 := andThen B3 b4
  clear hc4 b4 HS2' B3
  go_wp2_with fail
  refine (same_any F _ _ _ HS5.out HS4.out HL.out).mono ?_
  rintro e w5 ⟨rfl, n5, hn5⟩
  have B5 : Below w.heap.size w w5 := by rw [hn5]; exact blwDrew B4 n5
  clear hn5 B4
  go_wp2
  go_ret
  exact ⟨rfl, B5⟩
theorem recordFieldsW_any (v k : Int) (w : World) (hR : RowsT w) (hT : TagsT w) (_h0 : (Lit.int .i64 v).wf = true) (_h1 : (Lit.int .i64 k).wf = true) :
    Calls Tryd.prog 3 #[.int .i64 v, .int .i64 k] w fun e w' => e = .returned (.bool true) ∧ Below w.heap.size w w' := recordFields_any v k w hT hR
end Go.Proofs.YtbmoghpeapdlaaaDoor
