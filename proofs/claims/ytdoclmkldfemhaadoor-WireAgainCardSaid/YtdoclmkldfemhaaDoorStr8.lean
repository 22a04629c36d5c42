/-
  'stretches' at Sum and at Frame.
-/
import Derived.Test.YtdoclmkldfemhaaDoorRRf
namespace Go.Proofs.YtdoclmkldfemhaaDoor
open Go Go.RowKit Go.ChangeShapes Go.WideShapes
open Wb

theorem stretches_7 (u i a m : Int) (bv pv : Value) (ls : List (List Nat)) (w : World) (hT : Tab w) (h : Ps w pv ls) (hlen : ls.flatten.length ≤ 140737488355328) :
    Calls Tryd.prog 11 #[.agg #[.int .i64 7, .int .u64 u, .int .i64 i, .int .i64 a, .int .i64 m, bv, pv]] w fun e w' => e = .returned (.bool true) ∧ Below w.heap.size w w' := stretches_sum u i a m bv pv ls w hT h hlen

set_option maxHeartbeats 2000000 in
theorem stretches_8 (u i a m : Int) (bv pv : Value) (ls : List (List Nat)) (w : World) (hT : Tab w) (h : Ps w pv ls) (hlen : ls.flatten.length ≤ 140737488355328) :
    Calls Tryd.prog 11 #[.agg #[.int .i64 8, .int .u64 u, .int .i64 i, .int .i64 a, .int .i64 m, bv, pv]] w fun e w' => e = .returned (.bool true) ∧ Below w.heap.size w w' := by
  have HX : Hid (∀ w', Below _ _ w' → _) := box_cells w (.int .i64 8) (.int .u64 u) (.int .i64 i) (.int .i64 a) (.int .i64 m) bv pv
  have HP : Hid (∀ w', Below w.heap.size w w' → Ps w' pv ls) := fun w' hb => h.kept hb
  have HT : Hid (∀ w', Below w.heap.size w w' → Tab w') := fun w' hb => hT.kept hb
  obtain ⟨ao, cap, rfl, _⟩ := h.shape
  clear h hT
  by_cases c : 0 < ls.flatten.length ∧ ls.flatten.length ≤ 1048576
  · obtain ⟨c0, c1⟩ := c
    go_enter Tryd.func11, Tryd.ntmps11
    go_wp2_with fail
    refine (frame_ok _ ls _ (HT.out _ (up0 _ _)) (HP.out _ (up0 _ _)) c1 c0).mono ?_
    rintro e w1 ⟨v1, rfl, o1, b1⟩
    have B1 := andThen (up0 w _) b1
    obtain ⟨_, _, _, _, _, _, c6⟩ := HX.out w1 b1
    have ho1 := o1.bs
    clear b1 HX o1
    have HL : Hid (ls.flatten.length ≤ 140737488355328) := hlen
    generalize hf : ls.flatten = f at *
    have HF : Hid (ls.flatten = f) := hf
    clear hf hlen
    generalize hF : fr f = F at *
    have HFF : Hid (fr f = F) := hF
    clear hF
    obtain ⟨ao1, cap1, rfl, _⟩ := ho1.shape
    go_wp2_with fail
    refine (rjoin_any _ ls _ (HP.out _ B1) (by rw [HF.out]; exact HL.out)).mono ?_
    rw [HF.out]
    rintro e w2 ⟨v2, rfl, o2, b2⟩
    have B2 := andThen B1 b2
    have ho1' := ho1.kept b2
    have ho2 := o2.bs
    obtain ⟨ao2, cap2, rfl, _⟩ := o2.bs.shape
    clear b2 B1 ho1 o2 c6 HP HT
    go_wp2_with fail
    refine (rframe_ok _ f _ ho2 c0 c1).mono ?_
    rw [HFF.out]
    rintro e w3 ⟨v3, rfl, o3, b3⟩
    have B3 := andThen B2 b3
    have ho1 := ho1'.kept b3
    have ho3 := o3.bs
    obtain ⟨ao3, cap3, rfl, _⟩ := o3.bs.shape
    clear b3 B2 ho1' o3 ho2
    go_wp2_with fail
    refine (same_ok _ _ F _ ho1 ho3).mono ?_
    rintro e w4 ⟨rfl, b4⟩
    have B4 := andThen B3 b4
    clear b4 B3 ho1 ho3
    go_wp2_with fail
    refine (num_any 0 _ (by omega) (by omega)).mono ?_
    rintro e w5 ⟨rfl, rfl⟩
    go_wp2
    go_ret
    exact ⟨rfl, B4⟩
  · have HE : Hid (∃ er : Int, (er = 13 ∨ er = 14) ∧ ((1048576 < ls.flatten.length ∧ er = 13) ∨ (ls.flatten.length = 0 ∧ er = 14))) := by
      by_cases c0 : ls.flatten.length = 0
      · exact ⟨14, .inr rfl, .inr ⟨c0, rfl⟩⟩
      · exact ⟨13, .inl rfl, .inl ⟨by omega, rfl⟩⟩
    obtain ⟨er, her, hcs⟩ := HE.out
    have hr1 : 13 ≤ er := by omega
    have hr2 : er ≤ 14 := by omega
    have HCS : Hid ((1048576 < ls.flatten.length ∧ er = 13) ∨ (ls.flatten.length = 0 ∧ er = 14)) := hcs
    clear HE her hcs c
    go_enter Tryd.func11, Tryd.ntmps11
    go_wp2_with fail
    refine (frame_bad _ ls _ (HP.out _ (up0 _ _)) er HCS.out).mono ?_
    rintro e w1 ⟨rfl, rfl⟩
    clear HX
    have HL : Hid (ls.flatten.length ≤ 140737488355328) := hlen
    generalize hf : ls.flatten = f at *
    have HF : Hid (ls.flatten = f) := hf
    clear hf hlen
    go_wp2_with fail
    refine (rjoin_any _ ls _ (HP.out _ (up0 _ _)) (by rw [HF.out]; exact HL.out)).mono ?_
    rw [HF.out]
    rintro e w2 ⟨v2, rfl, o2, b2⟩
    have B2 := andThen (up0 w _) b2
    have ho2 := o2.bs
    obtain ⟨ao2, cap2, rfl, _⟩ := o2.bs.shape
    clear b2 o2 HP HT
    go_wp2_with fail
    refine (rframe_bad _ f _ ho2 er (by rcases HCS.out with h | h; exact .inr h; exact .inl h)).mono ?_
    rintro e w3 ⟨rfl, rfl⟩
    clear ho2 HCS
    go_wp2_with fail
    refine (same_ok _ _ [] _ (Bs.nil _) (Bs.nil _)).mono ?_
    rintro e w4 ⟨rfl, b4⟩
    have B4 := andThen B2 b4
    clear b4 B2
    go_wp2_with fail
    refine (num_any er _ (by omega) (by omega)).mono ?_
    rintro e w5 ⟨rfl, rfl⟩
    go_wp2
    go_ret
    exact ⟨rfl, B4⟩
end Go.Proofs.YtdoclmkldfemhaaDoor
