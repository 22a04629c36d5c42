/-
  The record laws' 'started'.
-/
import Derived.Test.YtioghecmnggehaaDoorRcM
import Derived.Test.YtioghecmnggehaaDoorReC
import Derived.Test.YtioghecmnggehaaDoorReD
namespace Go.Proofs.YtioghecmnggehaaDoor
open Go Go.RowKit
open Wb

def oneN : Nums := ⟨1, 7, 1, 0, 0, 0, 0, 0, 0, 0⟩
theorem enc_one : enc oneN ⟨#[]⟩ [] = [1, 7, 2, 1] := by kernel_rfl
theorem chk_one : chk oneN ⟨#[]⟩ [] = 0 := by kernel_rfl
theorem chk_zero : chk zeroNums ⟨#[]⟩ [] = 3 := by kernel_rfl
theorem dcd_one : dcd 1 [1, 7, 2, 1] = (0, ⟨⟨1, 7, 1, 0, 0, 0, 0, 0, 0, 0⟩, [], []⟩) := by kernel_rfl
theorem nice_one : oneN.nice := ⟨fun t h1 h9 _ => by
  obtain rfl | rfl | rfl | rfl | rfl | rfl | rfl | rfl | rfl : t = 1 ∨ t = 2 ∨ t = 3 ∨ t = 4 ∨ t = 5 ∨ t = 6 ∨ t = 7 ∨ t = 8 ∨ t = 9 := by omega
  all_goals decide, by decide, by decide⟩
theorem lit4 (w : World) (g : Nat) (hg : g = w.heap.size) : Bs (w.alloc (.cells #[.int .u8 1, .int .u8 7, .int .u8 2, .int .u8 1] 5)) (.slice (some ⟨g, 0, none⟩) 4 4) [1, 7, 2, 1] := by
  subst hg
  exact (Own.lit (B := 0) w [1, 7, 2, 1] (by unfold ok; decide) (Nat.zero_le _) (by decide) #[.int .u8 1, .int .u8 7, .int .u8 2, .int .u8 1] rfl).bs
set_option maxRecDepth 100000 in
set_option maxHeartbeats 4000000 in
theorem started_any (w : World) (hT : Text.TabP 1 .i32 Text.Tx.lets w) (hG : TagsT w) :
    Calls Tryd.prog 10 #[] w fun e w' => e = .returned (.bool true) ∧ Below w.heap.size w w' := by
  have HX : Hid (∀ o, (w.alloc o).heap[w.heap.size]? = some o ∧ Below w.heap.size w (w.alloc o)) := fun o => ⟨Array.getElem?_push_size, up0 w o⟩
  have HEN : Hid (∀ w', Below w.heap.size w w' → Calls Tryd.prog 13 #[.agg #[.int .i64 1, .int .i64 7, .int .i64 1, .int .i64 0, .int .i64 0, .int .i64 0, .int .i64 0, .int .i64 0, .int .i64 0, .int .i64 0, .string ⟨#[]⟩, .slice none 0 0]] w' fun e w'' => ∃ ao, ∃ cap : Nat, e = .returned (.tuple #[.slice ao 4 cap, .int .i64 0]) ∧ Bs w'' (.slice ao 4 cap) [1, 7, 2, 1] ∧ Below w'.heap.size w' w'') := fun w' hb => (encode_ok oneN ⟨#[]⟩ (.slice none 0 0) [] w' (Bs.nil w') (hT.kept hb) (hG.kept hb) (by decide) (by decide) nice_one chk_one).mono fun e w'' ⟨ao, cap, he, ho, hb'⟩ => by
    rw [enc_one] at he ho
    exact ⟨ao, cap, he, ho.bs, hb'⟩
  have HSZ : Hid (∀ w', Below w.heap.size w w' → Calls Tryd.prog 15 #[.agg #[.int .i64 1, .int .i64 7, .int .i64 1, .int .i64 0, .int .i64 0, .int .i64 0, .int .i64 0, .int .i64 0, .int .i64 0, .int .i64 0, .string ⟨#[]⟩, .slice none 0 0]] w' fun e w'' => e = .returned (.tuple #[.int .i64 4, .int .i64 0]) ∧ Below w'.heap.size w' w'') := fun w' hb => (size_ok oneN ⟨#[]⟩ (.slice none 0 0) [] w' (Bs.nil w') (hT.kept hb) (hG.kept hb) (by decide) (by decide) nice_one chk_one).mono fun e w'' ⟨he, hb'⟩ => by
    rw [enc_one] at he
    exact ⟨he, hb'⟩
  have HDE : Hid (∀ w' g, Below w.heap.size w w' → Bs w' (.slice (some ⟨g, 0, none⟩) 4 4) [1, 7, 2, 1] → Calls Tryd.prog 7 #[.int .i64 1, .slice (some ⟨g, 0, none⟩) 4 4] w' fun e w'' => ∃ ao, ∃ cap : Nat, e = .returned (.tuple #[.agg #[.int .i64 1, .int .i64 7, .int .i64 1, .int .i64 0, .int .i64 0, .int .i64 0, .int .i64 0, .int .i64 0, .int .i64 0, .int .i64 0, .string ⟨#[]⟩, .slice ao 0 cap], .int .i64 0]) ∧ Bs w'' (.slice ao 0 cap) [] ∧ Below w'.heap.size w' w'') := fun w' g hb hl => (decode_any 1 _ _ w' hl (by decide) (hT.kept hb) (hG.kept hb) _ dcd_one).mono fun e w'' ⟨ao, cap, he, ho, hb'⟩ => ⟨ao, cap, he, ho.bs, hb'⟩
  have HCK : Hid (∀ w', Below w.heap.size w w' → Calls Tryd.prog 11 #[.agg #[.int .i64 1, .int .i64 7, .int .i64 1, .int .i64 0, .int .i64 0, .int .i64 0, .int .i64 0, .int .i64 0, .int .i64 0, .int .i64 0, .string ⟨#[]⟩, .slice none 0 0]] w' fun e w'' => e = .returned (.int .i64 0) ∧ Below w'.heap.size w' w'') := fun w' hb => by
    have h := check_any oneN ⟨#[]⟩ (.slice none 0 0) [] w' (Bs.nil w') (hT.kept hb) (hG.kept hb) (by decide)
    rwa [chk_one] at h
  have HCZ : Hid (∀ w', Below w.heap.size w w' → Calls Tryd.prog 11 #[.agg #[.int .i64 0, .int .i64 0, .int .i64 0, .int .i64 0, .int .i64 0, .int .i64 0, .int .i64 0, .int .i64 0, .int .i64 0, .int .i64 0, .string ⟨#[]⟩, .slice none 0 0]] w' fun e w'' => e = .returned (.int .i64 3) ∧ Below w'.heap.size w' w'') := fun w' hb => by
    have h := check_any zeroNums ⟨#[]⟩ (.slice none 0 0) [] w' (Bs.nil w') (hT.kept hb) (hG.kept hb) (by decide)
    rwa [chk_zero] at h
  have HRS : Hid (∀ w' ao (cap : Nat), Bs w' (.slice ao 0 cap) [] → Calls Tryd.prog 23 #[.agg #[.int .i64 1, .int .i64 7, .int .i64 1, .int .i64 0, .int .i64 0, .int .i64 0, .int .i64 0, .int .i64 0, .int .i64 0, .int .i64 0, .string ⟨#[]⟩, .slice none 0 0], .agg #[.int .i64 1, .int .i64 7, .int .i64 1, .int .i64 0, .int .i64 0, .int .i64 0, .int .i64 0, .int .i64 0, .int .i64 0, .int .i64 0, .string ⟨#[]⟩, .slice ao 0 cap]] w' fun e w'' => e = .returned (.bool true) ∧ Below w'.heap.size w' w'') := fun w' ao cap hb => (refsame_any oneN oneN ⟨#[]⟩ ⟨#[]⟩ _ _ [] [] w' (Bs.nil w') hb).mono fun e w'' ⟨he, hk⟩ => ⟨by rw [he]; simp [recEq], hk⟩
  clear hT hG
  go_enter Tryd.func10, Tryd.ntmps10
  go_wp2_with fail
  refine (HEN.out _ (HX.out _).2).mono ?_
  rintro e w1 ⟨ao1, cap1, rfl, hbs1, b1⟩
  have hbx1 : Box w1 w.heap.size oneN ⟨#[]⟩ (.slice none 0 0) := Box.kept (HX.out _).1 b1
  have B1 := andThen (HX.out _).2 b1
  clear b1 HX HEN
  obtain ⟨c0, c1, c2, c3, c4, c5, c6, c7, c8, c9, c10, c11⟩ := hbx1.cells
  unfold oneN at c0 c1 c2 c3 c4 c5 c6 c7 c8 c9
  go_wp2_with fail
  refine (HSZ.out _ B1).mono ?_
  rintro e w2 ⟨rfl, b2⟩
  clear c0 c1 c2 c3 c4 c5 c6 c7 c8 c9 c10 c11
  have hbx2 := hbx1.kept b2
  have hbs2 := hbs1.kept b2
  have B2 := andThen B1 b2
  clear hbx1 hbs1 B1 b2 HSZ
  go_wp2_with fail
  refine (HDE.out _ _ (up B2 _) (lit4 w2 _ rfl)).mono ?_
  rintro e w3 ⟨ao3, cap3, rfl, hbs3, b3⟩
  have hbx3 := (hbx2.kept (up0 _ _)).kept b3
  have hbs3' := (hbs2.alloc _).kept b3
  have B3 := andThen (up B2 _) b3
  clear hbx2 hbs2 B2 b3 HDE
  have HW4 : Hid (Box (w3.alloc (.cells #[.int .i64 1, .int .i64 7, .int .i64 1, .int .i64 0, .int .i64 0, .int .i64 0, .int .i64 0, .int .i64 0, .int .i64 0, .int .i64 0, .string ⟨#[]⟩, .slice ao3 0 cap3] 24)) w.heap.size oneN ⟨#[]⟩ (.slice none 0 0) ∧ Bs (w3.alloc (.cells #[.int .i64 1, .int .i64 7, .int .i64 1, .int .i64 0, .int .i64 0, .int .i64 0, .int .i64 0, .int .i64 0, .int .i64 0, .int .i64 0, .string ⟨#[]⟩, .slice ao3 0 cap3] 24)) (.slice ao1 4 cap1) [1, 7, 2, 1] ∧ Bs (w3.alloc (.cells #[.int .i64 1, .int .i64 7, .int .i64 1, .int .i64 0, .int .i64 0, .int .i64 0, .int .i64 0, .int .i64 0, .int .i64 0, .int .i64 0, .string ⟨#[]⟩, .slice ao3 0 cap3] 24)) (.slice ao3 0 cap3) [] ∧ Below w.heap.size w (w3.alloc (.cells #[.int .i64 1, .int .i64 7, .int .i64 1, .int .i64 0, .int .i64 0, .int .i64 0, .int .i64 0, .int .i64 0, .int .i64 0, .int .i64 0, .string ⟨#[]⟩, .slice ao3 0 cap3] 24)) ∧ Box (w3.alloc (.cells #[.int .i64 1, .int .i64 7, .int .i64 1, .int .i64 0, .int .i64 0, .int .i64 0, .int .i64 0, .int .i64 0, .int .i64 0, .int .i64 0, .string ⟨#[]⟩, .slice ao3 0 cap3] 24)) w3.heap.size oneN ⟨#[]⟩ (.slice ao3 0 cap3)) := ⟨hbx3.kept (up0 _ _), hbs3'.alloc _, hbs3.alloc _, up B3 _, Array.getElem?_push_size⟩
  clear hbx3 hbs3' hbs3 B3
  obtain ⟨c0, c1, c2, c3, c4, c5, c6, c7, c8, c9, c10, c11⟩ := HW4.out.1.cells
  unfold oneN at c0 c1 c2 c3 c4 c5 c6 c7 c8 c9
  go_wp2_with fail
  refine (HCK.out _ HW4.out.2.2.2.1).mono ?_
  rintro e w5 ⟨rfl, b5⟩
  clear c0 c1 c2 c3 c4 c5 c6 c7 c8 c9 c10 c11
  have hb5 : Box w5 w.heap.size oneN ⟨#[]⟩ (.slice none 0 0) ∧ Bs w5 (.slice ao1 4 cap1) [1, 7, 2, 1] ∧ Bs w5 (.slice ao3 0 cap3) [] ∧ Below w.heap.size w w5 ∧ Box w5 w3.heap.size oneN ⟨#[]⟩ (.slice ao3 0 cap3) := ⟨HW4.out.1.kept b5, HW4.out.2.1.kept b5, HW4.out.2.2.1.kept b5, andThen HW4.out.2.2.2.1 b5, HW4.out.2.2.2.2.kept b5⟩
  clear HW4 b5 HCK
  generalize w3.heap.size = g3 at *
  obtain ⟨hbx, hbs, hbs0, B5, hbx3⟩ := hb5
  go_wp2_with fail
  refine (errnum_any 0 _).mono ?_
  rintro e w6 ⟨rfl, rfl⟩
  go_wp2_with fail
  refine (errnum_any 0 _).mono ?_
  rintro e w7 ⟨rfl, rfl⟩
  go_wp2_with fail
  refine (errnum_any 0 _).mono ?_
  rintro e w8 ⟨rfl, rfl⟩
  go_wp2_with fail
  refine (errnum_any 0 _).mono ?_
  rintro e w9 ⟨rfl, rfl⟩
  go_wp2_with fail
  refine (ralike_any _ _ [1, 7, 2, 1] [1, 7, 2, 1] _ (hbs.alloc _) (lit4 _ _ rfl)).mono ?_
  rintro e wa ⟨rfl, ba⟩
  have ba' := andThen (up0 _ _) ba
  have hbxa := hbx.kept ba'
  have hbx3a := hbx3.kept ba'
  have hbs0a := hbs0.kept ba'
  have Ba := andThen B5 ba'
  clear hbx hbs hbs0 B5 hbx3 ba ba'
  have ht : decide (([1, 7, 2, 1] : List Nat) = [1, 7, 2, 1]) = true := rfl
  rw [ht]
  clear ht
  obtain ⟨c0, c1, c2, c3, c4, c5, c6, c7, c8, c9, c10, c11⟩ := hbxa.cells
  obtain ⟨e0, e1, e2, e3, e4, e5, e6, e7, e8, e9, e10, e11⟩ := hbx3a.cells
  unfold oneN at c0 c1 c2 c3 c4 c5 c6 c7 c8 c9 e0 e1 e2 e3 e4 e5 e6 e7 e8 e9
  go_wp2_with fail
  refine (HRS.out _ _ _ hbs0a).mono ?_
  rintro e wb ⟨rfl, bb⟩
  have Bb := andThen Ba bb
  clear c0 c1 c2 c3 c4 c5 c6 c7 c8 c9 c10 c11 e0 e1 e2 e3 e4 e5 e6 e7 e8 e9 e10 e11 bb Ba hbxa hbx3a hbs0a
  go_wp2_with fail
  refine (HCZ.out _ Bb).mono ?_
  rintro e wc ⟨rfl, bc⟩
  have Bc := andThen Bb bc
  go_wp2_with fail
  refine (errnum_any 3 _).mono ?_
  rintro e wd ⟨rfl, rfl⟩
  go_wp2
  go_ret
  exact ⟨rfl, Bc⟩
end Go.Proofs.YtioghecmnggehaaDoor
