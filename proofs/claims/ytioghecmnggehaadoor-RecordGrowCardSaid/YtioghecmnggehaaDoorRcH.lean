/-
  Package record: read, all tags.
-/
import Derived.Test.YtioghecmnggehaaDoorRcG
namespace Go.Proofs.YtioghecmnggehaaDoor
open Go Go.RowKit
open Wb

set_option maxRecDepth 100000 in
set_option maxHeartbeats 4000000 in
theorem read_b10 (v : Value) (b : List Nat) (p : Int) (t : Nat) (g : Nat) (q : Pts) (w : World) (h : Bs w v b) (hlen : b.length ≤ 140737488355328) (hp : Pl w g q) (ht : t = 10) (hv : ∀ w', Below g w w' → Bs w' v b) :
    Calls Tryd.prog 33 #[.pointer (some ⟨g, 0, none⟩), .int .i64 (t : Int), v, .int .i64 p] w fun e w' => e = .returned (.tuple #[.int .i64 (rdp b p t q).1, .int .i64 ((rdp b p t q).2.1 : Int)]) ∧ Pl w' g (rdp b p t q).2.2 ∧ Below g w w' := by
  obtain ⟨ao2, cap2, hbox, hown⟩ := hp
  have hgw : g < w.heap.size := (Array.getElem?_eq_some_iff.1 hbox).1
  have HRN : Hid (Calls Tryd.prog 44 #[v, .int .i64 p] w.drew fun e w' => e = .returned (.tuple #[.int .i64 (rn b p).1, .int .i64 (rn b p).2.1, .int .i64 ((rn b p).2.2 : Int)]) ∧ w' = w.drew) := rnum_any v b p w.drew h.drew hlen
  have HRI : Hid (Calls Tryd.prog 42 #[v, .int .i64 p] w fun e w' => e = .returned (.tuple #[.int .i64 (ri b p).1, .int .i64 (ri b p).2.1, .int .i64 ((ri b p).2.2 : Int)]) ∧ w = w') := readInt_any v b p w h hlen
  have HRB : Hid (∀ m : Int, m ≤ 9223372036854775807 → Calls Tryd.prog 43 #[v, .int .i64 p, .int .i64 m] w fun e w' => ∃ v', e = .returned (.tuple #[v', .int .i64 (rb b p m).2.1, .int .i64 ((rb b p m).2.2 : Int)]) ∧ Own w.heap.size w' v' (rb b p m).1 ∧ Below w.heap.size w w') := fun m hm => readBytes_any v b p m w h hlen hm
  obtain ⟨ao, cap, rfl, _⟩ := h.shape
  obtain ⟨c0, c1, c2, c3, c4, c5, c6, c7, c8, c9, c10, c11⟩ := hbox.cells
  have hfr := fun j => hbox.free j
  have HPL : Hid (∀ t z, 1 ≤ t → t ≤ 9 → Pl (w.setCell ⟨g, t, none⟩ (.int .i64 z)) g { q with x := q.x.put t z } ∧ Below g w (w.setCell ⟨g, t, none⟩ (.int .i64 z))) := fun t z a b => ⟨⟨ao2, cap2, hbox.put t a b z, Own.set hown ⟨g, t, none⟩ _ (Nat.lt_succ_self g)⟩, Below.setCell ((Below.refl _ w).mono (Nat.le_of_lt hgw)) (Nat.le_refl _) _⟩
  clear h hv
  subst ht
  have HE : Hid (rdp b p 10 q = ((rb b p 192).2.1, (rb b p 192).2.2, { q with nm := (rb b p 192).1 })) := rfl
  rw [HE.out]
  have HRB2 : Hid (Calls Tryd.prog 43 #[.slice ao b.length cap, .int .i64 p, .int .i64 192] w fun e w' => ∃ v', e = .returned (.tuple #[v', .int .i64 (rb b p 192).2.1, .int .i64 ((rb b p 192).2.2 : Int)]) ∧ Own w.heap.size w' v' (rb b p 192).1 ∧ Below w.heap.size w w') := HRB.out 192 (by decide)
  have HK : Hid (∀ w1, Below w.heap.size w w1 → PBox w1 g q.x (bstr q.nm) (.slice ao2 q.l.length cap2) ∧ Own (g + 1) w1 (.slice ao2 q.l.length cap2) q.l) := fun w1 hb => ⟨hbox.kept hb, hown.kept hb⟩
  clear HRN HRI HRB HE hfr hbox hown HPL c0 c1 c2 c3 c4 c5 c6 c7 c8 c9 c10 c11
  generalize rb b p 192 = R at *
  obtain ⟨r1, r2, r3⟩ := R
  simp only at *
  go_enter Tryd.func33, Tryd.ntmps33
  go_wp2_with fail
  refine HRB2.out.mono ?_
  rintro e w1 ⟨v1, rfl, ho1, b1⟩
  obtain ⟨ao1, cap1, rfl, _⟩ := ho1.bs.shape
  have hcv := conv_bs ho1.bs
  obtain ⟨hbx, how⟩ := HK.out _ b1
  have hcl := hbx.cells.2.2.2.2.2.2.2.2.2.2.1
  have hfz := hbx.free 10
  have HF : Hid (Pl (w1.setCell ⟨g, 10, none⟩ (.string (bstr r1))) g { q with nm := r1 } ∧ Below g w (w1.setCell ⟨g, 10, none⟩ (.string (bstr r1)))) := ⟨⟨ao2, cap2, hbx.name _, Own.set how ⟨g, 10, none⟩ _ (Nat.lt_succ_self g)⟩, Below.setCell (b1.mono (Nat.le_of_lt hgw)) (Nat.le_refl _) _⟩
  clear hbx how ho1 b1 HK HRB2
  go_wp2
  go_ret2
  exact ⟨rfl, HF.out.1, HF.out.2⟩
set_option maxRecDepth 100000 in
set_option maxHeartbeats 4000000 in
theorem read_b11 (v : Value) (b : List Nat) (p : Int) (t : Nat) (g : Nat) (q : Pts) (w : World) (h : Bs w v b) (hlen : b.length ≤ 140737488355328) (hp : Pl w g q) (ht : t = 11) (hv : ∀ w', Below g w w' → Bs w' v b) :
    Calls Tryd.prog 33 #[.pointer (some ⟨g, 0, none⟩), .int .i64 (t : Int), v, .int .i64 p] w fun e w' => e = .returned (.tuple #[.int .i64 (rdp b p t q).1, .int .i64 ((rdp b p t q).2.1 : Int)]) ∧ Pl w' g (rdp b p t q).2.2 ∧ Below g w w' := by
  obtain ⟨ao2, cap2, hbox, hown⟩ := hp
  have hgw : g < w.heap.size := (Array.getElem?_eq_some_iff.1 hbox).1
  have HRN : Hid (Calls Tryd.prog 44 #[v, .int .i64 p] w.drew fun e w' => e = .returned (.tuple #[.int .i64 (rn b p).1, .int .i64 (rn b p).2.1, .int .i64 ((rn b p).2.2 : Int)]) ∧ w' = w.drew) := rnum_any v b p w.drew h.drew hlen
  have HRI : Hid (Calls Tryd.prog 42 #[v, .int .i64 p] w fun e w' => e = .returned (.tuple #[.int .i64 (ri b p).1, .int .i64 (ri b p).2.1, .int .i64 ((ri b p).2.2 : Int)]) ∧ w = w') := readInt_any v b p w h hlen
  have HRB : Hid (∀ m : Int, m ≤ 9223372036854775807 → Calls Tryd.prog 43 #[v, .int .i64 p, .int .i64 m] w fun e w' => ∃ v', e = .returned (.tuple #[v', .int .i64 (rb b p m).2.1, .int .i64 ((rb b p m).2.2 : Int)]) ∧ Own w.heap.size w' v' (rb b p m).1 ∧ Below w.heap.size w w') := fun m hm => readBytes_any v b p m w h hlen hm
  obtain ⟨ao, cap, rfl, _⟩ := h.shape
  obtain ⟨c0, c1, c2, c3, c4, c5, c6, c7, c8, c9, c10, c11⟩ := hbox.cells
  have hfr := fun j => hbox.free j
  have HPL : Hid (∀ t z, 1 ≤ t → t ≤ 9 → Pl (w.setCell ⟨g, t, none⟩ (.int .i64 z)) g { q with x := q.x.put t z } ∧ Below g w (w.setCell ⟨g, t, none⟩ (.int .i64 z))) := fun t z a b => ⟨⟨ao2, cap2, hbox.put t a b z, Own.set hown ⟨g, t, none⟩ _ (Nat.lt_succ_self g)⟩, Below.setCell ((Below.refl _ w).mono (Nat.le_of_lt hgw)) (Nat.le_refl _) _⟩
  clear h hv
  subst ht
  have HE : Hid (rdp b p 11 q = ((rb b p 16384).2.1, (rb b p 16384).2.2, { q with l := (rb b p 16384).1 })) := rfl
  rw [HE.out]
  have HRB2 : Hid (Calls Tryd.prog 43 #[.slice ao b.length cap, .int .i64 p, .int .i64 16384] w fun e w' => ∃ v', e = .returned (.tuple #[v', .int .i64 (rb b p 16384).2.1, .int .i64 ((rb b p 16384).2.2 : Int)]) ∧ Own w.heap.size w' v' (rb b p 16384).1 ∧ Below w.heap.size w w') := HRB.out 16384 (by decide)
  have HK : Hid (∀ w1, Below w.heap.size w w1 → PBox w1 g q.x (bstr q.nm) (.slice ao2 q.l.length cap2) ∧ Own (g + 1) w1 (.slice ao2 q.l.length cap2) q.l) := fun w1 hb => ⟨hbox.kept hb, hown.kept hb⟩
  clear HRN HRI HRB HE hfr hbox hown HPL c0 c1 c2 c3 c4 c5 c6 c7 c8 c9 c10 c11
  generalize rb b p 16384 = R at *
  obtain ⟨r1, r2, r3⟩ := R
  simp only at *
  go_enter Tryd.func33, Tryd.ntmps33
  go_wp2_with fail
  refine HRB2.out.mono ?_
  rintro e w1 ⟨v1, rfl, ho1, b1⟩
  obtain ⟨ao1, cap1, rfl, _⟩ := ho1.bs.shape
  have hcv := conv_bs ho1.bs
  obtain ⟨hbx, how⟩ := HK.out _ b1
  have hcl := hbx.cells.2.2.2.2.2.2.2.2.2.2.2
  have hfz := hbx.free 11
  have HF : Hid (Pl (w1.setCell ⟨g, 11, none⟩ (.slice ao1 r1.length cap1)) g { q with l := r1 } ∧ Below g w (w1.setCell ⟨g, 11, none⟩ (.slice ao1 r1.length cap1))) := ⟨⟨ao1, cap1, hbx.data _, Own.set (ho1.mono hgw) ⟨g, 11, none⟩ _ (Nat.lt_succ_self g)⟩, Below.setCell (b1.mono (Nat.le_of_lt hgw)) (Nat.le_refl _) _⟩
  clear hbx how ho1 b1 HK HRB2
  go_wp2
  go_ret2
  exact ⟨rfl, HF.out.1, HF.out.2⟩
theorem read_any (v : Value) (b : List Nat) (p : Int) (t : Nat) (g : Nat) (q : Pts) (w : World) (h : Bs w v b) (hlen : b.length ≤ 140737488355328) (hp : Pl w g q) (h1 : 1 ≤ t) (h2 : t ≤ 11) (hv : ∀ w', Below g w w' → Bs w' v b) :
    Calls Tryd.prog 33 #[.pointer (some ⟨g, 0, none⟩), .int .i64 (t : Int), v, .int .i64 p] w fun e w' => e = .returned (.tuple #[.int .i64 (rdp b p t q).1, .int .i64 ((rdp b p t q).2.1 : Int)]) ∧ Pl w' g (rdp b p t q).2.2 ∧ Below g w w' := by
  obtain rfl | rfl | rfl | rfl | rfl | rfl | rfl | rfl | rfl | rfl | rfl : t = 1 ∨ t = 2 ∨ t = 3 ∨ t = 4 ∨ t = 5 ∨ t = 6 ∨ t = 7 ∨ t = 8 ∨ t = 9 ∨ t = 10 ∨ t = 11 := by omega
  · exact read_n1 v b p _ g q w h hlen hp rfl hv
  · exact read_n2 v b p _ g q w h hlen hp rfl hv
  · exact read_n3 v b p _ g q w h hlen hp rfl hv
  · exact read_n4 v b p _ g q w h hlen hp rfl hv
  · exact read_n5 v b p _ g q w h hlen hp rfl hv
  · exact read_n6 v b p _ g q w h hlen hp rfl hv
  · exact read_seven v b p _ g q w h hlen hp rfl hv
  · exact read_n8 v b p _ g q w h hlen hp rfl hv
  · exact read_n9 v b p _ g q w h hlen hp rfl hv
  · exact read_b10 v b p _ g q w h hlen hp rfl hv
  · exact read_b11 v b p _ g q w h hlen hp rfl hv
end Go.Proofs.YtioghecmnggehaaDoor
