/-
  Package record: read.
-/
import Derived.Test.YtioghecmnggehaaDoorRcF
namespace Go.Proofs.YtioghecmnggehaaDoor
open Go Go.RowKit
open Wb

set_option maxRecDepth 100000 in
set_option maxHeartbeats 4000000 in
theorem read_seven (v : Value) (b : List Nat) (p : Int) (t : Nat) (g : Nat) (q : Pts) (w : World) (h : Bs w v b) (hlen : b.length ≤ 140737488355328) (hp : Pl w g q) (ht : t = 7) (hv : ∀ w', Below g w w' → Bs w' v b) :
    Calls Tryd.prog 33 #[.pointer (some ⟨g, 0, none⟩), .int .i64 (t : Int), v, .int .i64 p] w fun e w' => e = .returned (.tuple #[.int .i64 (rdp b p t q).1, .int .i64 ((rdp b p t q).2.1 : Int)]) ∧ Pl w' g (rdp b p t q).2.2 ∧ Below g w w' := by
  obtain ⟨ao2, cap2, hbox, hown⟩ := hp
  have hgw : g < w.heap.size := (Array.getElem?_eq_some_iff.1 hbox).1
  have HRN : Hid (Calls Tryd.prog 44 #[v, .int .i64 p] w.drew fun e w' => e = .returned (.tuple #[.int .i64 (rn b p).1, .int .i64 (rn b p).2.1, .int .i64 ((rn b p).2.2 : Int)]) ∧ w' = w.drew) := rnum_any v b p w.drew h.drew hlen
  have HRI : Hid (Calls Tryd.prog 42 #[v, .int .i64 p] w fun e w' => e = .returned (.tuple #[.int .i64 (ri b p).1, .int .i64 (ri b p).2.1, .int .i64 ((ri b p).2.2 : Int)]) ∧ w = w') := readInt_any v b p w h hlen
  have HRB : Hid (∀ m : Int, m ≤ 9223372036854775807 → Calls Tryd.prog 43 #[v, .int .i64 p, .int .i64 m] w fun e w' => ∃ v', e = .returned (.tuple #[v', .int .i64 (rb b p m).2.1, .int .i64 ((rb b p m).2.2 : Int)]) ∧ Own w.heap.size w' v' (rb b p m).1 ∧ Below w.heap.size w w') := fun m hm => readBytes_any v b p m w h hlen hm
  obtain ⟨ao, cap, rfl, _⟩ := h.shape
  obtain ⟨c0, c1, c2, c3, c4, c5, c6, c7, c8, c9, c10, c11⟩ := hbox.cells
  have hfr := fun j => hbox.free j
  have HPL : Hid (∀ t z, 1 ≤ t → t ≤ 9 → Pl (w.setCell ⟨g, t, none⟩ (.int .i64 z)) g { q with x := q.x.put t z } ∧ Below g w (w.setCell ⟨g, t, none⟩ (.int .i64 z))) := fun t z a b => ⟨⟨ao2, cap2, hbox.put t a b z, Own.set hown ⟨g, t, none⟩ _ (Nat.lt_succ_self g)⟩, Below.setCell ((Below.refl _ w).mono (Nat.le_of_lt hgw)) (Nat.le_refl _) _⟩
  clear h hv
  subst ht
  have HE : Hid (rdp b p 7 q = ((ri b p).2.1, (ri b p).2.2, { q with x := q.x.put 7 (ri b p).1 })) := rfl
  rw [HE.out]
  have hf7 := hfr 7
  clear HRN HRB HE hfr hbox hown
  generalize ri b p = R at *
  obtain ⟨r1, r2, r3⟩ := R
  simp only at *
  go_enter Tryd.func33, Tryd.ntmps33
  go_wp2_with fail
  refine HRI.out.mono ?_
  rintro e w1 ⟨rfl, rfl⟩
  go_wp2
  go_ret2
  exact ⟨rfl, (HPL.out 7 _ (by omega) (by omega)).1, (HPL.out 7 _ (by omega) (by omega)).2⟩
set_option maxRecDepth 100000 in
set_option maxHeartbeats 4000000 in
theorem read_n1 (v : Value) (b : List Nat) (p : Int) (t : Nat) (g : Nat) (q : Pts) (w : World) (h : Bs w v b) (hlen : b.length ≤ 140737488355328) (hp : Pl w g q) (ht : t = 1) (hv : ∀ w', Below g w w' → Bs w' v b) :
    Calls Tryd.prog 33 #[.pointer (some ⟨g, 0, none⟩), .int .i64 (t : Int), v, .int .i64 p] w fun e w' => e = .returned (.tuple #[.int .i64 (rdp b p t q).1, .int .i64 ((rdp b p t q).2.1 : Int)]) ∧ Pl w' g (rdp b p t q).2.2 ∧ Below g w w' := by
  obtain ⟨ao2, cap2, hbox, hown⟩ := hp
  have hgw : g < w.heap.size := (Array.getElem?_eq_some_iff.1 hbox).1
  have HRN : Hid (Calls Tryd.prog 44 #[v, .int .i64 p] w.drew fun e w' => e = .returned (.tuple #[.int .i64 (rn b p).1, .int .i64 (rn b p).2.1, .int .i64 ((rn b p).2.2 : Int)]) ∧ w' = w.drew) := rnum_any v b p w.drew h.drew hlen
  have HRI : Hid (Calls Tryd.prog 42 #[v, .int .i64 p] w fun e w' => e = .returned (.tuple #[.int .i64 (ri b p).1, .int .i64 (ri b p).2.1, .int .i64 ((ri b p).2.2 : Int)]) ∧ w = w') := readInt_any v b p w h hlen
  have HRB : Hid (∀ m : Int, m ≤ 9223372036854775807 → Calls Tryd.prog 43 #[v, .int .i64 p, .int .i64 m] w fun e w' => ∃ v', e = .returned (.tuple #[v', .int .i64 (rb b p m).2.1, .int .i64 ((rb b p m).2.2 : Int)]) ∧ Own w.heap.size w' v' (rb b p m).1 ∧ Below w.heap.size w w') := fun m hm => readBytes_any v b p m w h hlen hm
  obtain ⟨ao, cap, rfl, _⟩ := h.shape
  obtain ⟨c0, c1, c2, c3, c4, c5, c6, c7, c8, c9, c10, c11⟩ := hbox.cells
  have hfr := fun j => hbox.free j
  have HPL : Hid (∀ t z, 1 ≤ t → t ≤ 9 → Pl (w.setCell ⟨g, t, none⟩ (.int .i64 z)) g { q with x := q.x.put t z } ∧ Below g w (w.setCell ⟨g, t, none⟩ (.int .i64 z))) := fun t z a b => ⟨⟨ao2, cap2, hbox.put t a b z, Own.set hown ⟨g, t, none⟩ _ (Nat.lt_succ_self g)⟩, Below.setCell ((Below.refl _ w).mono (Nat.le_of_lt hgw)) (Nat.le_refl _) _⟩
  clear h hv
  subst ht
  have HE : Hid (rdp b p 1 q = ((rn b p).2.1, (rn b p).2.2, { q with x := q.x.put 1 (rn b p).1 })) := rfl
  rw [HE.out]
  have hf := hfr 1
  clear HRI HRB HE hfr hbox hown
  generalize rn b p = R at *
  obtain ⟨r1, r2, r3⟩ := R
  simp only at *
  go_enter Tryd.func33, Tryd.ntmps33
  go_wp2
  clear c0 c2 c3 c4 c5 c6 c7 c8 c9 c10 c11 hlen hgw
  have HP := HPL
  clear HPL
  go_region_with (go_at_call 44; refine HRN.out.mono ?_; rintro e w1 ⟨rfl, rfl⟩)
  all_goals
    go_wp2
    go_ret2
    exact ⟨rfl, (HP.out 1 _ (by omega) (by omega)).1.drewP, Below.drew (HP.out 1 _ (by omega) (by omega)).2⟩
set_option maxRecDepth 100000 in
set_option maxHeartbeats 4000000 in
theorem read_n2 (v : Value) (b : List Nat) (p : Int) (t : Nat) (g : Nat) (q : Pts) (w : World) (h : Bs w v b) (hlen : b.length ≤ 140737488355328) (hp : Pl w g q) (ht : t = 2) (hv : ∀ w', Below g w w' → Bs w' v b) :
    Calls Tryd.prog 33 #[.pointer (some ⟨g, 0, none⟩), .int .i64 (t : Int), v, .int .i64 p] w fun e w' => e = .returned (.tuple #[.int .i64 (rdp b p t q).1, .int .i64 ((rdp b p t q).2.1 : Int)]) ∧ Pl w' g (rdp b p t q).2.2 ∧ Below g w w' := by
  obtain ⟨ao2, cap2, hbox, hown⟩ := hp
  have hgw : g < w.heap.size := (Array.getElem?_eq_some_iff.1 hbox).1
  have HRN : Hid (Calls Tryd.prog 44 #[v, .int .i64 p] w.drew fun e w' => e = .returned (.tuple #[.int .i64 (rn b p).1, .int .i64 (rn b p).2.1, .int .i64 ((rn b p).2.2 : Int)]) ∧ w' = w.drew) := rnum_any v b p w.drew h.drew hlen
  have HRI : Hid (Calls Tryd.prog 42 #[v, .int .i64 p] w fun e w' => e = .returned (.tuple #[.int .i64 (ri b p).1, .int .i64 (ri b p).2.1, .int .i64 ((ri b p).2.2 : Int)]) ∧ w = w') := readInt_any v b p w h hlen
  have HRB : Hid (∀ m : Int, m ≤ 9223372036854775807 → Calls Tryd.prog 43 #[v, .int .i64 p, .int .i64 m] w fun e w' => ∃ v', e = .returned (.tuple #[v', .int .i64 (rb b p m).2.1, .int .i64 ((rb b p m).2.2 : Int)]) ∧ Own w.heap.size w' v' (rb b p m).1 ∧ Below w.heap.size w w') := fun m hm => readBytes_any v b p m w h hlen hm
  obtain ⟨ao, cap, rfl, _⟩ := h.shape
  obtain ⟨c0, c1, c2, c3, c4, c5, c6, c7, c8, c9, c10, c11⟩ := hbox.cells
  have hfr := fun j => hbox.free j
  have HPL : Hid (∀ t z, 1 ≤ t → t ≤ 9 → Pl (w.setCell ⟨g, t, none⟩ (.int .i64 z)) g { q with x := q.x.put t z } ∧ Below g w (w.setCell ⟨g, t, none⟩ (.int .i64 z))) := fun t z a b => ⟨⟨ao2, cap2, hbox.put t a b z, Own.set hown ⟨g, t, none⟩ _ (Nat.lt_succ_self g)⟩, Below.setCell ((Below.refl _ w).mono (Nat.le_of_lt hgw)) (Nat.le_refl _) _⟩
  clear h hv
  subst ht
  have HE : Hid (rdp b p 2 q = ((rn b p).2.1, (rn b p).2.2, { q with x := q.x.put 2 (rn b p).1 })) := rfl
  rw [HE.out]
  have hf := hfr 2
  clear HRI HRB HE hfr hbox hown
  generalize rn b p = R at *
  obtain ⟨r1, r2, r3⟩ := R
  simp only at *
  go_enter Tryd.func33, Tryd.ntmps33
  go_wp2
  clear c0 c1 c3 c4 c5 c6 c7 c8 c9 c10 c11 hlen hgw
  have HP := HPL
  clear HPL
  go_region_with (go_at_call 44; refine HRN.out.mono ?_; rintro e w1 ⟨rfl, rfl⟩)
  all_goals
    go_wp2
    go_ret2
    exact ⟨rfl, (HP.out 2 _ (by omega) (by omega)).1.drewP, Below.drew (HP.out 2 _ (by omega) (by omega)).2⟩
set_option maxRecDepth 100000 in
set_option maxHeartbeats 4000000 in
theorem read_n3 (v : Value) (b : List Nat) (p : Int) (t : Nat) (g : Nat) (q : Pts) (w : World) (h : Bs w v b) (hlen : b.length ≤ 140737488355328) (hp : Pl w g q) (ht : t = 3) (hv : ∀ w', Below g w w' → Bs w' v b) :
    Calls Tryd.prog 33 #[.pointer (some ⟨g, 0, none⟩), .int .i64 (t : Int), v, .int .i64 p] w fun e w' => e = .returned (.tuple #[.int .i64 (rdp b p t q).1, .int .i64 ((rdp b p t q).2.1 : Int)]) ∧ Pl w' g (rdp b p t q).2.2 ∧ Below g w w' := by
  obtain ⟨ao2, cap2, hbox, hown⟩ := hp
  have hgw : g < w.heap.size := (Array.getElem?_eq_some_iff.1 hbox).1
  have HRN : Hid (Calls Tryd.prog 44 #[v, .int .i64 p] w.drew fun e w' => e = .returned (.tuple #[.int .i64 (rn b p).1, .int .i64 (rn b p).2.1, .int .i64 ((rn b p).2.2 : Int)]) ∧ w' = w.drew) := rnum_any v b p w.drew h.drew hlen
  have HRI : Hid (Calls Tryd.prog 42 #[v, .int .i64 p] w fun e w' => e = .returned (.tuple #[.int .i64 (ri b p).1, .int .i64 (ri b p).2.1, .int .i64 ((ri b p).2.2 : Int)]) ∧ w = w') := readInt_any v b p w h hlen
  have HRB : Hid (∀ m : Int, m ≤ 9223372036854775807 → Calls Tryd.prog 43 #[v, .int .i64 p, .int .i64 m] w fun e w' => ∃ v', e = .returned (.tuple #[v', .int .i64 (rb b p m).2.1, .int .i64 ((rb b p m).2.2 : Int)]) ∧ Own w.heap.size w' v' (rb b p m).1 ∧ Below w.heap.size w w') := fun m hm => readBytes_any v b p m w h hlen hm
  obtain ⟨ao, cap, rfl, _⟩ := h.shape
  obtain ⟨c0, c1, c2, c3, c4, c5, c6, c7, c8, c9, c10, c11⟩ := hbox.cells
  have hfr := fun j => hbox.free j
  have HPL : Hid (∀ t z, 1 ≤ t → t ≤ 9 → Pl (w.setCell ⟨g, t, none⟩ (.int .i64 z)) g { q with x := q.x.put t z } ∧ Below g w (w.setCell ⟨g, t, none⟩ (.int .i64 z))) := fun t z a b => ⟨⟨ao2, cap2, hbox.put t a b z, Own.set hown ⟨g, t, none⟩ _ (Nat.lt_succ_self g)⟩, Below.setCell ((Below.refl _ w).mono (Nat.le_of_lt hgw)) (Nat.le_refl _) _⟩
  clear h hv
  subst ht
  have HE : Hid (rdp b p 3 q = ((rn b p).2.1, (rn b p).2.2, { q with x := q.x.put 3 (rn b p).1 })) := rfl
  rw [HE.out]
  have hf := hfr 3
  clear HRI HRB HE hfr hbox hown
  generalize rn b p = R at *
  obtain ⟨r1, r2, r3⟩ := R
  simp only at *
  go_enter Tryd.func33, Tryd.ntmps33
  go_wp2
  clear c0 c1 c2 c4 c5 c6 c7 c8 c9 c10 c11 hlen hgw
  have HP := HPL
  clear HPL
  go_region_with (go_at_call 44; refine HRN.out.mono ?_; rintro e w1 ⟨rfl, rfl⟩)
  all_goals
    go_wp2
    go_ret2
    exact ⟨rfl, (HP.out 3 _ (by omega) (by omega)).1.drewP, Below.drew (HP.out 3 _ (by omega) (by omega)).2⟩
set_option maxRecDepth 100000 in
set_option maxHeartbeats 4000000 in
theorem read_n4 (v : Value) (b : List Nat) (p : Int) (t : Nat) (g : Nat) (q : Pts) (w : World) (h : Bs w v b) (hlen : b.length ≤ 140737488355328) (hp : Pl w g q) (ht : t = 4) (hv : ∀ w', Below g w w' → Bs w' v b) :
    Calls Tryd.prog 33 #[.pointer (some ⟨g, 0, none⟩), .int .i64 (t : Int), v, .int .i64 p] w fun e w' => e = .returned (.tuple #[.int .i64 (rdp b p t q).1, .int .i64 ((rdp b p t q).2.1 : Int)]) ∧ Pl w' g (rdp b p t q).2.2 ∧ Below g w w' := by
  obtain ⟨ao2, cap2, hbox, hown⟩ := hp
  have hgw : g < w.heap.size := (Array.getElem?_eq_some_iff.1 hbox).1
  have HRN : Hid (Calls Tryd.prog 44 #[v, .int .i64 p] w.drew fun e w' => e = .returned (.tuple #[.int .i64 (rn b p).1, .int .i64 (rn b p).2.1, .int .i64 ((rn b p).2.2 : Int)]) ∧ w' = w.drew) := rnum_any v b p w.drew h.drew hlen
  have HRI : Hid (Calls Tryd.prog 42 #[v, .int .i64 p] w fun e w' => e = .returned (.tuple #[.int .i64 (ri b p).1, .int .i64 (ri b p).2.1, .int .i64 ((ri b p).2.2 : Int)]) ∧ w = w') := readInt_any v b p w h hlen
  have HRB : Hid (∀ m : Int, m ≤ 9223372036854775807 → Calls Tryd.prog 43 #[v, .int .i64 p, .int .i64 m] w fun e w' => ∃ v', e = .returned (.tuple #[v', .int .i64 (rb b p m).2.1, .int .i64 ((rb b p m).2.2 : Int)]) ∧ Own w.heap.size w' v' (rb b p m).1 ∧ Below w.heap.size w w') := fun m hm => readBytes_any v b p m w h hlen hm
  obtain ⟨ao, cap, rfl, _⟩ := h.shape
  obtain ⟨c0, c1, c2, c3, c4, c5, c6, c7, c8, c9, c10, c11⟩ := hbox.cells
  have hfr := fun j => hbox.free j
  have HPL : Hid (∀ t z, 1 ≤ t → t ≤ 9 → Pl (w.setCell ⟨g, t, none⟩ (.int .i64 z)) g { q with x := q.x.put t z } ∧ Below g w (w.setCell ⟨g, t, none⟩ (.int .i64 z))) := fun t z a b => ⟨⟨ao2, cap2, hbox.put t a b z, Own.set hown ⟨g, t, none⟩ _ (Nat.lt_succ_self g)⟩, Below.setCell ((Below.refl _ w).mono (Nat.le_of_lt hgw)) (Nat.le_refl _) _⟩
  clear h hv
  subst ht
  have HE : Hid (rdp b p 4 q = ((rn b p).2.1, (rn b p).2.2, { q with x := q.x.put 4 (rn b p).1 })) := rfl
  rw [HE.out]
  have hf := hfr 4
  clear HRI HRB HE hfr hbox hown
  generalize rn b p = R at *
  obtain ⟨r1, r2, r3⟩ := R
  simp only at *
  go_enter Tryd.func33, Tryd.ntmps33
  go_wp2
  clear c0 c1 c2 c3 c5 c6 c7 c8 c9 c10 c11 hlen hgw
  have HP := HPL
  clear HPL
  go_region_with (go_at_call 44; refine HRN.out.mono ?_; rintro e w1 ⟨rfl, rfl⟩)
  all_goals
    go_wp2
    go_ret2
    exact ⟨rfl, (HP.out 4 _ (by omega) (by omega)).1.drewP, Below.drew (HP.out 4 _ (by omega) (by omega)).2⟩
set_option maxRecDepth 100000 in
set_option maxHeartbeats 4000000 in
theorem read_n5 (v : Value) (b : List Nat) (p : Int) (t : Nat) (g : Nat) (q : Pts) (w : World) (h : Bs w v b) (hlen : b.length ≤ 140737488355328) (hp : Pl w g q) (ht : t = 5) (hv : ∀ w', Below g w w' → Bs w' v b) :
    Calls Tryd.prog 33 #[.pointer (some ⟨g, 0, none⟩), .int .i64 (t : Int), v, .int .i64 p] w fun e w' => e = .returned (.tuple #[.int .i64 (rdp b p t q).1, .int .i64 ((rdp b p t q).2.1 : Int)]) ∧ Pl w' g (rdp b p t q).2.2 ∧ Below g w w' := by
  obtain ⟨ao2, cap2, hbox, hown⟩ := hp
  have hgw : g < w.heap.size := (Array.getElem?_eq_some_iff.1 hbox).1
  have HRN : Hid (Calls Tryd.prog 44 #[v, .int .i64 p] w.drew fun e w' => e = .returned (.tuple #[.int .i64 (rn b p).1, .int .i64 (rn b p).2.1, .int .i64 ((rn b p).2.2 : Int)]) ∧ w' = w.drew) := rnum_any v b p w.drew h.drew hlen
  have HRI : Hid (Calls Tryd.prog 42 #[v, .int .i64 p] w fun e w' => e = .returned (.tuple #[.int .i64 (ri b p).1, .int .i64 (ri b p).2.1, .int .i64 ((ri b p).2.2 : Int)]) ∧ w = w') := readInt_any v b p w h hlen
  have HRB : Hid (∀ m : Int, m ≤ 9223372036854775807 → Calls Tryd.prog 43 #[v, .int .i64 p, .int .i64 m] w fun e w' => ∃ v', e = .returned (.tuple #[v', .int .i64 (rb b p m).2.1, .int .i64 ((rb b p m).2.2 : Int)]) ∧ Own w.heap.size w' v' (rb b p m).1 ∧ Below w.heap.size w w') := fun m hm => readBytes_any v b p m w h hlen hm
  obtain ⟨ao, cap, rfl, _⟩ := h.shape
  obtain ⟨c0, c1, c2, c3, c4, c5, c6, c7, c8, c9, c10, c11⟩ := hbox.cells
  have hfr := fun j => hbox.free j
  have HPL : Hid (∀ t z, 1 ≤ t → t ≤ 9 → Pl (w.setCell ⟨g, t, none⟩ (.int .i64 z)) g { q with x := q.x.put t z } ∧ Below g w (w.setCell ⟨g, t, none⟩ (.int .i64 z))) := fun t z a b => ⟨⟨ao2, cap2, hbox.put t a b z, Own.set hown ⟨g, t, none⟩ _ (Nat.lt_succ_self g)⟩, Below.setCell ((Below.refl _ w).mono (Nat.le_of_lt hgw)) (Nat.le_refl _) _⟩
  clear h hv
  subst ht
  have HE : Hid (rdp b p 5 q = ((rn b p).2.1, (rn b p).2.2, { q with x := q.x.put 5 (rn b p).1 })) := rfl
  rw [HE.out]
  have hf := hfr 5
  clear HRI HRB HE hfr hbox hown
  generalize rn b p = R at *
  obtain ⟨r1, r2, r3⟩ := R
  simp only at *
  go_enter Tryd.func33, Tryd.ntmps33
  go_wp2
  clear c0 c1 c2 c3 c4 c6 c7 c8 c9 c10 c11 hlen hgw
  have HP := HPL
  clear HPL
  go_region_with (go_at_call 44; refine HRN.out.mono ?_; rintro e w1 ⟨rfl, rfl⟩)
  all_goals
    go_wp2
    go_ret2
    exact ⟨rfl, (HP.out 5 _ (by omega) (by omega)).1.drewP, Below.drew (HP.out 5 _ (by omega) (by omega)).2⟩
set_option maxRecDepth 100000 in
set_option maxHeartbeats 4000000 in
theorem read_n6 (v : Value) (b : List Nat) (p : Int) (t : Nat) (g : Nat) (q : Pts) (w : World) (h : Bs w v b) (hlen : b.length ≤ 140737488355328) (hp : Pl w g q) (ht : t = 6) (hv : ∀ w', Below g w w' → Bs w' v b) :
    Calls Tryd.prog 33 #[.pointer (some ⟨g, 0, none⟩), .int .i64 (t : Int), v, .int .i64 p] w fun e w' => e = .returned (.tuple #[.int .i64 (rdp b p t q).1, .int .i64 ((rdp b p t q).2.1 : Int)]) ∧ Pl w' g (rdp b p t q).2.2 ∧ Below g w w' := by
  obtain ⟨ao2, cap2, hbox, hown⟩ := hp
  have hgw : g < w.heap.size := (Array.getElem?_eq_some_iff.1 hbox).1
  have HRN : Hid (Calls Tryd.prog 44 #[v, .int .i64 p] w.drew fun e w' => e = .returned (.tuple #[.int .i64 (rn b p).1, .int .i64 (rn b p).2.1, .int .i64 ((rn b p).2.2 : Int)]) ∧ w' = w.drew) := rnum_any v b p w.drew h.drew hlen
  have HRI : Hid (Calls Tryd.prog 42 #[v, .int .i64 p] w fun e w' => e = .returned (.tuple #[.int .i64 (ri b p).1, .int .i64 (ri b p).2.1, .int .i64 ((ri b p).2.2 : Int)]) ∧ w = w') := readInt_any v b p w h hlen
  have HRB : Hid (∀ m : Int, m ≤ 9223372036854775807 → Calls Tryd.prog 43 #[v, .int .i64 p, .int .i64 m] w fun e w' => ∃ v', e = .returned (.tuple #[v', .int .i64 (rb b p m).2.1, .int .i64 ((rb b p m).2.2 : Int)]) ∧ Own w.heap.size w' v' (rb b p m).1 ∧ Below w.heap.size w w') := fun m hm => readBytes_any v b p m w h hlen hm
  obtain ⟨ao, cap, rfl, _⟩ := h.shape
  obtain ⟨c0, c1, c2, c3, c4, c5, c6, c7, c8, c9, c10, c11⟩ := hbox.cells
  have hfr := fun j => hbox.free j
  have HPL : Hid (∀ t z, 1 ≤ t → t ≤ 9 → Pl (w.setCell ⟨g, t, none⟩ (.int .i64 z)) g { q with x := q.x.put t z } ∧ Below g w (w.setCell ⟨g, t, none⟩ (.int .i64 z))) := fun t z a b => ⟨⟨ao2, cap2, hbox.put t a b z, Own.set hown ⟨g, t, none⟩ _ (Nat.lt_succ_self g)⟩, Below.setCell ((Below.refl _ w).mono (Nat.le_of_lt hgw)) (Nat.le_refl _) _⟩
  clear h hv
  subst ht
  have HE : Hid (rdp b p 6 q = ((rn b p).2.1, (rn b p).2.2, { q with x := q.x.put 6 (rn b p).1 })) := rfl
  rw [HE.out]
  have hf := hfr 6
  clear HRI HRB HE hfr hbox hown
  generalize rn b p = R at *
  obtain ⟨r1, r2, r3⟩ := R
  simp only at *
  go_enter Tryd.func33, Tryd.ntmps33
  go_wp2
  clear c0 c1 c2 c3 c4 c5 c7 c8 c9 c10 c11 hlen hgw
  have HP := HPL
  clear HPL
  go_region_with (go_at_call 44; refine HRN.out.mono ?_; rintro e w1 ⟨rfl, rfl⟩)
  all_goals
    go_wp2
    go_ret2
    exact ⟨rfl, (HP.out 6 _ (by omega) (by omega)).1.drewP, Below.drew (HP.out 6 _ (by omega) (by omega)).2⟩
set_option maxRecDepth 100000 in
set_option maxHeartbeats 4000000 in
theorem read_n8 (v : Value) (b : List Nat) (p : Int) (t : Nat) (g : Nat) (q : Pts) (w : World) (h : Bs w v b) (hlen : b.length ≤ 140737488355328) (hp : Pl w g q) (ht : t = 8) (hv : ∀ w', Below g w w' → Bs w' v b) :
    Calls Tryd.prog 33 #[.pointer (some ⟨g, 0, none⟩), .int .i64 (t : Int), v, .int .i64 p] w fun e w' => e = .returned (.tuple #[.int .i64 (rdp b p t q).1, .int .i64 ((rdp b p t q).2.1 : Int)]) ∧ Pl w' g (rdp b p t q).2.2 ∧ Below g w w' := by
  obtain ⟨ao2, cap2, hbox, hown⟩ := hp
  have hgw : g < w.heap.size := (Array.getElem?_eq_some_iff.1 hbox).1
  have HRN : Hid (Calls Tryd.prog 44 #[v, .int .i64 p] w.drew fun e w' => e = .returned (.tuple #[.int .i64 (rn b p).1, .int .i64 (rn b p).2.1, .int .i64 ((rn b p).2.2 : Int)]) ∧ w' = w.drew) := rnum_any v b p w.drew h.drew hlen
  have HRI : Hid (Calls Tryd.prog 42 #[v, .int .i64 p] w fun e w' => e = .returned (.tuple #[.int .i64 (ri b p).1, .int .i64 (ri b p).2.1, .int .i64 ((ri b p).2.2 : Int)]) ∧ w = w') := readInt_any v b p w h hlen
  have HRB : Hid (∀ m : Int, m ≤ 9223372036854775807 → Calls Tryd.prog 43 #[v, .int .i64 p, .int .i64 m] w fun e w' => ∃ v', e = .returned (.tuple #[v', .int .i64 (rb b p m).2.1, .int .i64 ((rb b p m).2.2 : Int)]) ∧ Own w.heap.size w' v' (rb b p m).1 ∧ Below w.heap.size w w') := fun m hm => readBytes_any v b p m w h hlen hm
  obtain ⟨ao, cap, rfl, _⟩ := h.shape
  obtain ⟨c0, c1, c2, c3, c4, c5, c6, c7, c8, c9, c10, c11⟩ := hbox.cells
  have hfr := fun j => hbox.free j
  have HPL : Hid (∀ t z, 1 ≤ t → t ≤ 9 → Pl (w.setCell ⟨g, t, none⟩ (.int .i64 z)) g { q with x := q.x.put t z } ∧ Below g w (w.setCell ⟨g, t, none⟩ (.int .i64 z))) := fun t z a b => ⟨⟨ao2, cap2, hbox.put t a b z, Own.set hown ⟨g, t, none⟩ _ (Nat.lt_succ_self g)⟩, Below.setCell ((Below.refl _ w).mono (Nat.le_of_lt hgw)) (Nat.le_refl _) _⟩
  clear h hv
  subst ht
  have HE : Hid (rdp b p 8 q = ((rn b p).2.1, (rn b p).2.2, { q with x := q.x.put 8 (rn b p).1 })) := rfl
  rw [HE.out]
  have hf := hfr 8
  clear HRI HRB HE hfr hbox hown
  generalize rn b p = R at *
  obtain ⟨r1, r2, r3⟩ := R
  simp only at *
  go_enter Tryd.func33, Tryd.ntmps33
  go_wp2
  clear c0 c1 c2 c3 c4 c5 c6 c7 c9 c10 c11 hlen hgw
  have HP := HPL
  clear HPL
  go_region_with (go_at_call 44; refine HRN.out.mono ?_; rintro e w1 ⟨rfl, rfl⟩)
  all_goals
    go_wp2
    go_ret2
    exact ⟨rfl, (HP.out 8 _ (by omega) (by omega)).1.drewP, Below.drew (HP.out 8 _ (by omega) (by omega)).2⟩
set_option maxRecDepth 100000 in
set_option maxHeartbeats 4000000 in
theorem read_n9 (v : Value) (b : List Nat) (p : Int) (t : Nat) (g : Nat) (q : Pts) (w : World) (h : Bs w v b) (hlen : b.length ≤ 140737488355328) (hp : Pl w g q) (ht : t = 9) (hv : ∀ w', Below g w w' → Bs w' v b) :
    Calls Tryd.prog 33 #[.pointer (some ⟨g, 0, none⟩), .int .i64 (t : Int), v, .int .i64 p] w fun e w' => e = .returned (.tuple #[.int .i64 (rdp b p t q).1, .int .i64 ((rdp b p t q).2.1 : Int)]) ∧ Pl w' g (rdp b p t q).2.2 ∧ Below g w w' := by
  obtain ⟨ao2, cap2, hbox, hown⟩ := hp
  have hgw : g < w.heap.size := (Array.getElem?_eq_some_iff.1 hbox).1
  have HRN : Hid (Calls Tryd.prog 44 #[v, .int .i64 p] w.drew fun e w' => e = .returned (.tuple #[.int .i64 (rn b p).1, .int .i64 (rn b p).2.1, .int .i64 ((rn b p).2.2 : Int)]) ∧ w' = w.drew) := rnum_any v b p w.drew h.drew hlen
  have HRI : Hid (Calls Tryd.prog 42 #[v, .int .i64 p] w fun e w' => e = .returned (.tuple #[.int .i64 (ri b p).1, .int .i64 (ri b p).2.1, .int .i64 ((ri b p).2.2 : Int)]) ∧ w = w') := readInt_any v b p w h hlen
  have HRB : Hid (∀ m : Int, m ≤ 9223372036854775807 → Calls Tryd.prog 43 #[v, .int .i64 p, .int .i64 m] w fun e w' => ∃ v', e = .returned (.tuple #[v', .int .i64 (rb b p m).2.1, .int .i64 ((rb b p m).2.2 : Int)]) ∧ Own w.heap.size w' v' (rb b p m).1 ∧ Below w.heap.size w w') := fun m hm => readBytes_any v b p m w h hlen hm
  obtain ⟨ao, cap, rfl, _⟩ := h.shape
  obtain ⟨c0, c1, c2, c3, c4, c5, c6, c7, c8, c9, c10, c11⟩ := hbox.cells
  have hfr := fun j => hbox.free j
  have HPL : Hid (∀ t z, 1 ≤ t → t ≤ 9 → Pl (w.setCell ⟨g, t, none⟩ (.int .i64 z)) g { q with x := q.x.put t z } ∧ Below g w (w.setCell ⟨g, t, none⟩ (.int .i64 z))) := fun t z a b => ⟨⟨ao2, cap2, hbox.put t a b z, Own.set hown ⟨g, t, none⟩ _ (Nat.lt_succ_self g)⟩, Below.setCell ((Below.refl _ w).mono (Nat.le_of_lt hgw)) (Nat.le_refl _) _⟩
  clear h hv
  subst ht
  have HE : Hid (rdp b p 9 q = ((rn b p).2.1, (rn b p).2.2, { q with x := q.x.put 9 (rn b p).1 })) := rfl
  rw [HE.out]
  have hf := hfr 9
  clear HRI HRB HE hfr hbox hown
  generalize rn b p = R at *
  obtain ⟨r1, r2, r3⟩ := R
  simp only at *
  go_enter Tryd.func33, Tryd.ntmps33
  go_wp2
  clear c0 c1 c2 c3 c4 c5 c6 c7 c8 c10 c11 hlen hgw
  have HP := HPL
  clear HPL
  go_region_with (go_at_call 44; refine HRN.out.mono ?_; rintro e w1 ⟨rfl, rfl⟩)
  all_goals
    go_wp2
    go_ret2
    exact ⟨rfl, (HP.out 9 _ (by omega) (by omega)).1.drewP, Below.drew (HP.out 9 _ (by omega) (by omega)).2⟩
end Go.Proofs.YtioghecmnggehaaDoor
