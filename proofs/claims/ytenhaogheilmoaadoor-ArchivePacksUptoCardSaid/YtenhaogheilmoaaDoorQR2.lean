import Derived.Test.YtenhaogheilmoaaDoorQR1
/-
  Package record: readTag, readNumber.
-/
namespace Go.Proofs.YtenhaogheilmoaaDoor
open Go Go.RowKit
open Wb

theorem set_other (w : World) (p : Addr) (u : Value) (g : Nat) (h : g ≠ p.block) : (w.setCell p u).heap[g]? = w.heap[g]? := by
  simp only [World.setCell, Array.getElem?_modify]
  rw [if_neg (Ne.symm h)]
theorem Own.set {B : Nat} {w : World} {v : Value} {l : List Nat} (h : Own B w v l) (p : Addr) (u : Value) (hp : p.block < B) : Own B (w.setCell p u) v l := by
  refine ⟨⟨h.row.1, ?_⟩, h.good⟩
  rcases h.row.2 with h1 | ⟨g, cap, cur, rfl, h1, hg, rest⟩
  · exact .inl h1
  · exact .inr ⟨g, cap, cur, rfl, h1, (set_other w p u g (by omega)).trans hg, rest⟩

def rn (b : List Nat) (p : Int) : Int × Int × Nat := if (Wn.ru b p).2.2 ≠ 0 then (0, 0, (Wn.ru b p).2.2) else if 9223372036854775807 < (Wn.ru b p).1 then (0, 0, 34) else (((Wn.ru b p).1 : Int), (Wn.ru b p).2.1, 0)
def rt (b : List Nat) (p : Int) (last : Nat) : Nat × Int × Nat := if (Wn.ru b p).2.2 ≠ 0 then (0, 0, (Wn.ru b p).2.2) else if (Wn.ru b p).1 ≤ last ∨ 11 < (Wn.ru b p).1 then (0, 0, 37) else ((Wn.ru b p).1, (Wn.ru b p).2.1, 0)
set_option maxHeartbeats 400000 in
theorem rnum_any (v : Value) (l : List Nat) (p : Int) (w : World) (h : Bs w v l) (hlen : l.length ≤ 140737488355328) :
    Calls Tryd.prog 95 #[v, .int .i64 p] w fun e w' => e = .returned (.tuple #[.int .i64 (rn l p).1, .int .i64 (rn l p).2.1, .int .i64 ((rn l p).2.2 : Int)]) ∧ w' = w := by
  have hru := readUint_any v l p w h hlen
  unfold tup3 at hru
  have HC : Hid (∃ a b c, Wn.ru l p = (a, b, c)) := ⟨_, _, _, rfl⟩
  obtain ⟨a, b, c, hR⟩ := HC.out
  have HRN : Hid (rn l p = if c ≠ 0 then (0, 0, c) else if 9223372036854775807 < a then (0, 0, 34) else ((a : Int), b, 0)) := by show _ = _; unfold rn; rw [hR]
  rw [hR] at hru
  simp only at hru
  have HRU : Hid (Calls Tryd.prog 68 #[v, .int .i64 p] w fun e w' => e = .returned (.tuple #[.int .u64 (a : Int), .int .i64 b, .int .i64 (c : Int)]) ∧ w = w') := hru
  clear hru hR HC
  obtain ⟨ao, cap, rfl, _⟩ := h.shape
  clear h
  by_cases hc : c = 0
  · subst hc
    by_cases ha : 9223372036854775807 < a
    · have HE : Hid (rn l p = (0, 0, 34)) := by show _ = _; rw [HRN.out, if_neg (by simp), if_pos ha]
      rw [HE.out]
      go_enter Tryd.func95, Tryd.ntmps95
      go_wp2_with fail
      refine HRU.out.mono ?_
      rintro e w1 ⟨rfl, rfl⟩
      go_wp2
      go_ret3
      exact ⟨rfl, rfl⟩
    · have HE : Hid (rn l p = ((a : Int), b, 0)) := by show _ = _; rw [HRN.out, if_neg (by simp), if_neg ha]
      rw [HE.out]
      go_enter Tryd.func95, Tryd.ntmps95
      go_wp2_with fail
      refine HRU.out.mono ?_
      rintro e w1 ⟨rfl, rfl⟩
      go_wp2
      go_ret3
      exact ⟨rfl, rfl⟩
  · have HE : Hid (rn l p = (0, 0, c)) := by show _ = _; rw [HRN.out, if_pos hc]
    have d1 : ((c : Int) != 0) = true := by rw [bne_iff_ne]; omega
    rw [HE.out]
    go_enter Tryd.func95, Tryd.ntmps95
    go_wp2_with fail
    refine HRU.out.mono ?_
    rintro e w1 ⟨rfl, rfl⟩
    go_wp2
    go_ret3
    exact ⟨rfl, rfl⟩
set_option maxHeartbeats 400000 in
theorem rtag_any (v : Value) (l : List Nat) (p : Int) (last : Nat) (w : World) (h : Bs w v l) (hlen : l.length ≤ 140737488355328) (hlast : last ≤ 11) :
    Calls Tryd.prog 86 #[v, .int .i64 p, .int .i64 (last : Int)] w fun e w' => e = .returned (.tuple #[.int .i64 ((rt l p last).1 : Int), .int .i64 (rt l p last).2.1, .int .i64 ((rt l p last).2.2 : Int)]) ∧ w' = w := by
  have hru := readUint_any v l p w h hlen
  unfold tup3 at hru
  have HC : Hid (∃ a b c, Wn.ru l p = (a, b, c)) := ⟨_, _, _, rfl⟩
  obtain ⟨a, b, c, hR⟩ := HC.out
  have HRN : Hid (rt l p last = if c ≠ 0 then (0, 0, c) else if a ≤ last ∨ 11 < a then (0, 0, 37) else (a, b, 0)) := by show _ = _; unfold rt; rw [hR]
  rw [hR] at hru
  simp only at hru
  have HRU : Hid (Calls Tryd.prog 68 #[v, .int .i64 p] w fun e w' => e = .returned (.tuple #[.int .u64 (a : Int), .int .i64 b, .int .i64 (c : Int)]) ∧ w = w') := hru
  clear hru hR HC
  obtain ⟨ao, cap, rfl, _⟩ := h.shape
  clear h
  by_cases hc : c = 0
  · subst hc
    by_cases ha : a ≤ last
    · have HE : Hid (rt l p last = (0, 0, 37)) := by show _ = _; rw [HRN.out, if_neg (by simp), if_pos (.inl ha)]
      rw [HE.out]
      go_enter Tryd.func86, Tryd.ntmps86
      go_wp2_with fail
      refine HRU.out.mono ?_
      rintro e w1 ⟨rfl, rfl⟩
      go_wp2
      go_ret3
      exact ⟨rfl, rfl⟩
    · by_cases hb : 11 < a
      · have HE : Hid (rt l p last = (0, 0, 37)) := by show _ = _; rw [HRN.out, if_neg (by simp), if_pos (.inr hb)]
        rw [HE.out]
        go_enter Tryd.func86, Tryd.ntmps86
        go_wp2_with fail
        refine HRU.out.mono ?_
        rintro e w1 ⟨rfl, rfl⟩
        go_wp2
        go_ret3
        exact ⟨rfl, rfl⟩
      · have HE : Hid (rt l p last = (a, b, 0)) := by show _ = _; rw [HRN.out, if_neg (by simp), if_neg (by omega)]
        rw [HE.out]
        go_enter Tryd.func86, Tryd.ntmps86
        go_wp2_with fail
        refine HRU.out.mono ?_
        rintro e w1 ⟨rfl, rfl⟩
        go_wp2
        go_ret3
        exact ⟨rfl, rfl⟩
  · have HE : Hid (rt l p last = (0, 0, c)) := by show _ = _; rw [HRN.out, if_pos hc]
    have d1 : ((c : Int) != 0) = true := by rw [bne_iff_ne]; omega
    rw [HE.out]
    go_enter Tryd.func86, Tryd.ntmps86
    go_wp2_with fail
    refine HRU.out.mono ?_
    rintro e w1 ⟨rfl, rfl⟩
    go_wp2
    go_ret3
    exact ⟨rfl, rfl⟩
end Go.Proofs.YtenhaogheilmoaaDoor

/-
  Package record: read.
-/
namespace Go.Proofs.YtenhaogheilmoaaDoor
open Go Go.RowKit
open Wb

/-- the number of a tag is set -/
def Nums.put (x : Nums) (t : Nat) (z : Int) : Nums := if t = 1 then { x with k := z } else if t = 2 then { x with s := z } else if t = 3 then { x with p := z } else if t = 4 then { x with t := z } else if t = 5 then { x with a := z } else if t = 6 then { x with l := z } else if t = 7 then { x with c := z } else if t = 8 then { x with n := z } else { x with i := z }
structure Pts where
  x : Nums
  nm : List Nat
  l : List Nat
/-- read's answer: where it ends, its error, the parts -/
def rdp (b : List Nat) (p : Int) (t : Nat) (q : Pts) : Int × Nat × Pts :=
  if t = 7 then ((ri b p).2.1, (ri b p).2.2, { q with x := q.x.put 7 (ri b p).1 })
  else if t = 10 then ((rb b p 192).2.1, (rb b p 192).2.2, { q with nm := (rb b p 192).1 })
  else if t = 11 then ((rb b p 16384).2.1, (rb b p 16384).2.2, { q with l := (rb b p 16384).1 })
  else ((rn b p).2.1, (rn b p).2.2, { q with x := q.x.put t (rn b p).1 })
theorem PBox.put {w : World} {g : Nat} {x : Nums} {nm : ByteArray} {d : Value} (h : PBox w g x nm d) (t : Nat) (h1 : 1 ≤ t) (h9 : t ≤ 9) (z : Int) : PBox (w.setCell ⟨g, t, none⟩ (.int .i64 z)) g (x.put t z) nm d := by
  unfold PBox at *
  obtain rfl | rfl | rfl | rfl | rfl | rfl | rfl | rfl | rfl : t = 1 ∨ t = 2 ∨ t = 3 ∨ t = 4 ∨ t = 5 ∨ t = 6 ∨ t = 7 ∨ t = 8 ∨ t = 9 := by omega
  all_goals simp [World.setCell, Array.getElem?_modify, h, Nums.put]
theorem PBox.name {w : World} {g : Nat} {x : Nums} {nm : ByteArray} {d : Value} (h : PBox w g x nm d) (nm' : ByteArray) : PBox (w.setCell ⟨g, 10, none⟩ (.string nm')) g x nm' d := by
  unfold PBox at *
  simp [World.setCell, Array.getElem?_modify, h]
theorem PBox.data {w : World} {g : Nat} {x : Nums} {nm : ByteArray} {d : Value} (h : PBox w g x nm d) (d' : Value) : PBox (w.setCell ⟨g, 11, none⟩ d') g x nm d' := by
  unfold PBox at *
  simp [World.setCell, Array.getElem?_modify, h]
theorem PBox.free {w : World} {g : Nat} {x : Nums} {nm : ByteArray} {d : Value} (h : PBox w g x nm d) (j : Nat) : w.frozen? ⟨g, j, none⟩ = false := by
  unfold PBox at h
  simp [World.frozen?, h]
/-- parts in a block, their data in a row of its own behind it -/
def Pl (w : World) (g : Nat) (q : Pts) : Prop := ∃ ao cap, PBox w g q.x (bstr q.nm) (.slice ao q.l.length cap) ∧ Own (g + 1) w (.slice ao q.l.length cap) q.l
theorem Pl.drewP {w : World} {g : Nat} {q : Pts} (h : Pl w g q) : Pl w.drew g q := by
  obtain ⟨ao, cap, h1, h2⟩ := h
  exact ⟨ao, cap, h1, h2.kept (Below.drew (Below.refl _ _))⟩
end Go.Proofs.YtenhaogheilmoaaDoor

/-
  Package record: read.
-/
namespace Go.Proofs.YtenhaogheilmoaaDoor
open Go Go.RowKit
open Wb

set_option maxRecDepth 100000 in
set_option maxHeartbeats 4000000 in
theorem read_seven (v : Value) (b : List Nat) (p : Int) (t : Nat) (g : Nat) (q : Pts) (w : World) (h : Bs w v b) (hlen : b.length ≤ 140737488355328) (hp : Pl w g q) (ht : t = 7) (hv : ∀ w', Below g w w' → Bs w' v b) :
    Calls Tryd.prog 87 #[.pointer (some ⟨g, 0, none⟩), .int .i64 (t : Int), v, .int .i64 p] w fun e w' => e = .returned (.tuple #[.int .i64 (rdp b p t q).1, .int .i64 ((rdp b p t q).2.1 : Int)]) ∧ Pl w' g (rdp b p t q).2.2 ∧ Below g w w' := by
  obtain ⟨ao2, cap2, hbox, hown⟩ := hp
  have hgw : g < w.heap.size := (Array.getElem?_eq_some_iff.1 hbox).1
  have HRN : Hid (Calls Tryd.prog 95 #[v, .int .i64 p] w.drew fun e w' => e = .returned (.tuple #[.int .i64 (rn b p).1, .int .i64 (rn b p).2.1, .int .i64 ((rn b p).2.2 : Int)]) ∧ w' = w.drew) := rnum_any v b p w.drew h.drew hlen
  have HRI : Hid (Calls Tryd.prog 93 #[v, .int .i64 p] w fun e w' => e = .returned (.tuple #[.int .i64 (ri b p).1, .int .i64 (ri b p).2.1, .int .i64 ((ri b p).2.2 : Int)]) ∧ w = w') := readInt_any v b p w h hlen
  have HRB : Hid (∀ m : Int, m ≤ 9223372036854775807 → Calls Tryd.prog 94 #[v, .int .i64 p, .int .i64 m] w fun e w' => ∃ v', e = .returned (.tuple #[v', .int .i64 (rb b p m).2.1, .int .i64 ((rb b p m).2.2 : Int)]) ∧ Own w.heap.size w' v' (rb b p m).1 ∧ Below w.heap.size w w') := fun m hm => readBytes_any v b p m w h hlen hm
  obtain ⟨ao, cap, rfl, _⟩ := h.shape
  obtain ⟨c0, c1, c2, c3, c4, c5, c6, c7, c8, c9, c10, c11⟩ := hbox.cells
  have hfr := fun j => hbox.free j
  have HPL : Hid (∀ t z, 1 ≤ t → t ≤ 9 → Pl (w.setCell ⟨g, t, none⟩ (.int .i64 z)) g { q with x := q.x.put t z } ∧ Below g w (w.setCell ⟨g, t, none⟩ (.int .i64 z))) := fun t z a b => ⟨⟨ao2, cap2, hbox.put t a b z, Own.set hown ⟨g, t, none⟩ _ (Nat.lt_succ_self g)⟩, Below.setCell ((Below.refl _ w).mono (Nat.le_of_lt hgw)) (Nat.le_refl _) _⟩
  clear h hv
  subst ht
  have HE : Hid (rdp b p 7 q = ((ri b p).2.1, (ri b p).2.2, { q with x := q.x.put 7 (ri b p).1 })) := rfl
  rw [HE.out]
  have hf7 := hfr 7
  clear HRN HRB HE hfr hbox hown
  generalize ri b p = R at *
  obtain ⟨r1, r2, r3⟩ := R
  simp only at *
  go_enter Tryd.func87, Tryd.ntmps87
  go_wp2_with fail
  refine HRI.out.mono ?_
  rintro e w1 ⟨rfl, rfl⟩
  go_wp2
  go_ret2
  exact ⟨rfl, (HPL.out 7 _ (by omega) (by omega)).1, (HPL.out 7 _ (by omega) (by omega)).2⟩
set_option maxRecDepth 100000 in
set_option maxHeartbeats 4000000 in
theorem read_n1 (v : Value) (b : List Nat) (p : Int) (t : Nat) (g : Nat) (q : Pts) (w : World) (h : Bs w v b) (hlen : b.length ≤ 140737488355328) (hp : Pl w g q) (ht : t = 1) (hv : ∀ w', Below g w w' → Bs w' v b) :
    Calls Tryd.prog 87 #[.pointer (some ⟨g, 0, none⟩), .int .i64 (t : Int), v, .int .i64 p] w fun e w' => e = .returned (.tuple #[.int .i64 (rdp b p t q).1, .int .i64 ((rdp b p t q).2.1 : Int)]) ∧ Pl w' g (rdp b p t q).2.2 ∧ Below g w w' := by
  obtain ⟨ao2, cap2, hbox, hown⟩ := hp
  have hgw : g < w.heap.size := (Array.getElem?_eq_some_iff.1 hbox).1
  have HRN : Hid (Calls Tryd.prog 95 #[v, .int .i64 p] w.drew fun e w' => e = .returned (.tuple #[.int .i64 (rn b p).1, .int .i64 (rn b p).2.1, .int .i64 ((rn b p).2.2 : Int)]) ∧ w' = w.drew) := rnum_any v b p w.drew h.drew hlen
  have HRI : Hid (Calls Tryd.prog 93 #[v, .int .i64 p] w fun e w' => e = .returned (.tuple #[.int .i64 (ri b p).1, .int .i64 (ri b p).2.1, .int .i64 ((ri b p).2.2 : Int)]) ∧ w = w') := readInt_any v b p w h hlen
  have HRB : Hid (∀ m : Int, m ≤ 9223372036854775807 → Calls Tryd.prog 94 #[v, .int .i64 p, .int .i64 m] w fun e w' => ∃ v', e = .returned (.tuple #[v', .int .i64 (rb b p m).2.1, .int .i64 ((rb b p m).2.2 : Int)]) ∧ Own w.heap.size w' v' (rb b p m).1 ∧ Below w.heap.size w w') := fun m hm => readBytes_any v b p m w h hlen hm
  obtain ⟨ao, cap, rfl, _⟩ := h.shape
  obtain ⟨c0, c1, c2, c3, c4, c5, c6, c7, c8, c9, c10, c11⟩ := hbox.cells
  have hfr := fun j => hbox.free j
  have HPL : Hid (∀ t z, 1 ≤ t → t ≤ 9 → Pl (w.setCell ⟨g, t, none⟩ (.int .i64 z)) g { q with x := q.x.put t z } ∧ Below g w (w.setCell ⟨g, t, none⟩ (.int .i64 z))) := fun t z a b => ⟨⟨ao2, cap2, hbox.put t a b z, Own.set hown ⟨g, t, none⟩ _ (Nat.lt_succ_self g)⟩, Below.setCell ((Below.refl _ w).mono (Nat.le_of_lt hgw)) (Nat.le_refl _) _⟩
  clear h hv
  subst ht
  have HE : Hid (rdp b p 1 q = ((rn b p).2.1, (rn b p).2.2, { q with x := q.x.put 1 (rn b p).1 })) := rfl
  rw [HE.out]
  have hf := hfr 1
  clear HRI HRB HE hfr hbox hown
  generalize rn b p = R at *
  obtain ⟨r1, r2, r3⟩ := R
  simp only at *
  go_enter Tryd.func87, Tryd.ntmps87
  go_wp2
  clear c0 c2 c3 c4 c5 c6 c7 c8 c9 c10 c11 hlen hgw
  have HP := HPL
  clear HPL
  go_region_with (go_at_call 95; refine HRN.out.mono ?_; rintro e w1 ⟨rfl, rfl⟩)
  all_goals
    go_wp2
    go_ret2
    exact ⟨rfl, (HP.out 1 _ (by omega) (by omega)).1.drewP, Below.drew (HP.out 1 _ (by omega) (by omega)).2⟩
set_option maxRecDepth 100000 in
set_option maxHeartbeats 4000000 in
theorem read_n2 (v : Value) (b : List Nat) (p : Int) (t : Nat) (g : Nat) (q : Pts) (w : World) (h : Bs w v b) (hlen : b.length ≤ 140737488355328) (hp : Pl w g q) (ht : t = 2) (hv : ∀ w', Below g w w' → Bs w' v b) :
    Calls Tryd.prog 87 #[.pointer (some ⟨g, 0, none⟩), .int .i64 (t : Int), v, .int .i64 p] w fun e w' => e = .returned (.tuple #[.int .i64 (rdp b p t q).1, .int .i64 ((rdp b p t q).2.1 : Int)]) ∧ Pl w' g (rdp b p t q).2.2 ∧ Below g w w' := by
  obtain ⟨ao2, cap2, hbox, hown⟩ := hp
  have hgw : g < w.heap.size := (Array.getElem?_eq_some_iff.1 hbox).1
  have HRN : Hid (Calls Tryd.prog 95 #[v, .int .i64 p] w.drew fun e w' => e = .returned (.tuple #[.int .i64 (rn b p).1, .int .i64 (rn b p).2.1, .int .i64 ((rn b p).2.2 : Int)]) ∧ w' = w.drew) := rnum_any v b p w.drew h.drew hlen
  have HRI : Hid (Calls Tryd.prog 93 #[v, .int .i64 p] w fun e w' => e = .returned (.tuple #[.int .i64 (ri b p).1, .int .i64 (ri b p).2.1, .int .i64 ((ri b p).2.2 : Int)]) ∧ w = w') := readInt_any v b p w h hlen
  have HRB : Hid (∀ m : Int, m ≤ 9223372036854775807 → Calls Tryd.prog 94 #[v, .int .i64 p, .int .i64 m] w fun e w' => ∃ v', e = .returned (.tuple #[v', .int .i64 (rb b p m).2.1, .int .i64 ((rb b p m).2.2 : Int)]) ∧ Own w.heap.size w' v' (rb b p m).1 ∧ Below w.heap.size w w') := fun m hm => readBytes_any v b p m w h hlen hm
  obtain ⟨ao, cap, rfl, _⟩ := h.shape
  obtain ⟨c0, c1, c2, c3, c4, c5, c6, c7, c8, c9, c10, c11⟩ := hbox.cells
  have hfr := fun j => hbox.free j
  have HPL : Hid (∀ t z, 1 ≤ t → t ≤ 9 → Pl (w.setCell ⟨g, t, none⟩ (.int .i64 z)) g { q with x := q.x.put t z } ∧ Below g w (w.setCell ⟨g, t, none⟩ (.int .i64 z))) := fun t z a b => ⟨⟨ao2, cap2, hbox.put t a b z, Own.set hown ⟨g, t, none⟩ _ (Nat.lt_succ_self g)⟩, Below.setCell ((Below.refl _ w).mono (Nat.le_of_lt hgw)) (Nat.le_refl _) _⟩
  clear h hv
  subst ht
  have HE : Hid (rdp b p 2 q = ((rn b p).2.1, (rn b p).2.2, { q with x := q.x.put 2 (rn b p).1 })) := rfl
  rw [HE.out]
  have hf := hfr 2
  clear HRI HRB HE hfr hbox hown
  generalize rn b p = R at *
  obtain ⟨r1, r2, r3⟩ := R
  simp only at *
  go_enter Tryd.func87, Tryd.ntmps87
  go_wp2
  clear c0 c1 c3 c4 c5 c6 c7 c8 c9 c10 c11 hlen hgw
  have HP := HPL
  clear HPL
  go_region_with (go_at_call 95; refine HRN.out.mono ?_; rintro e w1 ⟨rfl, rfl⟩)
  all_goals
    go_wp2
    go_ret2
    exact ⟨rfl, (HP.out 2 _ (by omega) (by omega)).1.drewP, Below.drew (HP.out 2 _ (by omega) (by omega)).2⟩
set_option maxRecDepth 100000 in
set_option maxHeartbeats 4000000 in
theorem read_n3 (v : Value) (b : List Nat) (p : Int) (t : Nat) (g : Nat) (q : Pts) (w : World) (h : Bs w v b) (hlen : b.length ≤ 140737488355328) (hp : Pl w g q) (ht : t = 3) (hv : ∀ w', Below g w w' → Bs w' v b) :
    Calls Tryd.prog 87 #[.pointer (some ⟨g, 0, none⟩), .int .i64 (t : Int), v, .int .i64 p] w fun e w' => e = .returned (.tuple #[.int .i64 (rdp b p t q).1, .int .i64 ((rdp b p t q).2.1 : Int)]) ∧ Pl w' g (rdp b p t q).2.2 ∧ Below g w w' := by
  obtain ⟨ao2, cap2, hbox, hown⟩ := hp
  have hgw : g < w.heap.size := (Array.getElem?_eq_some_iff.1 hbox).1
  have HRN : Hid (Calls Tryd.prog 95 #[v, .int .i64 p] w.drew fun e w' => e = .returned (.tuple #[.int .i64 (rn b p).1, .int .i64 (rn b p).2.1, .int .i64 ((rn b p).2.2 : Int)]) ∧ w' = w.drew) := rnum_any v b p w.drew h.drew hlen
  have HRI : Hid (Calls Tryd.prog 93 #[v, .int .i64 p] w fun e w' => e = .returned (.tuple #[.int .i64 (ri b p).1, .int .i64 (ri b p).2.1, .int .i64 ((ri b p).2.2 : Int)]) ∧ w = w') := readInt_any v b p w h hlen
  have HRB : Hid (∀ m : Int, m ≤ 9223372036854775807 → Calls Tryd.prog 94 #[v, .int .i64 p, .int .i64 m] w fun e w' => ∃ v', e = .returned (.tuple #[v', .int .i64 (rb b p m).2.1, .int .i64 ((rb b p m).2.2 : Int)]) ∧ Own w.heap.size w' v' (rb b p m).1 ∧ Below w.heap.size w w') := fun m hm => readBytes_any v b p m w h hlen hm
  obtain ⟨ao, cap, rfl, _⟩ := h.shape
  obtain ⟨c0, c1, c2, c3, c4, c5, c6, c7, c8, c9, c10, c11⟩ := hbox.cells
  have hfr := fun j => hbox.free j
  have HPL : Hid (∀ t z, 1 ≤ t → t ≤ 9 → Pl (w.setCell ⟨g, t, none⟩ (.int .i64 z)) g { q with x := q.x.put t z } ∧ Below g w (w.setCell ⟨g, t, none⟩ (.int .i64 z))) := fun t z a b => ⟨⟨ao2, cap2, hbox.put t a b z, Own.set hown ⟨g, t, none⟩ _ (Nat.lt_succ_self g)⟩, Below.setCell ((Below.refl _ w).mono (Nat.le_of_lt hgw)) (Nat.le_refl _) _⟩
  clear h hv
  subst ht
  have HE : Hid (rdp b p 3 q = ((rn b p).2.1, (rn b p).2.2, { q with x := q.x.put 3 (rn b p).1 })) := rfl
  rw [HE.out]
  have hf := hfr 3
  clear HRI HRB HE hfr hbox hown
  generalize rn b p = R at *
  obtain ⟨r1, r2, r3⟩ := R
  simp only at *
  go_enter Tryd.func87, Tryd.ntmps87
  go_wp2
  clear c0 c1 c2 c4 c5 c6 c7 c8 c9 c10 c11 hlen hgw
  have HP := HPL
  clear HPL
  go_region_with (go_at_call 95; refine HRN.out.mono ?_; rintro e w1 ⟨rfl, rfl⟩)
  all_goals
    go_wp2
    go_ret2
    exact ⟨rfl, (HP.out 3 _ (by omega) (by omega)).1.drewP, Below.drew (HP.out 3 _ (by omega) (by omega)).2⟩
set_option maxRecDepth 100000 in
set_option maxHeartbeats 4000000 in
theorem read_n4 (v : Value) (b : List Nat) (p : Int) (t : Nat) (g : Nat) (q : Pts) (w : World) (h : Bs w v b) (hlen : b.length ≤ 140737488355328) (hp : Pl w g q) (ht : t = 4) (hv : ∀ w', Below g w w' → Bs w' v b) :
    Calls Tryd.prog 87 #[.pointer (some ⟨g, 0, none⟩), .int .i64 (t : Int), v, .int .i64 p] w fun e w' => e = .returned (.tuple #[.int .i64 (rdp b p t q).1, .int .i64 ((rdp b p t q).2.1 : Int)]) ∧ Pl w' g (rdp b p t q).2.2 ∧ Below g w w' := by
  obtain ⟨ao2, cap2, hbox, hown⟩ := hp
  have hgw : g < w.heap.size := (Array.getElem?_eq_some_iff.1 hbox).1
  have HRN : Hid (Calls Tryd.prog 95 #[v, .int .i64 p] w.drew fun e w' => e = .returned (.tuple #[.int .i64 (rn b p).1, .int .i64 (rn b p).2.1, .int .i64 ((rn b p).2.2 : Int)]) ∧ w' = w.drew) := rnum_any v b p w.drew h.drew hlen
  have HRI : Hid (Calls Tryd.prog 93 #[v, .int .i64 p] w fun e w' => e = .returned (.tuple #[.int .i64 (ri b p).1, .int .i64 (ri b p).2.1, .int .i64 ((ri b p).2.2 : Int)]) ∧ w = w') := readInt_any v b p w h hlen
  have HRB : Hid (∀ m : Int, m ≤ 9223372036854775807 → Calls Tryd.prog 94 #[v, .int .i64 p, .int .i64 m] w fun e w' => ∃ v', e = .returned (.tuple #[v', .int .i64 (rb b p m).2.1, .int .i64 ((rb b p m).2.2 : Int)]) ∧ Own w.heap.size w' v' (rb b p m).1 ∧ Below w.heap.size w w') := fun m hm => readBytes_any v b p m w h hlen hm
  obtain ⟨ao, cap, rfl, _⟩ := h.shape
  obtain ⟨c0, c1, c2, c3, c4, c5, c6, c7, c8, c9, c10, c11⟩ := hbox.cells
  have hfr := fun j => hbox.free j
  have HPL : Hid (∀ t z, 1 ≤ t → t ≤ 9 → Pl (w.setCell ⟨g, t, none⟩ (.int .i64 z)) g { q with x := q.x.put t z } ∧ Below g w (w.setCell ⟨g, t, none⟩ (.int .i64 z))) := fun t z a b => ⟨⟨ao2, cap2, hbox.put t a b z, Own.set hown ⟨g, t, none⟩ _ (Nat.lt_succ_self g)⟩, Below.setCell ((Below.refl _ w).mono (Nat.le_of_lt hgw)) (Nat.le_refl _) _⟩
  clear h hv
  subst ht
  have HE : Hid (rdp b p 4 q = ((rn b p).2.1, (rn b p).2.2, { q with x := q.x.put 4 (rn b p).1 })) := rfl
  rw [HE.out]
  have hf := hfr 4
  clear HRI HRB HE hfr hbox hown
  generalize rn b p = R at *
  obtain ⟨r1, r2, r3⟩ := R
  simp only at *
  go_enter Tryd.func87, Tryd.ntmps87
  go_wp2
  clear c0 c1 c2 c3 c5 c6 c7 c8 c9 c10 c11 hlen hgw
  have HP := HPL
  clear HPL
  go_region_with (go_at_call 95; refine HRN.out.mono ?_; rintro e w1 ⟨rfl, rfl⟩)
  all_goals
    go_wp2
    go_ret2
    exact ⟨rfl, (HP.out 4 _ (by omega) (by omega)).1.drewP, Below.drew (HP.out 4 _ (by omega) (by omega)).2⟩
set_option maxRecDepth 100000 in
set_option maxHeartbeats 4000000 in
theorem read_n5 (v : Value) (b : List Nat) (p : Int) (t : Nat) (g : Nat) (q : Pts) (w : World) (h : Bs w v b) (hlen : b.length ≤ 140737488355328) (hp : Pl w g q) (ht : t = 5) (hv : ∀ w', Below g w w' → Bs w' v b) :
    Calls Tryd.prog 87 #[.pointer (some ⟨g, 0, none⟩), .int .i64 (t : Int), v, .int .i64 p] w fun e w' => e = .returned (.tuple #[.int .i64 (rdp b p t q).1, .int .i64 ((rdp b p t q).2.1 : Int)]) ∧ Pl w' g (rdp b p t q).2.2 ∧ Below g w w' := by
  obtain ⟨ao2, cap2, hbox, hown⟩ := hp
  have hgw : g < w.heap.size := (Array.getElem?_eq_some_iff.1 hbox).1
  have HRN : Hid (Calls Tryd.prog 95 #[v, .int .i64 p] w.drew fun e w' => e = .returned (.tuple #[.int .i64 (rn b p).1, .int .i64 (rn b p).2.1, .int .i64 ((rn b p).2.2 : Int)]) ∧ w' = w.drew) := rnum_any v b p w.drew h.drew hlen
  have HRI : Hid (Calls Tryd.prog 93 #[v, .int .i64 p] w fun e w' => e = .returned (.tuple #[.int .i64 (ri b p).1, .int .i64 (ri b p).2.1, .int .i64 ((ri b p).2.2 : Int)]) ∧ w = w') := readInt_any v b p w h hlen
  have HRB : Hid (∀ m : Int, m ≤ 9223372036854775807 → Calls Tryd.prog 94 #[v, .int .i64 p, .int .i64 m] w fun e w' => ∃ v', e = .returned (.tuple #[v', .int .i64 (rb b p m).2.1, .int .i64 ((rb b p m).2.2 : Int)]) ∧ Own w.heap.size w' v' (rb b p m).1 ∧ Below w.heap.size w w') := fun m hm => readBytes_any v b p m w h hlen hm
  obtain ⟨ao, cap, rfl, _⟩ := h.shape
  obtain ⟨c0, c1, c2, c3, c4, c5, c6, c7, c8, c9, c10, c11⟩ := hbox.cells
  have hfr := fun j => hbox.free j
  have HPL : Hid (∀ t z, 1 ≤ t → t ≤ 9 → Pl (w.setCell ⟨g, t, none⟩ (.int .i64 z)) g { q with x := q.x.put t z } ∧ Below g w (w.setCell ⟨g, t, none⟩ (.int .i64 z))) := fun t z a b => ⟨⟨ao2, cap2, hbox.put t a b z, Own.set hown ⟨g, t, none⟩ _ (Nat.lt_succ_self g)⟩, Below.setCell ((Below.refl _ w).mono (Nat.le_of_lt hgw)) (Nat.le_refl _) _⟩
  clear h hv
  subst ht
  have HE : Hid (rdp b p 5 q = ((rn b p).2.1, (rn b p).2.2, { q with x := q.x.put 5 (rn b p).1 })) := rfl
  rw [HE.out]
  have hf := hfr 5
  clear HRI HRB HE hfr hbox hown
  generalize rn b p = R at *
  obtain ⟨r1, r2, r3⟩ := R
  simp only at *
  go_enter Tryd.func87, Tryd.ntmps87
  go_wp2
  clear c0 c1 c2 c3 c4 c6 c7 c8 c9 c10 c11 hlen hgw
  have HP := HPL
  clear HPL
  go_region_with (go_at_call 95; refine HRN.out.mono ?_; rintro e w1 ⟨rfl, rfl⟩)
  all_goals
    go_wp2
    go_ret2
    exact ⟨rfl, (HP.out 5 _ (by omega) (by omega)).1.drewP, Below.drew (HP.out 5 _ (by omega) (by omega)).2⟩
set_option maxRecDepth 100000 in
set_option maxHeartbeats 4000000 in
theorem read_n6 (v : Value) (b : List Nat) (p : Int) (t : Nat) (g : Nat) (q : Pts) (w : World) (h : Bs w v b) (hlen : b.length ≤ 140737488355328) (hp : Pl w g q) (ht : t = 6) (hv : ∀ w', Below g w w' → Bs w' v b) :
    Calls Tryd.prog 87 #[.pointer (some ⟨g, 0, none⟩), .int .i64 (t : Int), v, .int .i64 p] w fun e w' => e = .returned (.tuple #[.int .i64 (rdp b p t q).1, .int .i64 ((rdp b p t q).2.1 : Int)]) ∧ Pl w' g (rdp b p t q).2.2 ∧ Below g w w' := by
  obtain ⟨ao2, cap2, hbox, hown⟩ := hp
  have hgw : g < w.heap.size := (Array.getElem?_eq_some_iff.1 hbox).1
  have HRN : Hid (Calls Tryd.prog 95 #[v, .int .i64 p] w.drew fun e w' => e = .returned (.tuple #[.int .i64 (rn b p).1, .int .i64 (rn b p).2.1, .int .i64 ((rn b p).2.2 : Int)]) ∧ w' = w.drew) := rnum_any v b p w.drew h.drew hlen
  have HRI : Hid (Calls Tryd.prog 93 #[v, .int .i64 p] w fun e w' => e = .returned (.tuple #[.int .i64 (ri b p).1, .int .i64 (ri b p).2.1, .int .i64 ((ri b p).2.2 : Int)]) ∧ w = w') := readInt_any v b p w h hlen
  have HRB : Hid (∀ m : Int, m ≤ 9223372036854775807 → Calls Tryd.prog 94 #[v, .int .i64 p, .int .i64 m] w fun e w' => ∃ v', e = .returned (.tuple #[v', .int .i64 (rb b p m).2.1, .int .i64 ((rb b p m).2.2 : Int)]) ∧ Own w.heap.size w' v' (rb b p m).1 ∧ Below w.heap.size w w') := fun m hm => readBytes_any v b p m w h hlen hm
  obtain ⟨ao, cap, rfl, _⟩ := h.shape
  obtain ⟨c0, c1, c2, c3, c4, c5, c6, c7, c8, c9, c10, c11⟩ := hbox.cells
  have hfr := fun j => hbox.free j
  have HPL : Hid (∀ t z, 1 ≤ t → t ≤ 9 → Pl (w.setCell ⟨g, t, none⟩ (.int .i64 z)) g { q with x := q.x.put t z } ∧ Below g w (w.setCell ⟨g, t, none⟩ (.int .i64 z))) := fun t z a b => ⟨⟨ao2, cap2, hbox.put t a b z, Own.set hown ⟨g, t, none⟩ _ (Nat.lt_succ_self g)⟩, Below.setCell ((Below.refl _ w).mono (Nat.le_of_lt hgw)) (Nat.le_refl _) _⟩
  clear h hv
  subst ht
  have HE : Hid (rdp b p 6 q = ((rn b p).2.1, (rn b p).2.2, { q with x := q.x.put 6 (rn b p).1 })) := rfl
  rw [HE.out]
  have hf := hfr 6
  clear HRI HRB HE hfr hbox hown
  generalize rn b p = R at *
  obtain ⟨r1, r2, r3⟩ := R
  simp only at *
  go_enter Tryd.func87, Tryd.ntmps87
  go_wp2
  clear c0 c1 c2 c3 c4 c5 c7 c8 c9 c10 c11 hlen hgw
  have HP := HPL
  clear HPL
  go_region_with (go_at_call 95; refine HRN.out.mono ?_; rintro e w1 ⟨rfl, rfl⟩)
  all_goals
    go_wp2
    go_ret2
    exact ⟨rfl, (HP.out 6 _ (by omega) (by omega)).1.drewP, Below.drew (HP.out 6 _ (by omega) (by omega)).2⟩
set_option maxRecDepth 100000 in
set_option maxHeartbeats 4000000 in
theorem read_n8 (v : Value) (b : List Nat) (p : Int) (t : Nat) (g : Nat) (q : Pts) (w : World) (h : Bs w v b) (hlen : b.length ≤ 140737488355328) (hp : Pl w g q) (ht : t = 8) (hv : ∀ w', Below g w w' → Bs w' v b) :
    Calls Tryd.prog 87 #[.pointer (some ⟨g, 0, none⟩), .int .i64 (t : Int), v, .int .i64 p] w fun e w' => e = .returned (.tuple #[.int .i64 (rdp b p t q).1, .int .i64 ((rdp b p t q).2.1 : Int)]) ∧ Pl w' g (rdp b p t q).2.2 ∧ Below g w w' := by
  obtain ⟨ao2, cap2, hbox, hown⟩ := hp
  have hgw : g < w.heap.size := (Array.getElem?_eq_some_iff.1 hbox).1
  have HRN : Hid (Calls Tryd.prog 95 #[v, .int .i64 p] w.drew fun e w' => e = .returned (.tuple #[.int .i64 (rn b p).1, .int .i64 (rn b p).2.1, .int .i64 ((rn b p).2.2 : Int)]) ∧ w' = w.drew) := rnum_any v b p w.drew h.drew hlen
  have HRI : Hid (Calls Tryd.prog 93 #[v, .int .i64 p] w fun e w' => e = .returned (.tuple #[.int .i64 (ri b p).1, .int .i64 (ri b p).2.1, .int .i64 ((ri b p).2.2 : Int)]) ∧ w = w') := readInt_any v b p w h hlen
  have HRB : Hid (∀ m : Int, m ≤ 9223372036854775807 → Calls Tryd.prog 94 #[v, .int .i64 p, .int .i64 m] w fun e w' => ∃ v', e = .returned (.tuple #[v', .int .i64 (rb b p m).2.1, .int .i64 ((rb b p m).2.2 : Int)]) ∧ Own w.heap.size w' v' (rb b p m).1 ∧ Below w.heap.size w w') := fun m hm => readBytes_any v b p m w h hlen hm
  obtain ⟨ao, cap, rfl, _⟩ := h.shape
  obtain ⟨c0, c1, c2, c3, c4, c5, c6, c7, c8, c9, c10, c11⟩ := hbox.cells
  have hfr := fun j => hbox.free j
  have HPL : Hid (∀ t z, 1 ≤ t → t ≤ 9 → Pl (w.setCell ⟨g, t, none⟩ (.int .i64 z)) g { q with x := q.x.put t z } ∧ Below g w (w.setCell ⟨g, t, none⟩ (.int .i64 z))) := fun t z a b => ⟨⟨ao2, cap2, hbox.put t a b z, Own.set hown ⟨g, t, none⟩ _ (Nat.lt_succ_self g)⟩, Below.setCell ((Below.refl _ w).mono (Nat.le_of_lt hgw)) (Nat.le_refl _) _⟩
  clear h hv
  subst ht
  have HE : Hid (rdp b p 8 q = ((rn b p).2.1, (rn b p).2.2, { q with x := q.x.put 8 (rn b p).1 })) := rfl
  rw [HE.out]
  have hf := hfr 8
  clear HRI HRB HE hfr hbox hown
  generalize rn b p = R at *
  obtain ⟨r1, r2, r3⟩ := R
  simp only at *
  go_enter Tryd.func87, Tryd.ntmps87
  go_wp2
  clear c0 c1 c2 c3 c4 c5 c6 c7 c9 c10 c11 hlen hgw
  have HP := HPL
  clear HPL
  go_region_with (go_at_call 95; refine HRN.out.mono ?_; rintro e w1 ⟨rfl, rfl⟩)
  all_goals
    go_wp2
    go_ret2
    exact ⟨rfl, (HP.out 8 _ (by omega) (by omega)).1.drewP, Below.drew (HP.out 8 _ (by omega) (by omega)).2⟩
set_option maxRecDepth 100000 in
set_option maxHeartbeats 4000000 in
theorem read_n9 (v : Value) (b : List Nat) (p : Int) (t : Nat) (g : Nat) (q : Pts) (w : World) (h : Bs w v b) (hlen : b.length ≤ 140737488355328) (hp : Pl w g q) (ht : t = 9) (hv : ∀ w', Below g w w' → Bs w' v b) :
    Calls Tryd.prog 87 #[.pointer (some ⟨g, 0, none⟩), .int .i64 (t : Int), v, .int .i64 p] w fun e w' => e = .returned (.tuple #[.int .i64 (rdp b p t q).1, .int .i64 ((rdp b p t q).2.1 : Int)]) ∧ Pl w' g (rdp b p t q).2.2 ∧ Below g w w' := by
  obtain ⟨ao2, cap2, hbox, hown⟩ := hp
  have hgw : g < w.heap.size := (Array.getElem?_eq_some_iff.1 hbox).1
  have HRN : Hid (Calls Tryd.prog 95 #[v, .int .i64 p] w.drew fun e w' => e = .returned (.tuple #[.int .i64 (rn b p).1, .int .i64 (rn b p).2.1, .int .i64 ((rn b p).2.2 : Int)]) ∧ w' = w.drew) := rnum_any v b p w.drew h.drew hlen
  have HRI : Hid (Calls Tryd.prog 93 #[v, .int .i64 p] w fun e w' => e = .returned (.tuple #[.int .i64 (ri b p).1, .int .i64 (ri b p).2.1, .int .i64 ((ri b p).2.2 : Int)]) ∧ w = w') := readInt_any v b p w h hlen
  have HRB : Hid (∀ m : Int, m ≤ 9223372036854775807 → Calls Tryd.prog 94 #[v, .int .i64 p, .int .i64 m] w fun e w' => ∃ v', e = .returned (.tuple #[v', .int .i64 (rb b p m).2.1, .int .i64 ((rb b p m).2.2 : Int)]) ∧ Own w.heap.size w' v' (rb b p m).1 ∧ Below w.heap.size w w') := fun m hm => readBytes_any v b p m w h hlen hm
  obtain ⟨ao, cap, rfl, _⟩ := h.shape
  obtain ⟨c0, c1, c2, c3, c4, c5, c6, c7, c8, c9, c10, c11⟩ := hbox.cells
  have hfr := fun j => hbox.free j
  have HPL : Hid (∀ t z, 1 ≤ t → t ≤ 9 → Pl (w.setCell ⟨g, t, none⟩ (.int .i64 z)) g { q with x := q.x.put t z } ∧ Below g w (w.setCell ⟨g, t, none⟩ (.int .i64 z))) := fun t z a b => ⟨⟨ao2, cap2, hbox.put t a b z, Own.set hown ⟨g, t, none⟩ _ (Nat.lt_succ_self g)⟩, Below.setCell ((Below.refl _ w).mono (Nat.le_of_lt hgw)) (Nat.le_refl _) _⟩
  clear h hv
  subst ht
  have HE : Hid (rdp b p 9 q = ((rn b p).2.1, (rn b p).2.2, { q with x := q.x.put 9 (rn b p).1 })) := rfl
  rw [HE.out]
  have hf := hfr 9
  clear HRI HRB HE hfr hbox hown
  generalize rn b p = R at *
  obtain ⟨r1, r2, r3⟩ := R
  simp only at *
  go_enter Tryd.func87, Tryd.ntmps87
  go_wp2
  clear c0 c1 c2 c3 c4 c5 c6 c7 c8 c10 c11 hlen hgw
  have HP := HPL
  clear HPL
  go_region_with (go_at_call 95; refine HRN.out.mono ?_; rintro e w1 ⟨rfl, rfl⟩)
  all_goals
    go_wp2
    go_ret2
    exact ⟨rfl, (HP.out 9 _ (by omega) (by omega)).1.drewP, Below.drew (HP.out 9 _ (by omega) (by omega)).2⟩
end Go.Proofs.YtenhaogheilmoaaDoor

/-
  Package record: read, all tags.
-/
namespace Go.Proofs.YtenhaogheilmoaaDoor
open Go Go.RowKit
open Wb

set_option maxRecDepth 100000 in
set_option maxHeartbeats 4000000 in
theorem read_b10 (v : Value) (b : List Nat) (p : Int) (t : Nat) (g : Nat) (q : Pts) (w : World) (h : Bs w v b) (hlen : b.length ≤ 140737488355328) (hp : Pl w g q) (ht : t = 10) (hv : ∀ w', Below g w w' → Bs w' v b) :
    Calls Tryd.prog 87 #[.pointer (some ⟨g, 0, none⟩), .int .i64 (t : Int), v, .int .i64 p] w fun e w' => e = .returned (.tuple #[.int .i64 (rdp b p t q).1, .int .i64 ((rdp b p t q).2.1 : Int)]) ∧ Pl w' g (rdp b p t q).2.2 ∧ Below g w w' := by
  obtain ⟨ao2, cap2, hbox, hown⟩ := hp
  have hgw : g < w.heap.size := (Array.getElem?_eq_some_iff.1 hbox).1
  have HRN : Hid (Calls Tryd.prog 95 #[v, .int .i64 p] w.drew fun e w' => e = .returned (.tuple #[.int .i64 (rn b p).1, .int .i64 (rn b p).2.1, .int .i64 ((rn b p).2.2 : Int)]) ∧ w' = w.drew) := rnum_any v b p w.drew h.drew hlen
  have HRI : Hid (Calls Tryd.prog 93 #[v, .int .i64 p] w fun e w' => e = .returned (.tuple #[.int .i64 (ri b p).1, .int .i64 (ri b p).2.1, .int .i64 ((ri b p).2.2 : Int)]) ∧ w = w') := readInt_any v b p w h hlen
  have HRB : Hid (∀ m : Int, m ≤ 9223372036854775807 → Calls Tryd.prog 94 #[v, .int .i64 p, .int .i64 m] w fun e w' => ∃ v', e = .returned (.tuple #[v', .int .i64 (rb b p m).2.1, .int .i64 ((rb b p m).2.2 : Int)]) ∧ Own w.heap.size w' v' (rb b p m).1 ∧ Below w.heap.size w w') := fun m hm => readBytes_any v b p m w h hlen hm
  obtain ⟨ao, cap, rfl, _⟩ := h.shape
  obtain ⟨c0, c1, c2, c3, c4, c5, c6, c7, c8, c9, c10, c11⟩ := hbox.cells
  have hfr := fun j => hbox.free j
  have HPL : Hid (∀ t z, 1 ≤ t → t ≤ 9 → Pl (w.setCell ⟨g, t, none⟩ (.int .i64 z)) g { q with x := q.x.put t z } ∧ Below g w (w.setCell ⟨g, t, none⟩ (.int .i64 z))) := fun t z a b => ⟨⟨ao2, cap2, hbox.put t a b z, Own.set hown ⟨g, t, none⟩ _ (Nat.lt_succ_self g)⟩, Below.setCell ((Below.refl _ w).mono (Nat.le_of_lt hgw)) (Nat.le_refl _) _⟩
  clear h hv
  subst ht
  have HE : Hid (rdp b p 10 q = ((rb b p 192).2.1, (rb b p 192).2.2, { q with nm := (rb b p 192).1 })) := rfl
  rw [HE.out]
  have HRB2 : Hid (Calls Tryd.prog 94 #[.slice ao b.length cap, .int .i64 p, .int .i64 192] w fun e w' => ∃ v', e = .returned (.tuple #[v', .int .i64 (rb b p 192).2.1, .int .i64 ((rb b p 192).2.2 : Int)]) ∧ Own w.heap.size w' v' (rb b p 192).1 ∧ Below w.heap.size w w') := HRB.out 192 (by decide)
  have HK : Hid (∀ w1, Below w.heap.size w w1 → PBox w1 g q.x (bstr q.nm) (.slice ao2 q.l.length cap2) ∧ Own (g + 1) w1 (.slice ao2 q.l.length cap2) q.l) := fun w1 hb => ⟨hbox.kept hb, hown.kept hb⟩
  clear HRN HRI HRB HE hfr hbox hown HPL c0 c1 c2 c3 c4 c5 c6 c7 c8 c9 c10 c11
  generalize rb b p 192 = R at *
  obtain ⟨r1, r2, r3⟩ := R
  simp only at *
  go_enter Tryd.func87, Tryd.ntmps87
  go_wp2_with fail
  refine HRB2.out.mono ?_
  rintro e w1 ⟨v1, rfl, ho1, b1⟩
  obtain ⟨ao1, cap1, rfl, _⟩ := ho1.bs.shape
  have hcv := conv_bs ho1.bs
  obtain ⟨hbx, how⟩ := HK.out _ b1
  have hcl := hbx.cells.2.2.2.2.2.2.2.2.2.2.1
  have hfz := hbx.free 10
  have HF : Hid (Pl (w1.setCell ⟨g, 10, none⟩ (.string (bstr r1))) g { q with nm := r1 } ∧ Below g w (w1.setCell ⟨g, 10, none⟩ (.string (bstr r1)))) := ⟨⟨ao2, cap2, hbx.name _, Own.set how ⟨g, 10, none⟩ _ (Nat.lt_succ_self g)⟩, Below.setCell (b1.mono (Nat.le_of_lt hgw)) (Nat.le_refl _) _⟩
  clear hbx how ho1 b1 HK HRB2
  go_wp2
  go_ret2
  exact ⟨rfl, HF.out.1, HF.out.2⟩
set_option maxRecDepth 100000 in
set_option maxHeartbeats 4000000 in
theorem read_b11 (v : Value) (b : List Nat) (p : Int) (t : Nat) (g : Nat) (q : Pts) (w : World) (h : Bs w v b) (hlen : b.length ≤ 140737488355328) (hp : Pl w g q) (ht : t = 11) (hv : ∀ w', Below g w w' → Bs w' v b) :
    Calls Tryd.prog 87 #[.pointer (some ⟨g, 0, none⟩), .int .i64 (t : Int), v, .int .i64 p] w fun e w' => e = .returned (.tuple #[.int .i64 (rdp b p t q).1, .int .i64 ((rdp b p t q).2.1 : Int)]) ∧ Pl w' g (rdp b p t q).2.2 ∧ Below g w w' := by
  obtain ⟨ao2, cap2, hbox, hown⟩ := hp
  have hgw : g < w.heap.size := (Array.getElem?_eq_some_iff.1 hbox).1
  have HRN : Hid (Calls Tryd.prog 95 #[v, .int .i64 p] w.drew fun e w' => e = .returned (.tuple #[.int .i64 (rn b p).1, .int .i64 (rn b p).2.1, .int .i64 ((rn b p).2.2 : Int)]) ∧ w' = w.drew) := rnum_any v b p w.drew h.drew hlen
  have HRI : Hid (Calls Tryd.prog 93 #[v, .int .i64 p] w fun e w' => e = .returned (.tuple #[.int .i64 (ri b p).1, .int .i64 (ri b p).2.1, .int .i64 ((ri b p).2.2 : Int)]) ∧ w = w') := readInt_any v b p w h hlen
  have HRB : Hid (∀ m : Int, m ≤ 9223372036854775807 → Calls Tryd.prog 94 #[v, .int .i64 p, .int .i64 m] w fun e w' => ∃ v', e = .returned (.tuple #[v', .int .i64 (rb b p m).2.1, .int .i64 ((rb b p m).2.2 : Int)]) ∧ Own w.heap.size w' v' (rb b p m).1 ∧ Below w.heap.size w w') := fun m hm => readBytes_any v b p m w h hlen hm
  obtain ⟨ao, cap, rfl, _⟩ := h.shape
  obtain ⟨c0, c1, c2, c3, c4, c5, c6, c7, c8, c9, c10, c11⟩ := hbox.cells
  have hfr := fun j => hbox.free j
  have HPL : Hid (∀ t z, 1 ≤ t → t ≤ 9 → Pl (w.setCell ⟨g, t, none⟩ (.int .i64 z)) g { q with x := q.x.put t z } ∧ Below g w (w.setCell ⟨g, t, none⟩ (.int .i64 z))) := fun t z a b => ⟨⟨ao2, cap2, hbox.put t a b z, Own.set hown ⟨g, t, none⟩ _ (Nat.lt_succ_self g)⟩, Below.setCell ((Below.refl _ w).mono (Nat.le_of_lt hgw)) (Nat.le_refl _) _⟩
  clear h hv
  subst ht
  have HE : Hid (rdp b p 11 q = ((rb b p 16384).2.1, (rb b p 16384).2.2, { q with l := (rb b p 16384).1 })) := rfl
  rw [HE.out]
  have HRB2 : Hid (Calls Tryd.prog 94 #[.slice ao b.length cap, .int .i64 p, .int .i64 16384] w fun e w' => ∃ v', e = .returned (.tuple #[v', .int .i64 (rb b p 16384).2.1, .int .i64 ((rb b p 16384).2.2 : Int)]) ∧ Own w.heap.size w' v' (rb b p 16384).1 ∧ Below w.heap.size w w') := HRB.out 16384 (by decide)
  have HK : Hid (∀ w1, Below w.heap.size w w1 → PBox w1 g q.x (bstr q.nm) (.slice ao2 q.l.length cap2) ∧ Own (g + 1) w1 (.slice ao2 q.l.length cap2) q.l) := fun w1 hb => ⟨hbox.kept hb, hown.kept hb⟩
  clear HRN HRI HRB HE hfr hbox hown HPL c0 c1 c2 c3 c4 c5 c6 c7 c8 c9 c10 c11
  generalize rb b p 16384 = R at *
  obtain ⟨r1, r2, r3⟩ := R
  simp only at *
  go_enter Tryd.func87, Tryd.ntmps87
  go_wp2_with fail
  refine HRB2.out.mono ?_
  rintro e w1 ⟨v1, rfl, ho1, b1⟩
  obtain ⟨ao1, cap1, rfl, _⟩ := ho1.bs.shape
  have hcv := conv_bs ho1.bs
  obtain ⟨hbx, how⟩ := HK.out _ b1
  have hcl := hbx.cells.2.2.2.2.2.2.2.2.2.2.2
  have hfz := hbx.free 11
  have HF : Hid (Pl (w1.setCell ⟨g, 11, none⟩ (.slice ao1 r1.length cap1)) g { q with l := r1 } ∧ Below g w (w1.setCell ⟨g, 11, none⟩ (.slice ao1 r1.length cap1))) := ⟨⟨ao1, cap1, hbx.data _, Own.set (ho1.mono hgw) ⟨g, 11, none⟩ _ (Nat.lt_succ_self g)⟩, Below.setCell (b1.mono (Nat.le_of_lt hgw)) (Nat.le_refl _) _⟩
  clear hbx how ho1 b1 HK HRB2
  go_wp2
  go_ret2
  exact ⟨rfl, HF.out.1, HF.out.2⟩
theorem read_any (v : Value) (b : List Nat) (p : Int) (t : Nat) (g : Nat) (q : Pts) (w : World) (h : Bs w v b) (hlen : b.length ≤ 140737488355328) (hp : Pl w g q) (h1 : 1 ≤ t) (h2 : t ≤ 11) (hv : ∀ w', Below g w w' → Bs w' v b) :
    Calls Tryd.prog 87 #[.pointer (some ⟨g, 0, none⟩), .int .i64 (t : Int), v, .int .i64 p] w fun e w' => e = .returned (.tuple #[.int .i64 (rdp b p t q).1, .int .i64 ((rdp b p t q).2.1 : Int)]) ∧ Pl w' g (rdp b p t q).2.2 ∧ Below g w w' := by
  obtain rfl | rfl | rfl | rfl | rfl | rfl | rfl | rfl | rfl | rfl | rfl : t = 1 ∨ t = 2 ∨ t = 3 ∨ t = 4 ∨ t = 5 ∨ t = 6 ∨ t = 7 ∨ t = 8 ∨ t = 9 ∨ t = 10 ∨ t = 11 := by omega
  · exact read_n1 v b p _ g q w h hlen hp rfl hv
  · exact read_n2 v b p _ g q w h hlen hp rfl hv
  · exact read_n3 v b p _ g q w h hlen hp rfl hv
  · exact read_n4 v b p _ g q w h hlen hp rfl hv
  · exact read_n5 v b p _ g q w h hlen hp rfl hv
  · exact read_n6 v b p _ g q w h hlen hp rfl hv
  · exact read_seven v b p _ g q w h hlen hp rfl hv
  · exact read_n8 v b p _ g q w h hlen hp rfl hv
  · exact read_n9 v b p _ g q w h hlen hp rfl hv
  · exact read_b10 v b p _ g q w h hlen hp rfl hv
  · exact read_b11 v b p _ g q w h hlen hp rfl hv
end Go.Proofs.YtenhaogheilmoaaDoor

/-
  Package record: joined, readParts.
-/
namespace Go.Proofs.YtenhaogheilmoaaDoor
open Go Go.RowKit
open Wb

def Nums.ofV (x : Nums) (v : Int) : Nums := { x with v := v }
set_option maxRecDepth 100000 in
theorem joined_any (x : Nums) (nm : ByteArray) (ao : Option Addr) (n cap : Nat) (v : Int) (w : World) :
    Calls Tryd.prog 79 #[pv x nm (.slice ao n cap), .int .i64 v] w fun e w' => e = .returned (rv (x.ofV v) nm (.slice ao n cap)) ∧ Below w.heap.size w w' := by
  unfold pv rv
  go_enter Tryd.func79, Tryd.ntmps79
  go_wp2
  go_returns
  exact ⟨rfl, by go_grown⟩
def zeroNums : Nums := ⟨0, 0, 0, 0, 0, 0, 0, 0, 0, 0⟩
def zeroPts : Pts := ⟨zeroNums, [], []⟩
theorem bstr_nil : bstr [] = ⟨#[]⟩ := rfl
/-- readParts' answer from a place on; n: how many fields may still come -/
def rpF (b : List Nat) : Nat → Int → Nat → Pts → Nat × Pts
  | 0, _, _, q => (0, q)
  | n + 1, at', last, q =>
    if at' < (b.length : Int) then
      (if (rt b at' last).2.2 ≠ 0 then ((rt b at' last).2.2, zeroPts)
       else if (rdp b (rt b at' last).2.1 (rt b at' last).1 q).2.1 ≠ 0 then ((rdp b (rt b at' last).2.1 (rt b at' last).1 q).2.1, zeroPts)
       else if zeroT (rdp b (rt b at' last).2.1 (rt b at' last).1 q).2.2.x (bstr (rdp b (rt b at' last).2.1 (rt b at' last).1 q).2.2.nm) (rdp b (rt b at' last).2.1 (rt b at' last).1 q).2.2.l.length (rt b at' last).1 then (38, zeroPts)
       else rpF b n (rdp b (rt b at' last).2.1 (rt b at' last).1 q).1 (rt b at' last).1 (rdp b (rt b at' last).2.1 (rt b at' last).1 q).2.2)
    else (0, q)
theorem rt_ok (b : List Nat) (p : Int) (last : Nat) (h : (rt b p last).2.2 = 0) : last < (rt b p last).1 ∧ (rt b p last).1 ≤ 11 := by
  unfold rt at h ⊢
  split
  · rename_i h1; rw [if_pos h1] at h; exact absurd h h1
  · rename_i h1
    rw [if_neg h1] at h
    split
    · rename_i h2; rw [if_pos h2] at h; simp at h
    · rename_i h2; simp only; omega
/-- what is read is short -/
def Pts.fits (q : Pts) : Prop := q.nm.length ≤ 192 ∧ q.l.length ≤ 16384
theorem rb_short (b : List Nat) (p m : Int) (hm : 0 ≤ m) : ((rb b p m).1.length : Int) ≤ m := by
  unfold rb
  rw [if_neg (by omega)]
  by_cases h1 : (Wn.ru b p).2.2 ≠ 0
  · rw [if_pos h1]; simpa using hm
  · rw [if_neg h1]
    by_cases h2 : m < ((Wn.ru b p).1 : Int)
    · rw [if_pos h2]; simpa using hm
    · rw [if_neg h2]
      split
      · simpa using hm
      · simp only [List.length_drop, List.length_take]
        omega
theorem rdp_fits (b : List Nat) (p : Int) (t : Nat) (q : Pts) (h : q.fits) : (rdp b p t q).2.2.fits := by
  unfold rdp
  split
  · exact h
  · split
    · have := rb_short b p 192 (by decide)
      exact ⟨by show (rb b p 192).1.length ≤ 192; omega, h.2⟩
    · split
      · have := rb_short b p 16384 (by decide)
        exact ⟨h.1, by show (rb b p 16384).1.length ≤ 16384; omega⟩
      · exact h
theorem PBox.there {w : World} {g : Nat} {x : Nums} {nm : ByteArray} {d : Value} (h : PBox w g x nm d) : w.there g 0 12 := by
  intro j hj
  rw [Nat.zero_add]
  obtain ⟨c0, c1, c2, c3, c4, c5, c6, c7, c8, c9, c10, c11⟩ := h.cells
  match j, hj with
  | 0, _ => exact ⟨by rw [c0]; rfl, h.free 0⟩
  | 1, _ => exact ⟨by rw [c1]; rfl, h.free 1⟩
  | 2, _ => exact ⟨by rw [c2]; rfl, h.free 2⟩
  | 3, _ => exact ⟨by rw [c3]; rfl, h.free 3⟩
  | 4, _ => exact ⟨by rw [c4]; rfl, h.free 4⟩
  | 5, _ => exact ⟨by rw [c5]; rfl, h.free 5⟩
  | 6, _ => exact ⟨by rw [c6]; rfl, h.free 6⟩
  | 7, _ => exact ⟨by rw [c7]; rfl, h.free 7⟩
  | 8, _ => exact ⟨by rw [c8]; rfl, h.free 8⟩
  | 9, _ => exact ⟨by rw [c9]; rfl, h.free 9⟩
  | 10, _ => exact ⟨by rw [c10]; rfl, h.free 10⟩
  | 11, _ => exact ⟨by rw [c11]; rfl, h.free 11⟩
/-- a struct's cell and a slot as results -/
theorem results_cell_slot {P : Program} {fn : Func} {p s : Tmp} {ty : TypeId} (h : fn.results = #[.cell p ty, .tmp s]) (tmps : Array Value) (w : World) (g : Nat) (cs : List Value) (d : TypeDesc)
    (hp : tmps.getD p undef = .pointer (some ⟨g, 0, none⟩)) (hc : w.rangeAt g 0 cs) (hu : P.underlying ty = some d) (hd : d.isRow = true) (hi : (P.info? ty).map (·.size) = some cs.length) :
    (results fn tmps).run P w = .ok (.tuple #[.agg cs.toArray, tmps.getD s undef]) w := by
  have hp' : tmps[p]?.getD undef = .pointer (some ⟨g, 0, none⟩) := by simpa using hp
  simp [results, h, hp', asAddr, run_loadVar_mid w g 0 ty cs d hc hu hd hi]
end Go.Proofs.YtenhaogheilmoaaDoor

/-
  Package record: readParts.
-/
namespace Go.Proofs.YtenhaogheilmoaaDoor
open Go Go.RowKit
open Wb

theorem cells_other (g : Nat) : ∀ (vs : List Value) (o : Nat) (w : World) (i : Nat), i ≠ g → (w.setCells g o vs).heap[i]? = w.heap[i]?
  | [], _, _, _, _ => rfl
  | v :: r, o, w, i, h => by
    show ((w.setCell ⟨g, o, none⟩ v).setCells g (o + 1) r).heap[i]? = _
    rw [cells_other g r (o + 1) _ i h, set_other w ⟨g, o, none⟩ v i h]
theorem below_cells {B g : Nat} {a : World} (hg : B ≤ g) : ∀ (vs : List Value) (o : Nat) (w : World), Below B a w → Below B a (w.setCells g o vs)
  | [], _, _, h => h
  | v :: r, o, _, h => below_cells hg r (o + 1) _ (Below.setCell h hg v)
theorem Own.cells {B : Nat} {w : World} {v : Value} {l : List Nat} (h : Own B w v l) (g o : Nat) (vs : List Value) (hp : g < B) : Own B (w.setCells g o vs) v l := by
  refine ⟨⟨h.row.1, ?_⟩, h.good⟩
  rcases h.row.2 with h1 | ⟨g', cap, cur, rfl, h1, hg, rest⟩
  · exact .inl h1
  · exact .inr ⟨g', cap, cur, rfl, h1, (cells_other g vs o w g' (by omega)).trans hg, rest⟩

theorem infoParts : (Tryd.prog.info? 65).map (·.size) = some 12 := by kernel_rfl
set_option maxRecDepth 100000 in
set_option maxHeartbeats 4000000 in
theorem rparts_any (v : Value) (b : List Nat) (w : World) (h : Bs w v b) (hlen : b.length ≤ 140737488355328) (A : Nat × Pts) (hA : rpF b 12 0 0 zeroPts = A) :
    Calls Tryd.prog 78 #[v] w fun e w' => ∃ ao cap, e = .returned (.tuple #[pv A.2.x (bstr A.2.nm) (.slice ao A.2.l.length cap), .int .i64 (A.1 : Int)]) ∧ Own w.heap.size w' (.slice ao A.2.l.length cap) A.2.l ∧ Below w.heap.size w w' := by
  have HA : Hid (rpF b 12 0 0 zeroPts = A) := hA
  have HIP : Hid ((Tryd.prog.info? 65).map (·.size) = some 12) := infoParts
  have HV : Hid (∀ w', Below w.heap.size w w' → Bs w' v b) := fun w' hb => h.kept hb
  have HX : Hid (∀ o1 o2, ((w.alloc o1).alloc o2).heap[w.heap.size]? = some o1 ∧ ((w.alloc o1).alloc o2).heap[w.heap.size + 1]? = some o2 ∧ Below w.heap.size w ((w.alloc o1).alloc o2)) := fun o1 o2 => heap2 w o1 o2
  obtain ⟨ao, cap, rfl, _⟩ := h.shape
  clear h hA
  unfold pv
  go_enter Tryd.func78, Tryd.ntmps78
  go_wp2
  go_loopw [5, 6] (fun i j wr => ∃ (at' : Int) (last n : Nat) (q : Pts), i = .int .i64 at' ∧ j = .int .i64 (last : Int) ∧ last ≤ 11 ∧ 12 ≤ n + last ∧ rpF b n at' last q = A ∧ Pl wr (w.heap.size + 1) q ∧ PBox wr w.heap.size zeroNums ⟨#[]⟩ (.slice none 0 0) ∧ Below w.heap.size w wr) (fun _ j _ => 12 - (intOf j).toNat)
  case atStart => exact ⟨0, 0, 12, zeroPts, rfl, rfl, by omega, by omega, HA.out, ⟨none, 0, (HX.out _ _).2.1, Own.nil _ _⟩, (HX.out _ _).1, (HX.out _ _).2.2⟩
  case round =>
    obtain ⟨at', last, n, q, rfl, rfl, hlast, hn, hr, hpl, hz, hbel⟩ := hrel
    obtain ⟨n, rfl⟩ : ∃ m, n = m + 1 := ⟨n - 1, by omega⟩
    have HR : Hid (rpF b (n + 1) at' last q = A) := hr
    clear hr HA HX
    by_cases hlt : at' < (b.length : Int)
    · have HRT : Hid (Calls Tryd.prog 86 #[.slice ao b.length cap, .int .i64 at', .int .i64 (last : Int)] wr fun e w' => e = .returned (.tuple #[.int .i64 ((rt b at' last).1 : Int), .int .i64 (rt b at' last).2.1, .int .i64 ((rt b at' last).2.2 : Int)]) ∧ w' = wr) := rtag_any _ b at' last wr (HV.out _ hbel) hlen hlast
      have HR2 : Hid (A = if (rt b at' last).2.2 ≠ 0 then ((rt b at' last).2.2, zeroPts)
       else if (rdp b (rt b at' last).2.1 (rt b at' last).1 q).2.1 ≠ 0 then ((rdp b (rt b at' last).2.1 (rt b at' last).1 q).2.1, zeroPts)
       else if zeroT (rdp b (rt b at' last).2.1 (rt b at' last).1 q).2.2.x (bstr (rdp b (rt b at' last).2.1 (rt b at' last).1 q).2.2.nm) (rdp b (rt b at' last).2.1 (rt b at' last).1 q).2.2.l.length (rt b at' last).1 then (38, zeroPts)
       else rpF b n (rdp b (rt b at' last).2.1 (rt b at' last).1 q).1 (rt b at' last).1 (rdp b (rt b at' last).2.1 (rt b at' last).1 q).2.2) := by show _ = _; rw [← HR.out, rpF, if_pos hlt]
      have HOK : Hid ((rt b at' last).2.2 = 0 → last < (rt b at' last).1 ∧ (rt b at' last).1 ≤ 11) := rt_ok b at' last
      clear HR
      generalize rt b at' last = T at *
      obtain ⟨tag, frm, e1⟩ := T
      simp only at HRT HR2 HOK
      by_cases he1 : e1 = 0
      · subst he1
        obtain ⟨ht1, ht2⟩ := HOK.out rfl
        have HRD : Hid (Calls Tryd.prog 87 #[.pointer (some ⟨w.heap.size + 1, 0, none⟩), .int .i64 (tag : Int), .slice ao b.length cap, .int .i64 frm] wr fun e w' => e = .returned (.tuple #[.int .i64 (rdp b frm tag q).1, .int .i64 ((rdp b frm tag q).2.1 : Int)]) ∧ Pl w' (w.heap.size + 1) (rdp b frm tag q).2.2 ∧ Below (w.heap.size + 1) wr w') := read_any _ b frm tag (w.heap.size + 1) q wr (HV.out _ hbel) hlen hpl (by omega) ht2 (fun w' hb => HV.out _ (hbel.trans (hb.mono (Nat.le_succ _))))
        have HR3 : Hid (A = if (rdp b frm tag q).2.1 ≠ 0 then ((rdp b frm tag q).2.1, zeroPts) else if zeroT (rdp b frm tag q).2.2.x (bstr (rdp b frm tag q).2.2.nm) (rdp b frm tag q).2.2.l.length tag then (38, zeroPts) else rpF b n (rdp b frm tag q).1 tag (rdp b frm tag q).2.2) := by show _ = _; rw [HR2.out, if_neg (by simp)]
        have HZ : Hid (∀ w', Below (w.heap.size + 1) wr w' → PBox w' w.heap.size zeroNums ⟨#[]⟩ (.slice none 0 0) ∧ Below w.heap.size w w') := fun w' hb => ⟨(hb.block w.heap.size (Nat.lt_succ_self _)).trans hz, hbel.trans (hb.mono (Nat.le_succ _))⟩
        clear HR2 HOK hpl hz hbel
        generalize rdp b frm tag q = D at *
        obtain ⟨end', e2, q2⟩ := D
        simp only at HRD HR3
        go_wp2_with fail
        refine HRT.out.mono ?_
        rintro e w1 ⟨rfl, rfl⟩
        go_wp2_with fail
        refine HRD.out.mono ?_
        rintro e w2 ⟨rfl, hpl2, b2⟩
        have HZ2 := HZ.out _ b2
        clear HZ b2 HRT HRD
        obtain ⟨hz, hbel⟩ := HZ2
        by_cases he2 : e2 = 0
        · subst he2
          have HR4 : Hid (A = if zeroT q2.x (bstr q2.nm) q2.l.length tag then (38, zeroPts) else rpF b n end' tag q2) := by show _ = _; rw [HR3.out, if_neg (by simp)]
          clear HR3
          obtain ⟨ao2, cap2, hbx, how⟩ := hpl2
          obtain ⟨c0, c1, c2, c3, c4, c5, c6, c7, c8, c9, c10, c11⟩ := hbx.cells
          have HIZ : Hid (Calls Tryd.prog 35 #[pv q2.x (bstr q2.nm) (.slice ao2 q2.l.length cap2), .int .i64 (tag : Int)] w2 fun e w'' => e = .returned (.bool (zeroT q2.x (bstr q2.nm) q2.l.length tag)) ∧ Below w2.heap.size w2 w'') := isZero_any q2.x (bstr q2.nm) ao2 q2.l.length cap2 tag w2 (by omega) ht2
          have HK : Hid (∀ w', Below w2.heap.size w2 w' → Pl w' (w.heap.size + 1) q2 ∧ PBox w' w.heap.size zeroNums ⟨#[]⟩ (.slice none 0 0) ∧ Below w.heap.size w w') := fun w' hb => ⟨⟨ao2, cap2, hbx.kept hb, how.kept hb⟩, hz.kept hb, andThen hbel hb⟩
          clear hbx how hz hbel
          unfold pv at HIZ
          cases hzt : zeroT q2.x (bstr q2.nm) q2.l.length tag with
          | true =>
            have HF : Hid ((38, zeroPts) = A) := by show _ = _; rw [HR4.out, hzt]; rfl
            rw [hzt] at HIZ
            clear HR4 hzt
            go_wp2_with fail
            refine HIZ.out.mono ?_
            rintro e w3 ⟨rfl, b3⟩
            have HK3 := HK.out _ b3
            clear HK HIZ b3 c0 c1 c2 c3 c4 c5 c6 c7 c8 c9 c10 c11
            obtain ⟨_, hz, hbel⟩ := HK3
            obtain ⟨z0, z1, z2, z3, z4, z5, z6, z7, z8, z9, z10, z11⟩ := hz.cells
            have f0 := hz.free 0
            have f1 := hz.free 1
            have f2 := hz.free 2
            have f3 := hz.free 3
            have f4 := hz.free 4
            have f5 := hz.free 5
            have f6 := hz.free 6
            have f7 := hz.free 7
            have f8 := hz.free 8
            have f9 := hz.free 9
            have f10 := hz.free 10
            have f11 := hz.free 11
            have HTH : Hid (w3.there w.heap.size 0 12) := hz.there
            have HBF : Hid (Below w.heap.size w (w3.setCells w.heap.size 0 [.int .i64 0, .int .i64 0, .int .i64 0, .int .i64 0, .int .i64 0, .int .i64 0, .int .i64 0, .int .i64 0, .int .i64 0, .int .i64 0, .string ⟨#[]⟩, .slice none 0 0])) := below_cells (Nat.le_refl _) _ 0 _ hbel
            go_wp2
            have HRG := World.rangeAt_setCells_same w3 w.heap.size 0 [.int .i64 0, .int .i64 0, .int .i64 0, .int .i64 0, .int .i64 0, .int .i64 0, .int .i64 0, .int .i64 0, .int .i64 0, .int .i64 0, .string ⟨#[]⟩, .slice none 0 0] HTH.out
            refine bodyPost_ret (results_cell_slot (p := 2) (s := 3) (ty := 65) rfl _ _ w.heap.size [.int .i64 0, .int .i64 0, .int .i64 0, .int .i64 0, .int .i64 0, .int .i64 0, .int .i64 0, .int .i64 0, .int .i64 0, .int .i64 0, .string ⟨#[]⟩, .slice none 0 0] _ rfl HRG Tryd.underlying65 rfl HIP.out) rfl ?_
            have hF := HF.out
            subst hF
            exact ⟨none, 0, rfl, Own.nil _ _, HBF.out⟩
          | false =>
            have HF : Hid (rpF b n end' tag q2 = A) := by show _ = _; rw [HR4.out, hzt]; rfl
            rw [hzt] at HIZ
            clear HR4 hzt
            go_wp2_with fail
            refine HIZ.out.mono ?_
            rintro e w3 ⟨rfl, b3⟩
            have HK3 : Hid (Pl w3 (w.heap.size + 1) q2 ∧ PBox w3 w.heap.size zeroNums ⟨#[]⟩ (.slice none 0 0) ∧ Below w.heap.size w w3) := HK.out _ b3
            clear HK HIZ b3 c0 c1 c2 c3 c4 c5 c6 c7 c8 c9 c10 c11
            go_wp2
            go_roundw
            case rel => exact ⟨end', tag, n, q2, rfl, rfl, ht2, by omega, HF.out, HK3.out.1, HK3.out.2.1, HK3.out.2.2⟩
            case measure => simp [intOf]; omega
        · have HF : Hid ((e2, zeroPts) = A) := by show _ = _; rw [HR3.out, if_pos he2]
          have d2 : ((e2 : Int) != 0) = true := by rw [bne_iff_ne]; omega
          clear HR3 hpl2 he2
          obtain ⟨z0, z1, z2, z3, z4, z5, z6, z7, z8, z9, z10, z11⟩ := hz.cells
          have f0 := hz.free 0
          have f1 := hz.free 1
          have f2 := hz.free 2
          have f3 := hz.free 3
          have f4 := hz.free 4
          have f5 := hz.free 5
          have f6 := hz.free 6
          have f7 := hz.free 7
          have f8 := hz.free 8
          have f9 := hz.free 9
          have f10 := hz.free 10
          have f11 := hz.free 11
          have HTH : Hid (w2.there w.heap.size 0 12) := hz.there
          have HBF : Hid (Below w.heap.size w (w2.setCells w.heap.size 0 [.int .i64 0, .int .i64 0, .int .i64 0, .int .i64 0, .int .i64 0, .int .i64 0, .int .i64 0, .int .i64 0, .int .i64 0, .int .i64 0, .string ⟨#[]⟩, .slice none 0 0])) := below_cells (Nat.le_refl _) _ 0 _ hbel
          go_wp2
          have HRG := World.rangeAt_setCells_same w2 w.heap.size 0 [.int .i64 0, .int .i64 0, .int .i64 0, .int .i64 0, .int .i64 0, .int .i64 0, .int .i64 0, .int .i64 0, .int .i64 0, .int .i64 0, .string ⟨#[]⟩, .slice none 0 0] HTH.out
          refine bodyPost_ret (results_cell_slot (p := 2) (s := 3) (ty := 65) rfl _ _ w.heap.size [.int .i64 0, .int .i64 0, .int .i64 0, .int .i64 0, .int .i64 0, .int .i64 0, .int .i64 0, .int .i64 0, .int .i64 0, .int .i64 0, .string ⟨#[]⟩, .slice none 0 0] _ rfl HRG Tryd.underlying65 rfl HIP.out) rfl ?_
          have hF := HF.out
          subst hF
          exact ⟨none, 0, rfl, Own.nil _ _, HBF.out⟩
      · have HF : Hid ((e1, zeroPts) = A) := by show _ = _; rw [HR2.out, if_pos he1]
        have d1 : ((e1 : Int) != 0) = true := by rw [bne_iff_ne]; omega
        clear HR2 HOK he1 hpl
        go_wp2_with fail
        refine HRT.out.mono ?_
        rintro e w1 ⟨rfl, rfl⟩
        clear HRT
        obtain ⟨z0, z1, z2, z3, z4, z5, z6, z7, z8, z9, z10, z11⟩ := hz.cells
        have f0 := hz.free 0
        have f1 := hz.free 1
        have f2 := hz.free 2
        have f3 := hz.free 3
        have f4 := hz.free 4
        have f5 := hz.free 5
        have f6 := hz.free 6
        have f7 := hz.free 7
        have f8 := hz.free 8
        have f9 := hz.free 9
        have f10 := hz.free 10
        have f11 := hz.free 11
        have HTH : Hid (w1.there w.heap.size 0 12) := hz.there
        have HBF : Hid (Below w.heap.size w (w1.setCells w.heap.size 0 [.int .i64 0, .int .i64 0, .int .i64 0, .int .i64 0, .int .i64 0, .int .i64 0, .int .i64 0, .int .i64 0, .int .i64 0, .int .i64 0, .string ⟨#[]⟩, .slice none 0 0])) := below_cells (Nat.le_refl _) _ 0 _ hbel
        go_wp2
        have HRG := World.rangeAt_setCells_same w1 w.heap.size 0 [.int .i64 0, .int .i64 0, .int .i64 0, .int .i64 0, .int .i64 0, .int .i64 0, .int .i64 0, .int .i64 0, .int .i64 0, .int .i64 0, .string ⟨#[]⟩, .slice none 0 0] HTH.out
        refine bodyPost_ret (results_cell_slot (p := 2) (s := 3) (ty := 65) rfl _ _ w.heap.size [.int .i64 0, .int .i64 0, .int .i64 0, .int .i64 0, .int .i64 0, .int .i64 0, .int .i64 0, .int .i64 0, .int .i64 0, .int .i64 0, .string ⟨#[]⟩, .slice none 0 0] _ rfl HRG Tryd.underlying65 rfl HIP.out) rfl ?_
        have hF := HF.out
        subst hF
        exact ⟨none, 0, rfl, Own.nil _ _, HBF.out⟩
    · have HF : Hid ((0, q) = A) := by show _ = _; rw [← HR.out, rpF, if_neg hlt]
      clear HR
      obtain ⟨ao2, cap2, hbx, how⟩ := hpl
      have hrng : wr.rangeAt (w.heap.size + 1) 0 [.int .i64 0, .int .i64 q.x.k, .int .i64 q.x.s, .int .i64 q.x.p, .int .i64 q.x.t, .int .i64 q.x.a, .int .i64 q.x.l, .int .i64 q.x.c, .int .i64 q.x.n, .int .i64 q.x.i, .string (bstr q.nm), .slice ao2 q.l.length cap2] := World.rangeAt_of_block hbx 0 12
      have HTH : Hid (wr.there w.heap.size 0 12) := hz.there
      have HOW : Hid (∀ vs, Own w.heap.size (wr.setCells w.heap.size 0 vs) (.slice ao2 q.l.length cap2) q.l ∧ Below w.heap.size w (wr.setCells w.heap.size 0 vs)) := fun vs => ⟨Own.mono (Own.cells how w.heap.size 0 vs (by omega)) (by omega), below_cells (Nat.le_refl _) vs 0 _ hbel⟩
      clear hbx how hz
      obtain ⟨D, hD⟩ : ∃ D : List Value, [.int .i64 0, .int .i64 q.x.k, .int .i64 q.x.s, .int .i64 q.x.p, .int .i64 q.x.t, .int .i64 q.x.a, .int .i64 q.x.l, .int .i64 q.x.c, .int .i64 q.x.n, .int .i64 q.x.i, .string (bstr q.nm), .slice ao2 q.l.length cap2] = D := ⟨_, rfl⟩
      have HD : Hid ([.int .i64 0, .int .i64 q.x.k, .int .i64 q.x.s, .int .i64 q.x.p, .int .i64 q.x.t, .int .i64 q.x.a, .int .i64 q.x.l, .int .i64 q.x.c, .int .i64 q.x.n, .int .i64 q.x.i, .string (bstr q.nm), .slice ao2 q.l.length cap2] = D) := hD
      have HDL : Hid (D.length = 12) := by show _ = _; rw [← hD]; rfl
      have HDO : Hid (D.toArray.all (·.oneCell') = true) := by show _ = _; rw [← hD]; simp [Value.oneCell']
      have HDI : Hid ((Tryd.prog.info? 65).map (·.size) = some D.length) := by show _ = _; rw [HDL.out]; exact HIP.out
      rw [hD] at hrng
      have hst : (storeCells ⟨w.heap.size, 0, none⟩ D).run Tryd.prog wr = .ok () (wr.setCells w.heap.size 0 D) := run_storeCells_cells (P := Tryd.prog) w.heap.size 0 D 0 wr (fun j hj => by rw [HDL.out] at hj; simpa using (HTH.out j hj).1) (fun j hj => by rw [HDL.out] at hj; simpa using (HTH.out j hj).2) (fun v hv => (Array.all_eq_true_iff_forall_mem.1 HDO.out) v (by simpa using hv))
      clear hD
      go_wp2_with (first
        | (refine wpList_load_mid rfl 65 _ rfl (w.heap.size + 1) 0 rfl D _ hrng Tryd.underlying65 rfl HDI.out ?_))
      have HRG := World.rangeAt_setCells_same wr w.heap.size 0 D (by rw [HDL.out]; exact HTH.out)
      refine bodyPost_ret (results_cell_slot (p := 2) (s := 3) (ty := 65) rfl _ _ w.heap.size D _ rfl HRG Tryd.underlying65 rfl HDI.out) rfl ?_
      have hF := HF.out
      subst hF
      have hD := HD.out
      subst hD
      exact ⟨ao2, cap2, rfl, (HOW.out _).1, (HOW.out _).2⟩
end Go.Proofs.YtenhaogheilmoaaDoor

/-
  Package record: Decode.
-/
namespace Go.Proofs.YtenhaogheilmoaaDoor
open Go Go.RowKit
open Wb

theorem rpF_fits (b : List Nat) : ∀ (n : Nat) (p : Int) (last : Nat) (q : Pts), q.fits → (rpF b n p last q).2.fits
  | 0, _, _, _, h => h
  | n + 1, p, last, q, h => by
    have hz : zeroPts.fits := ⟨by decide, by decide⟩
    unfold rpF
    split
    · split
      · exact hz
      · split
        · exact hz
        · split
          · exact hz
          · exact rpF_fits b n _ _ _ (rdp_fits b _ _ q h)
    · exact h
def Pts.ofV (q : Pts) (v : Int) : Pts := { q with x := q.x.ofV v }
/-- Decode's answer -/
def dcd (v : Int) (b : List Nat) : Int × Pts :=
  if ¬ (1 ≤ v ∧ v ≤ 3) then (3, zeroPts)
  else if (rpF b 12 0 0 zeroPts).1 ≠ 0 then (((rpF b 12 0 0 zeroPts).1 : Int), zeroPts)
  else if chk ((rpF b 12 0 0 zeroPts).2.x.ofV v) (bstr (rpF b 12 0 0 zeroPts).2.nm) (rpF b 12 0 0 zeroPts).2.l ≠ 0 then (chk ((rpF b 12 0 0 zeroPts).2.x.ofV v) (bstr (rpF b 12 0 0 zeroPts).2.nm) (rpF b 12 0 0 zeroPts).2.l, zeroPts)
  else (0, (rpF b 12 0 0 zeroPts).2.ofV v)
theorem infoRec : (Tryd.prog.info? 44).map (·.size) = some 12 := by kernel_rfl
theorem Box.free' {w : World} {g : Nat} {x : Nums} {nm : ByteArray} {d : Value} (h : Box w g x nm d) (j : Nat) : w.frozen? ⟨g, j, none⟩ = false := by
  unfold Box at h
  simp [World.frozen?, h]
theorem Box.there {w : World} {g : Nat} {x : Nums} {nm : ByteArray} {d : Value} (h : Box w g x nm d) : w.there g 0 12 := by
  intro j hj
  rw [Nat.zero_add]
  obtain ⟨c0, c1, c2, c3, c4, c5, c6, c7, c8, c9, c10, c11⟩ := h.cells
  match j, hj with
  | 0, _ => exact ⟨by rw [c0]; rfl, h.free' 0⟩
  | 1, _ => exact ⟨by rw [c1]; rfl, h.free' 1⟩
  | 2, _ => exact ⟨by rw [c2]; rfl, h.free' 2⟩
  | 3, _ => exact ⟨by rw [c3]; rfl, h.free' 3⟩
  | 4, _ => exact ⟨by rw [c4]; rfl, h.free' 4⟩
  | 5, _ => exact ⟨by rw [c5]; rfl, h.free' 5⟩
  | 6, _ => exact ⟨by rw [c6]; rfl, h.free' 6⟩
  | 7, _ => exact ⟨by rw [c7]; rfl, h.free' 7⟩
  | 8, _ => exact ⟨by rw [c8]; rfl, h.free' 8⟩
  | 9, _ => exact ⟨by rw [c9]; rfl, h.free' 9⟩
  | 10, _ => exact ⟨by rw [c10]; rfl, h.free' 10⟩
  | 11, _ => exact ⟨by rw [c11]; rfl, h.free' 11⟩
set_option maxRecDepth 100000 in
set_option maxHeartbeats 4000000 in
theorem decode_any (v : Int) (bv : Value) (b : List Nat) (w : World) (h : Bs w bv b) (hlen : b.length ≤ 140737488355328) (hT : Text.TabP 3 .i32 Text.Tx.lets w) (hG : TagsT w) (A : Int × Pts) (hA : dcd v b = A) :
    Calls Tryd.prog 69 #[.int .i64 v, bv] w fun e w' => ∃ ao cap, e = .returned (.tuple #[rv A.2.x (bstr A.2.nm) (.slice ao A.2.l.length cap), .int .i64 A.1]) ∧ Own w.heap.size w' (.slice ao A.2.l.length cap) A.2.l ∧ Below w.heap.size w w' := by
  have HIR : Hid ((Tryd.prog.info? 44).map (·.size) = some 12) := infoRec
  have HX : Hid (∀ o, (w.alloc o).heap[w.heap.size]? = some o ∧ Below w.heap.size w (w.alloc o)) := fun o => ⟨Array.getElem?_push_size, up0 w o⟩
  have HT : Hid (∀ w', Below w.heap.size w w' → Text.TabP 3 .i32 Text.Tx.lets w') := fun w' hb => hT.kept hb
  have HG : Hid (∀ w', Below w.heap.size w w' → TagsT w') := fun w' hb => hG.kept hb
  have HRP : Hid (∀ w', Below w.heap.size w w' → Calls Tryd.prog 78 #[bv] w' fun e w'' => ∃ ao cap, e = .returned (.tuple #[pv (rpF b 12 0 0 zeroPts).2.x (bstr (rpF b 12 0 0 zeroPts).2.nm) (.slice ao (rpF b 12 0 0 zeroPts).2.l.length cap), .int .i64 ((rpF b 12 0 0 zeroPts).1 : Int)]) ∧ Own w'.heap.size w'' (.slice ao (rpF b 12 0 0 zeroPts).2.l.length cap) (rpF b 12 0 0 zeroPts).2.l ∧ Below w'.heap.size w' w'') := fun w' hb => rparts_any bv b w' (h.kept hb) hlen _ rfl
  have HFT : Hid ((rpF b 12 0 0 zeroPts).2.fits) := rpF_fits b 12 0 0 zeroPts ⟨by decide, by decide⟩
  have HA : Hid (dcd v b = A) := hA
  obtain ⟨ao, cap, rfl, _⟩ := h.shape
  clear h hT hG hA
  by_cases hv : 1 ≤ v ∧ v ≤ 3
  · have HV : Hid ((decide (1 ≤ v) && decide (v ≤ 3)) = true) := by show _ = _; simp [hv.1, hv.2]
    have HA2 : Hid (A = if (rpF b 12 0 0 zeroPts).1 ≠ 0 then (((rpF b 12 0 0 zeroPts).1 : Int), zeroPts) else if chk ((rpF b 12 0 0 zeroPts).2.x.ofV v) (bstr (rpF b 12 0 0 zeroPts).2.nm) (rpF b 12 0 0 zeroPts).2.l ≠ 0 then (chk ((rpF b 12 0 0 zeroPts).2.x.ofV v) (bstr (rpF b 12 0 0 zeroPts).2.nm) (rpF b 12 0 0 zeroPts).2.l, zeroPts) else (0, (rpF b 12 0 0 zeroPts).2.ofV v)) := by show _ = _; rw [← HA.out, dcd, if_neg (by simp [hv.1, hv.2])]
    clear HA
    generalize rpF b 12 0 0 zeroPts = Q at *
    obtain ⟨er, q⟩ := Q
    simp only at HRP HFT HA2
    unfold rv
    unfold pv at HRP
    go_enter Tryd.func69, Tryd.ntmps69
    go_wp2_with fail
    refine (isV_any v _).mono ?_
    rw [HV.out]
    rintro e w0 ⟨rfl, rfl⟩
    go_wp2_with fail
    refine (HRP.out _ (HX.out _).2).mono ?_
    rintro e w1 ⟨ao1, cap1, rfl, ho1, b1⟩
    have HW2 : Hid (Box (w1.alloc (.cells #[.int .i64 0, .int .i64 q.x.k, .int .i64 q.x.s, .int .i64 q.x.p, .int .i64 q.x.t, .int .i64 q.x.a, .int .i64 q.x.l, .int .i64 q.x.c, .int .i64 q.x.n, .int .i64 q.x.i, .string (bstr q.nm), .slice ao1 q.l.length cap1] 65)) w.heap.size zeroNums ⟨#[]⟩ (.slice none 0 0) ∧ Below w.heap.size w (w1.alloc (.cells #[.int .i64 0, .int .i64 q.x.k, .int .i64 q.x.s, .int .i64 q.x.p, .int .i64 q.x.t, .int .i64 q.x.a, .int .i64 q.x.l, .int .i64 q.x.c, .int .i64 q.x.n, .int .i64 q.x.i, .string (bstr q.nm), .slice ao1 q.l.length cap1] 65)) ∧ Own (w.heap.size + 1) (w1.alloc (.cells #[.int .i64 0, .int .i64 q.x.k, .int .i64 q.x.s, .int .i64 q.x.p, .int .i64 q.x.t, .int .i64 q.x.a, .int .i64 q.x.l, .int .i64 q.x.c, .int .i64 q.x.n, .int .i64 q.x.i, .string (bstr q.nm), .slice ao1 q.l.length cap1] 65)) (.slice ao1 q.l.length cap1) q.l) := by
      have e1 : (w.alloc (.cells #[.int .i64 0, .int .i64 0, .int .i64 0, .int .i64 0, .int .i64 0, .int .i64 0, .int .i64 0, .int .i64 0, .int .i64 0, .int .i64 0, .string ⟨#[]⟩, .slice none 0 0] 44)).heap.size = w.heap.size + 1 := by
        show (w.heap.push _).size = _
        rw [Array.size_push]
      exact ⟨Box.kept (Box.kept (HX.out _).1 b1) (up0 _ _), up (andThen (HX.out _).2 b1) _, (ho1.alloc _).mono (by rw [← e1]; exact Nat.le_refl _)⟩
    clear b1 ho1 HX HRP
    by_cases he : er = 0
    · subst he
      have HA3 : Hid (A = if chk (q.x.ofV v) (bstr q.nm) q.l ≠ 0 then (chk (q.x.ofV v) (bstr q.nm) q.l, zeroPts) else (0, q.ofV v)) := by show _ = _; rw [HA2.out, if_neg (by simp)]
      clear HA2
      have HJ : Hid (∀ w', Calls Tryd.prog 79 #[pv q.x (bstr q.nm) (.slice ao1 q.l.length cap1), .int .i64 v] w' fun e w'' => e = .returned (rv (q.x.ofV v) (bstr q.nm) (.slice ao1 q.l.length cap1)) ∧ Below w'.heap.size w' w'') := fun w' => joined_any q.x (bstr q.nm) ao1 q.l.length cap1 v w'
      have HK : Hid (∀ w', Below (w1.alloc (.cells #[.int .i64 0, .int .i64 q.x.k, .int .i64 q.x.s, .int .i64 q.x.p, .int .i64 q.x.t, .int .i64 q.x.a, .int .i64 q.x.l, .int .i64 q.x.c, .int .i64 q.x.n, .int .i64 q.x.i, .string (bstr q.nm), .slice ao1 q.l.length cap1] 65)).heap.size (w1.alloc (.cells #[.int .i64 0, .int .i64 q.x.k, .int .i64 q.x.s, .int .i64 q.x.p, .int .i64 q.x.t, .int .i64 q.x.a, .int .i64 q.x.l, .int .i64 q.x.c, .int .i64 q.x.n, .int .i64 q.x.i, .string (bstr q.nm), .slice ao1 q.l.length cap1] 65)) w' → Box w' w.heap.size zeroNums ⟨#[]⟩ (.slice none 0 0) ∧ Below w.heap.size w w' ∧ Own (w.heap.size + 1) w' (.slice ao1 q.l.length cap1) q.l) := fun w' hb => ⟨HW2.out.1.kept hb, andThen HW2.out.2.1 hb, HW2.out.2.2.kept hb⟩
      have hsz : (bstr q.nm).size ≤ 140737488355000 := by rw [bstr_size]; exact Nat.le_trans HFT.out.1 (by decide)
      clear HW2
      unfold rv pv at HJ
      go_wp2_with fail
      refine (HJ.out _).mono ?_
      rintro e w3 ⟨rfl, b3⟩
      have HK3 : Hid (Box (w3.alloc (.cells #[.int .i64 v, .int .i64 q.x.k, .int .i64 q.x.s, .int .i64 q.x.p, .int .i64 q.x.t, .int .i64 q.x.a, .int .i64 q.x.l, .int .i64 q.x.c, .int .i64 q.x.n, .int .i64 q.x.i, .string (bstr q.nm), .slice ao1 q.l.length cap1] 44)) w.heap.size zeroNums ⟨#[]⟩ (.slice none 0 0) ∧ Below w.heap.size w (w3.alloc (.cells #[.int .i64 v, .int .i64 q.x.k, .int .i64 q.x.s, .int .i64 q.x.p, .int .i64 q.x.t, .int .i64 q.x.a, .int .i64 q.x.l, .int .i64 q.x.c, .int .i64 q.x.n, .int .i64 q.x.i, .string (bstr q.nm), .slice ao1 q.l.length cap1] 44)) ∧ Own (w.heap.size + 1) (w3.alloc (.cells #[.int .i64 v, .int .i64 q.x.k, .int .i64 q.x.s, .int .i64 q.x.p, .int .i64 q.x.t, .int .i64 q.x.a, .int .i64 q.x.l, .int .i64 q.x.c, .int .i64 q.x.n, .int .i64 q.x.i, .string (bstr q.nm), .slice ao1 q.l.length cap1] 44)) (.slice ao1 q.l.length cap1) q.l ∧ Box (w3.alloc (.cells #[.int .i64 v, .int .i64 q.x.k, .int .i64 q.x.s, .int .i64 q.x.p, .int .i64 q.x.t, .int .i64 q.x.a, .int .i64 q.x.l, .int .i64 q.x.c, .int .i64 q.x.n, .int .i64 q.x.i, .string (bstr q.nm), .slice ao1 q.l.length cap1] 44)) w3.heap.size (q.x.ofV v) (bstr q.nm) (.slice ao1 q.l.length cap1)) := ⟨(HK.out _ (up b3 _)).1, (HK.out _ (up b3 _)).2.1, (HK.out _ (up b3 _)).2.2, Array.getElem?_push_size⟩
      clear HK b3 HJ
      have HCH : Hid (Calls Tryd.prog 15 #[rv (q.x.ofV v) (bstr q.nm) (.slice ao1 q.l.length cap1)] (w3.alloc (.cells #[.int .i64 v, .int .i64 q.x.k, .int .i64 q.x.s, .int .i64 q.x.p, .int .i64 q.x.t, .int .i64 q.x.a, .int .i64 q.x.l, .int .i64 q.x.c, .int .i64 q.x.n, .int .i64 q.x.i, .string (bstr q.nm), .slice ao1 q.l.length cap1] 44)) fun e w' => e = .returned (.int .i64 (chk (q.x.ofV v) (bstr q.nm) q.l)) ∧ Below (w3.alloc (.cells #[.int .i64 v, .int .i64 q.x.k, .int .i64 q.x.s, .int .i64 q.x.p, .int .i64 q.x.t, .int .i64 q.x.a, .int .i64 q.x.l, .int .i64 q.x.c, .int .i64 q.x.n, .int .i64 q.x.i, .string (bstr q.nm), .slice ao1 q.l.length cap1] 44)).heap.size (w3.alloc (.cells #[.int .i64 v, .int .i64 q.x.k, .int .i64 q.x.s, .int .i64 q.x.p, .int .i64 q.x.t, .int .i64 q.x.a, .int .i64 q.x.l, .int .i64 q.x.c, .int .i64 q.x.n, .int .i64 q.x.i, .string (bstr q.nm), .slice ao1 q.l.length cap1] 44)) w') := check_any (q.x.ofV v) (bstr q.nm) _ q.l _ HK3.out.2.2.1.bs (HT.out _ HK3.out.2.1) (HG.out _ HK3.out.2.1) hsz
      unfold rv at HCH
      go_wp2_with fail
      refine HCH.out.mono ?_
      rintro e w5 ⟨rfl, b5⟩
      have hz : Box w5 w.heap.size zeroNums ⟨#[]⟩ (.slice none 0 0) := HK3.out.1.kept b5
      have hbel : Below w.heap.size w w5 := andThen HK3.out.2.1 b5
      have HOW : Hid (Own (w.heap.size + 1) w5 (.slice ao1 q.l.length cap1) q.l) := HK3.out.2.2.1.kept b5
      have hbx : Box w5 w3.heap.size (q.x.ofV v) (bstr q.nm) (.slice ao1 q.l.length cap1) := HK3.out.2.2.2.kept b5
      clear HK3 HCH b5
      by_cases hc : chk (q.x.ofV v) (bstr q.nm) q.l = 0
      · have HF : Hid ((0, q.ofV v) = A) := by show _ = _; rw [HA3.out, if_neg (by simpa using hc)]
        rw [hc]
        clear HA3 hc
        have hrng : w5.rangeAt w3.heap.size 0 [.int .i64 v, .int .i64 q.x.k, .int .i64 q.x.s, .int .i64 q.x.p, .int .i64 q.x.t, .int .i64 q.x.a, .int .i64 q.x.l, .int .i64 q.x.c, .int .i64 q.x.n, .int .i64 q.x.i, .string (bstr q.nm), .slice ao1 q.l.length cap1] := World.rangeAt_of_block hbx 0 12
        have HTH : Hid (w5.there w.heap.size 0 12) := hz.there
        have HOW2 : Hid (∀ vs, Own w.heap.size (w5.setCells w.heap.size 0 vs) (.slice ao1 q.l.length cap1) q.l ∧ Below w.heap.size w (w5.setCells w.heap.size 0 vs)) := fun vs => ⟨Own.mono (Own.cells HOW.out w.heap.size 0 vs (by omega)) (by omega), below_cells (Nat.le_refl _) vs 0 _ hbel⟩
        clear hbx HOW hz
        obtain ⟨D, hD⟩ : ∃ D : List Value, [.int .i64 v, .int .i64 q.x.k, .int .i64 q.x.s, .int .i64 q.x.p, .int .i64 q.x.t, .int .i64 q.x.a, .int .i64 q.x.l, .int .i64 q.x.c, .int .i64 q.x.n, .int .i64 q.x.i, .string (bstr q.nm), .slice ao1 q.l.length cap1] = D := ⟨_, rfl⟩
        have HD : Hid ([.int .i64 v, .int .i64 q.x.k, .int .i64 q.x.s, .int .i64 q.x.p, .int .i64 q.x.t, .int .i64 q.x.a, .int .i64 q.x.l, .int .i64 q.x.c, .int .i64 q.x.n, .int .i64 q.x.i, .string (bstr q.nm), .slice ao1 q.l.length cap1] = D) := hD
        have HDL : Hid (D.length = 12) := by show _ = _; rw [← hD]; rfl
        have HDO : Hid (D.toArray.all (·.oneCell') = true) := by show _ = _; rw [← hD]; simp [Value.oneCell']
        have HDI : Hid ((Tryd.prog.info? 44).map (·.size) = some D.length) := by show _ = _; rw [HDL.out]; exact HIR.out
        have hst : (storeCells ⟨w.heap.size, 0, none⟩ D).run Tryd.prog w5 = .ok () (w5.setCells w.heap.size 0 D) := run_storeCells_cells (P := Tryd.prog) w.heap.size 0 D 0 w5 (fun j hj => by rw [HDL.out] at hj; simpa using (HTH.out j hj).1) (fun j hj => by rw [HDL.out] at hj; simpa using (HTH.out j hj).2) (fun v hv => (Array.all_eq_true_iff_forall_mem.1 HDO.out) v (by simpa using hv))
        rw [hD] at hrng
        clear hD
        go_wp2_with (first
          | (refine wpList_load_mid rfl 44 _ rfl w3.heap.size 0 rfl D _ hrng Tryd.underlying44 rfl HDI.out ?_))
        have HRG := World.rangeAt_setCells_same w5 w.heap.size 0 D (by rw [HDL.out]; exact HTH.out)
        refine bodyPost_ret (results_cell_slot (p := 4) (s := 5) (ty := 44) rfl _ _ w.heap.size D _ rfl HRG Tryd.underlying44 rfl HDI.out) rfl ?_
        have hF := HF.out
        subst hF
        have hD := HD.out
        subst hD
        exact ⟨ao1, cap1, rfl, (HOW2.out _).1, (HOW2.out _).2⟩
      · have HF : Hid ((chk (q.x.ofV v) (bstr q.nm) q.l, zeroPts) = A) := by show _ = _; rw [HA3.out, if_pos hc]
        have d2 : (chk (q.x.ofV v) (bstr q.nm) q.l != 0) = true := by rw [bne_iff_ne]; exact hc
        clear HA3 hc HOW hbx
        generalize chk (q.x.ofV v) (bstr q.nm) q.l = ce at *
        obtain ⟨z0, z1, z2, z3, z4, z5, z6, z7, z8, z9, z10, z11⟩ := hz.cells
        have f0 := hz.free' 0
        have f1 := hz.free' 1
        have f2 := hz.free' 2
        have f3 := hz.free' 3
        have f4 := hz.free' 4
        have f5 := hz.free' 5
        have f6 := hz.free' 6
        have f7 := hz.free' 7
        have f8 := hz.free' 8
        have f9 := hz.free' 9
        have f10 := hz.free' 10
        have f11 := hz.free' 11
        have HTH : Hid (w5.there w.heap.size 0 12) := hz.there
        have HBF : Hid (Below w.heap.size w (w5.setCells w.heap.size 0 [.int .i64 0, .int .i64 0, .int .i64 0, .int .i64 0, .int .i64 0, .int .i64 0, .int .i64 0, .int .i64 0, .int .i64 0, .int .i64 0, .string ⟨#[]⟩, .slice none 0 0])) := below_cells (Nat.le_refl _) _ 0 _ hbel
        go_wp2
        have HRG := World.rangeAt_setCells_same w5 w.heap.size 0 [.int .i64 0, .int .i64 0, .int .i64 0, .int .i64 0, .int .i64 0, .int .i64 0, .int .i64 0, .int .i64 0, .int .i64 0, .int .i64 0, .string ⟨#[]⟩, .slice none 0 0] HTH.out
        refine bodyPost_ret (results_cell_slot (p := 4) (s := 5) (ty := 44) rfl _ _ w.heap.size [.int .i64 0, .int .i64 0, .int .i64 0, .int .i64 0, .int .i64 0, .int .i64 0, .int .i64 0, .int .i64 0, .int .i64 0, .int .i64 0, .string ⟨#[]⟩, .slice none 0 0] _ rfl HRG Tryd.underlying44 rfl HIR.out) rfl ?_
        have hF := HF.out
        subst hF
        exact ⟨none, 0, rfl, Own.nil _ _, HBF.out⟩
    · have HF : Hid (((er : Int), zeroPts) = A) := by show _ = _; rw [HA2.out, if_pos he]
      have d2 : ((er : Int) != 0) = true := by rw [bne_iff_ne]; omega
      clear HA2 he
      have hz := HW2.out.1
      have hbel := HW2.out.2.1
      clear HW2
      obtain ⟨z0, z1, z2, z3, z4, z5, z6, z7, z8, z9, z10, z11⟩ := hz.cells
      have f0 := hz.free' 0
      have f1 := hz.free' 1
      have f2 := hz.free' 2
      have f3 := hz.free' 3
      have f4 := hz.free' 4
      have f5 := hz.free' 5
      have f6 := hz.free' 6
      have f7 := hz.free' 7
      have f8 := hz.free' 8
      have f9 := hz.free' 9
      have f10 := hz.free' 10
      have f11 := hz.free' 11
      have HTH : Hid ((w1.alloc (.cells #[.int .i64 0, .int .i64 q.x.k, .int .i64 q.x.s, .int .i64 q.x.p, .int .i64 q.x.t, .int .i64 q.x.a, .int .i64 q.x.l, .int .i64 q.x.c, .int .i64 q.x.n, .int .i64 q.x.i, .string (bstr q.nm), .slice ao1 q.l.length cap1] 65)).there w.heap.size 0 12) := hz.there
      have HBF : Hid (Below w.heap.size w ((w1.alloc (.cells #[.int .i64 0, .int .i64 q.x.k, .int .i64 q.x.s, .int .i64 q.x.p, .int .i64 q.x.t, .int .i64 q.x.a, .int .i64 q.x.l, .int .i64 q.x.c, .int .i64 q.x.n, .int .i64 q.x.i, .string (bstr q.nm), .slice ao1 q.l.length cap1] 65)).setCells w.heap.size 0 [.int .i64 0, .int .i64 0, .int .i64 0, .int .i64 0, .int .i64 0, .int .i64 0, .int .i64 0, .int .i64 0, .int .i64 0, .int .i64 0, .string ⟨#[]⟩, .slice none 0 0])) := below_cells (Nat.le_refl _) _ 0 _ hbel
      go_wp2
      have HRG := World.rangeAt_setCells_same (w1.alloc (.cells #[.int .i64 0, .int .i64 q.x.k, .int .i64 q.x.s, .int .i64 q.x.p, .int .i64 q.x.t, .int .i64 q.x.a, .int .i64 q.x.l, .int .i64 q.x.c, .int .i64 q.x.n, .int .i64 q.x.i, .string (bstr q.nm), .slice ao1 q.l.length cap1] 65)) w.heap.size 0 [.int .i64 0, .int .i64 0, .int .i64 0, .int .i64 0, .int .i64 0, .int .i64 0, .int .i64 0, .int .i64 0, .int .i64 0, .int .i64 0, .string ⟨#[]⟩, .slice none 0 0] HTH.out
      refine bodyPost_ret (results_cell_slot (p := 4) (s := 5) (ty := 44) rfl _ _ w.heap.size [.int .i64 0, .int .i64 0, .int .i64 0, .int .i64 0, .int .i64 0, .int .i64 0, .int .i64 0, .int .i64 0, .int .i64 0, .int .i64 0, .string ⟨#[]⟩, .slice none 0 0] _ rfl HRG Tryd.underlying44 rfl HIR.out) rfl ?_
      have hF := HF.out
      subst hF
      exact ⟨none, 0, rfl, Own.nil _ _, HBF.out⟩
  · have HV : Hid ((decide (1 ≤ v) && decide (v ≤ 3)) = false) := by
      show _ = _
      rw [Bool.and_eq_false_iff]
      by_cases h1 : 1 ≤ v
      · right; rw [decide_eq_false]; omega
      · left; rw [decide_eq_false]; omega
    have HF : Hid ((3, zeroPts) = A) := by show _ = _; rw [← HA.out, dcd, if_pos hv]
    clear HA HRP HFT
    unfold rv
    go_enter Tryd.func69, Tryd.ntmps69
    go_wp2_with fail
    refine (isV_any v _).mono ?_
    rw [HV.out]
    rintro e w0 ⟨rfl, rfl⟩
    go_wp2
    go_returns
    have hF := HF.out
    subst hF
    exact ⟨none, 0, rfl, Own.nil _ _, by go_grown⟩
end Go.Proofs.YtenhaogheilmoaaDoor
