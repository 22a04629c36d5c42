/-
  Package record: checkField.
-/
import Derived.Test.YtioghecmnggehaaDoorRcB
namespace Go.Proofs.YtioghecmnggehaaDoor
open Go Go.RowKit
open Wb

theorem heap2 (w : World) (o1 o2 : Obj) : ((w.alloc o1).alloc o2).heap[w.heap.size]? = some o1 ∧ ((w.alloc o1).alloc o2).heap[w.heap.size + 1]? = some o2 ∧ Below w.heap.size w ((w.alloc o1).alloc o2) := by
  have e1 : (w.alloc o1).heap.size = w.heap.size + 1 := by
    show (w.heap.push o1).size = _
    rw [Array.size_push]
  refine ⟨?_, ?_, up (up0 _ _) _⟩
  · show ((w.alloc o1).heap.push o2)[w.heap.size]? = _
    rw [Array.getElem?_push, if_neg (by omega)]
    exact Array.getElem?_push_size
  · rw [← e1]
    exact Array.getElem?_push_size
theorem cell_of {w : World} {g j : Nat} {cs : Array Value} {t : TypeId} {v : Value} (h : w.heap[g]? = some (.cells cs t)) (hv : cs[j]? = some v) : w.cell? ⟨g, j, none⟩ = some v := by
  simp [World.cell?, h, hv]
set_option maxRecDepth 100000 in
set_option maxHeartbeats 4000000 in
theorem cfield_any (x : Nums) (nm : ByteArray) (d : Value) (l : List Nat) (t : Nat) (w : World) (h : Bs w d l) (hT : Text.TabP 1 .i32 Text.Tx.lets w) (hnm : nm.size ≤ 140737488355000) (h1 : 3 ≤ t) (h2 : t ≤ 11) :
    Calls Tryd.prog 27 #[rv x nm d, pv x nm d, .int .i64 (t : Int)] w fun e w' => e = .returned (.int .i64 (fldE x nm l t)) ∧ Below w.heap.size w w' := by
  have HB : Hid (∀ w', Below w.heap.size w w' → Bs w' d l) := fun w' hb => h.kept hb
  have HT : Hid (∀ w', Below w.heap.size w w' → Text.TabP 1 .i32 Text.Tx.lets w') := fun w' hb => hT.kept hb
  obtain ⟨ao, cap, rfl, _⟩ := h.shape
  have HBO : Hid (∀ (t : Nat) w', 3 ≤ t → t ≤ 9 → Calls Tryd.prog 38 #[rv x nm (.slice ao l.length cap), .int .i64 (t : Int)] w' fun e w'' => e = .returned (.tuple #[.int .i64 (x.lo t), .int .i64 (x.hi t)]) ∧ Below w'.heap.size w' w'') := fun t w' a b => bounds_any x nm ao l.length cap t w' a b
  have HD : Hid (∀ w', Below w.heap.size w w' → Calls Tryd.prog 37 #[rv x nm (.slice ao l.length cap)] w' fun e w'' => e = .returned (.int .i64 (datE x l)) ∧ Below w'.heap.size w' w'') := fun w' hb => cdata_any x nm _ l w' (HB.out _ hb) (HT.out _ hb)
  have HX : Hid (∀ o1 o2, ((w.alloc o1).alloc o2).heap[w.heap.size]? = some o1 ∧ ((w.alloc o1).alloc o2).heap[w.heap.size + 1]? = some o2 ∧ Below w.heap.size w ((w.alloc o1).alloc o2)) := fun o1 o2 => heap2 w o1 o2
  clear h hT
  unfold rv pv at *
  obtain rfl | rfl | rfl | rfl | rfl | rfl | rfl | rfl | rfl : t = 3 ∨ t = 4 ∨ t = 5 ∨ t = 6 ∨ t = 7 ∨ t = 8 ∨ t = 9 ∨ t = 10 ∨ t = 11 := by omega
  · by_cases q1 : x.p < x.lo 3
    · have HF : Hid (fldE x nm l 3 = 34) := by show (if x.p < x.lo 3 ∨ x.hi 3 < x.p then (34 : Int) else 0) = 34; rw [if_pos (Or.inl q1)]
      rw [HF.out]
      go_enter Tryd.func27, Tryd.ntmps27
      go_wp2_with fail
      refine (HBO.out 3 _ (by omega) (by omega)).mono ?_
      rintro e w1 ⟨rfl, b1⟩
      have hc : w1.cell? ⟨w.heap.size + 1, 3, none⟩ = some (.int .i64 x.p) := cell_of ((b1.block (w.heap.size + 1) (Array.getElem?_eq_some_iff.1 (HX.out _ _).2.1).1).trans (HX.out _ _).2.1) rfl
      have B1 := andThen (HX.out _ _).2.2 b1
      clear b1 HF HB HT HBO HD HX
      generalize x.lo 3 = lo at *
      generalize x.hi 3 = hi at *
      go_wp2
      go_ret
      exact ⟨rfl, B1⟩
    · by_cases q2 : x.p > x.hi 3
      · have HF : Hid (fldE x nm l 3 = 34) := by show (if x.p < x.lo 3 ∨ x.hi 3 < x.p then (34 : Int) else 0) = 34; rw [if_pos (Or.inr q2)]
        rw [HF.out]
        go_enter Tryd.func27, Tryd.ntmps27
        go_wp2_with fail
        refine (HBO.out 3 _ (by omega) (by omega)).mono ?_
        rintro e w1 ⟨rfl, b1⟩
        have hc : w1.cell? ⟨w.heap.size + 1, 3, none⟩ = some (.int .i64 x.p) := cell_of ((b1.block (w.heap.size + 1) (Array.getElem?_eq_some_iff.1 (HX.out _ _).2.1).1).trans (HX.out _ _).2.1) rfl
        have B1 := andThen (HX.out _ _).2.2 b1
        clear b1 HF HB HT HBO HD HX
        generalize x.lo 3 = lo at *
        generalize x.hi 3 = hi at *
        go_wp2
        go_ret
        exact ⟨rfl, B1⟩
      · have HF : Hid (fldE x nm l 3 = 0) := by show (if x.p < x.lo 3 ∨ x.hi 3 < x.p then (34 : Int) else 0) = 0; rw [if_neg (by omega)]
        rw [HF.out]
        go_enter Tryd.func27, Tryd.ntmps27
        go_wp2_with fail
        refine (HBO.out 3 _ (by omega) (by omega)).mono ?_
        rintro e w1 ⟨rfl, b1⟩
        have hc : w1.cell? ⟨w.heap.size + 1, 3, none⟩ = some (.int .i64 x.p) := cell_of ((b1.block (w.heap.size + 1) (Array.getElem?_eq_some_iff.1 (HX.out _ _).2.1).1).trans (HX.out _ _).2.1) rfl
        have B1 := andThen (HX.out _ _).2.2 b1
        clear b1 HF HB HT HBO HD HX
        generalize x.lo 3 = lo at *
        generalize x.hi 3 = hi at *
        go_wp2
        go_ret
        exact ⟨rfl, B1⟩
  · by_cases q1 : x.t < x.lo 4
    · have HF : Hid (fldE x nm l 4 = 34) := by show (if x.t < x.lo 4 ∨ x.hi 4 < x.t then (34 : Int) else 0) = 34; rw [if_pos (Or.inl q1)]
      rw [HF.out]
      go_enter Tryd.func27, Tryd.ntmps27
      go_wp2_with fail
      refine (HBO.out 4 _ (by omega) (by omega)).mono ?_
      rintro e w1 ⟨rfl, b1⟩
      have hc : w1.cell? ⟨w.heap.size + 1, 4, none⟩ = some (.int .i64 x.t) := cell_of ((b1.block (w.heap.size + 1) (Array.getElem?_eq_some_iff.1 (HX.out _ _).2.1).1).trans (HX.out _ _).2.1) rfl
      have B1 := andThen (HX.out _ _).2.2 b1
      clear b1 HF HB HT HBO HD HX
      generalize x.lo 4 = lo at *
      generalize x.hi 4 = hi at *
      go_wp2
      go_ret
      exact ⟨rfl, B1⟩
    · by_cases q2 : x.t > x.hi 4
      · have HF : Hid (fldE x nm l 4 = 34) := by show (if x.t < x.lo 4 ∨ x.hi 4 < x.t then (34 : Int) else 0) = 34; rw [if_pos (Or.inr q2)]
        rw [HF.out]
        go_enter Tryd.func27, Tryd.ntmps27
        go_wp2_with fail
        refine (HBO.out 4 _ (by omega) (by omega)).mono ?_
        rintro e w1 ⟨rfl, b1⟩
        have hc : w1.cell? ⟨w.heap.size + 1, 4, none⟩ = some (.int .i64 x.t) := cell_of ((b1.block (w.heap.size + 1) (Array.getElem?_eq_some_iff.1 (HX.out _ _).2.1).1).trans (HX.out _ _).2.1) rfl
        have B1 := andThen (HX.out _ _).2.2 b1
        clear b1 HF HB HT HBO HD HX
        generalize x.lo 4 = lo at *
        generalize x.hi 4 = hi at *
        go_wp2
        go_ret
        exact ⟨rfl, B1⟩
      · have HF : Hid (fldE x nm l 4 = 0) := by show (if x.t < x.lo 4 ∨ x.hi 4 < x.t then (34 : Int) else 0) = 0; rw [if_neg (by omega)]
        rw [HF.out]
        go_enter Tryd.func27, Tryd.ntmps27
        go_wp2_with fail
        refine (HBO.out 4 _ (by omega) (by omega)).mono ?_
        rintro e w1 ⟨rfl, b1⟩
        have hc : w1.cell? ⟨w.heap.size + 1, 4, none⟩ = some (.int .i64 x.t) := cell_of ((b1.block (w.heap.size + 1) (Array.getElem?_eq_some_iff.1 (HX.out _ _).2.1).1).trans (HX.out _ _).2.1) rfl
        have B1 := andThen (HX.out _ _).2.2 b1
        clear b1 HF HB HT HBO HD HX
        generalize x.lo 4 = lo at *
        generalize x.hi 4 = hi at *
        go_wp2
        go_ret
        exact ⟨rfl, B1⟩
  · by_cases q1 : x.a < x.lo 5
    · have HF : Hid (fldE x nm l 5 = 34) := by show (if x.a < x.lo 5 ∨ x.hi 5 < x.a then (34 : Int) else 0) = 34; rw [if_pos (Or.inl q1)]
      rw [HF.out]
      go_enter Tryd.func27, Tryd.ntmps27
      go_wp2_with fail
      refine (HBO.out 5 _ (by omega) (by omega)).mono ?_
      rintro e w1 ⟨rfl, b1⟩
      have hc : w1.cell? ⟨w.heap.size + 1, 5, none⟩ = some (.int .i64 x.a) := cell_of ((b1.block (w.heap.size + 1) (Array.getElem?_eq_some_iff.1 (HX.out _ _).2.1).1).trans (HX.out _ _).2.1) rfl
      have B1 := andThen (HX.out _ _).2.2 b1
      clear b1 HF HB HT HBO HD HX
      generalize x.lo 5 = lo at *
      generalize x.hi 5 = hi at *
      go_wp2
      go_ret
      exact ⟨rfl, B1⟩
    · by_cases q2 : x.a > x.hi 5
      · have HF : Hid (fldE x nm l 5 = 34) := by show (if x.a < x.lo 5 ∨ x.hi 5 < x.a then (34 : Int) else 0) = 34; rw [if_pos (Or.inr q2)]
        rw [HF.out]
        go_enter Tryd.func27, Tryd.ntmps27
        go_wp2_with fail
        refine (HBO.out 5 _ (by omega) (by omega)).mono ?_
        rintro e w1 ⟨rfl, b1⟩
        have hc : w1.cell? ⟨w.heap.size + 1, 5, none⟩ = some (.int .i64 x.a) := cell_of ((b1.block (w.heap.size + 1) (Array.getElem?_eq_some_iff.1 (HX.out _ _).2.1).1).trans (HX.out _ _).2.1) rfl
        have B1 := andThen (HX.out _ _).2.2 b1
        clear b1 HF HB HT HBO HD HX
        generalize x.lo 5 = lo at *
        generalize x.hi 5 = hi at *
        go_wp2
        go_ret
        exact ⟨rfl, B1⟩
      · have HF : Hid (fldE x nm l 5 = 0) := by show (if x.a < x.lo 5 ∨ x.hi 5 < x.a then (34 : Int) else 0) = 0; rw [if_neg (by omega)]
        rw [HF.out]
        go_enter Tryd.func27, Tryd.ntmps27
        go_wp2_with fail
        refine (HBO.out 5 _ (by omega) (by omega)).mono ?_
        rintro e w1 ⟨rfl, b1⟩
        have hc : w1.cell? ⟨w.heap.size + 1, 5, none⟩ = some (.int .i64 x.a) := cell_of ((b1.block (w.heap.size + 1) (Array.getElem?_eq_some_iff.1 (HX.out _ _).2.1).1).trans (HX.out _ _).2.1) rfl
        have B1 := andThen (HX.out _ _).2.2 b1
        clear b1 HF HB HT HBO HD HX
        generalize x.lo 5 = lo at *
        generalize x.hi 5 = hi at *
        go_wp2
        go_ret
        exact ⟨rfl, B1⟩
  · by_cases q1 : x.l < x.lo 6
    · have HF : Hid (fldE x nm l 6 = 34) := by show (if x.l < x.lo 6 ∨ x.hi 6 < x.l then (34 : Int) else 0) = 34; rw [if_pos (Or.inl q1)]
      rw [HF.out]
      go_enter Tryd.func27, Tryd.ntmps27
      go_wp2_with fail
      refine (HBO.out 6 _ (by omega) (by omega)).mono ?_
      rintro e w1 ⟨rfl, b1⟩
      have hc : w1.cell? ⟨w.heap.size + 1, 6, none⟩ = some (.int .i64 x.l) := cell_of ((b1.block (w.heap.size + 1) (Array.getElem?_eq_some_iff.1 (HX.out _ _).2.1).1).trans (HX.out _ _).2.1) rfl
      have B1 := andThen (HX.out _ _).2.2 b1
      clear b1 HF HB HT HBO HD HX
      generalize x.lo 6 = lo at *
      generalize x.hi 6 = hi at *
      go_wp2
      go_ret
      exact ⟨rfl, B1⟩
    · by_cases q2 : x.l > x.hi 6
      · have HF : Hid (fldE x nm l 6 = 34) := by show (if x.l < x.lo 6 ∨ x.hi 6 < x.l then (34 : Int) else 0) = 34; rw [if_pos (Or.inr q2)]
        rw [HF.out]
        go_enter Tryd.func27, Tryd.ntmps27
        go_wp2_with fail
        refine (HBO.out 6 _ (by omega) (by omega)).mono ?_
        rintro e w1 ⟨rfl, b1⟩
        have hc : w1.cell? ⟨w.heap.size + 1, 6, none⟩ = some (.int .i64 x.l) := cell_of ((b1.block (w.heap.size + 1) (Array.getElem?_eq_some_iff.1 (HX.out _ _).2.1).1).trans (HX.out _ _).2.1) rfl
        have B1 := andThen (HX.out _ _).2.2 b1
        clear b1 HF HB HT HBO HD HX
        generalize x.lo 6 = lo at *
        generalize x.hi 6 = hi at *
        go_wp2
        go_ret
        exact ⟨rfl, B1⟩
      · have HF : Hid (fldE x nm l 6 = 0) := by show (if x.l < x.lo 6 ∨ x.hi 6 < x.l then (34 : Int) else 0) = 0; rw [if_neg (by omega)]
        rw [HF.out]
        go_enter Tryd.func27, Tryd.ntmps27
        go_wp2_with fail
        refine (HBO.out 6 _ (by omega) (by omega)).mono ?_
        rintro e w1 ⟨rfl, b1⟩
        have hc : w1.cell? ⟨w.heap.size + 1, 6, none⟩ = some (.int .i64 x.l) := cell_of ((b1.block (w.heap.size + 1) (Array.getElem?_eq_some_iff.1 (HX.out _ _).2.1).1).trans (HX.out _ _).2.1) rfl
        have B1 := andThen (HX.out _ _).2.2 b1
        clear b1 HF HB HT HBO HD HX
        generalize x.lo 6 = lo at *
        generalize x.hi 6 = hi at *
        go_wp2
        go_ret
        exact ⟨rfl, B1⟩
  · by_cases q1 : x.c < x.lo 7
    · have HF : Hid (fldE x nm l 7 = 34) := by show (if x.c < x.lo 7 ∨ x.hi 7 < x.c then (34 : Int) else 0) = 34; rw [if_pos (Or.inl q1)]
      rw [HF.out]
      go_enter Tryd.func27, Tryd.ntmps27
      go_wp2_with fail
      refine (HBO.out 7 _ (by omega) (by omega)).mono ?_
      rintro e w1 ⟨rfl, b1⟩
      have hc : w1.cell? ⟨w.heap.size + 1, 7, none⟩ = some (.int .i64 x.c) := cell_of ((b1.block (w.heap.size + 1) (Array.getElem?_eq_some_iff.1 (HX.out _ _).2.1).1).trans (HX.out _ _).2.1) rfl
      have B1 := andThen (HX.out _ _).2.2 b1
      clear b1 HF HB HT HBO HD HX
      generalize x.lo 7 = lo at *
      generalize x.hi 7 = hi at *
      go_wp2
      go_ret
      exact ⟨rfl, B1⟩
    · by_cases q2 : x.c > x.hi 7
      · have HF : Hid (fldE x nm l 7 = 34) := by show (if x.c < x.lo 7 ∨ x.hi 7 < x.c then (34 : Int) else 0) = 34; rw [if_pos (Or.inr q2)]
        rw [HF.out]
        go_enter Tryd.func27, Tryd.ntmps27
        go_wp2_with fail
        refine (HBO.out 7 _ (by omega) (by omega)).mono ?_
        rintro e w1 ⟨rfl, b1⟩
        have hc : w1.cell? ⟨w.heap.size + 1, 7, none⟩ = some (.int .i64 x.c) := cell_of ((b1.block (w.heap.size + 1) (Array.getElem?_eq_some_iff.1 (HX.out _ _).2.1).1).trans (HX.out _ _).2.1) rfl
        have B1 := andThen (HX.out _ _).2.2 b1
        clear b1 HF HB HT HBO HD HX
        generalize x.lo 7 = lo at *
        generalize x.hi 7 = hi at *
        go_wp2
        go_ret
        exact ⟨rfl, B1⟩
      · have HF : Hid (fldE x nm l 7 = 0) := by show (if x.c < x.lo 7 ∨ x.hi 7 < x.c then (34 : Int) else 0) = 0; rw [if_neg (by omega)]
        rw [HF.out]
        go_enter Tryd.func27, Tryd.ntmps27
        go_wp2_with fail
        refine (HBO.out 7 _ (by omega) (by omega)).mono ?_
        rintro e w1 ⟨rfl, b1⟩
        have hc : w1.cell? ⟨w.heap.size + 1, 7, none⟩ = some (.int .i64 x.c) := cell_of ((b1.block (w.heap.size + 1) (Array.getElem?_eq_some_iff.1 (HX.out _ _).2.1).1).trans (HX.out _ _).2.1) rfl
        have B1 := andThen (HX.out _ _).2.2 b1
        clear b1 HF HB HT HBO HD HX
        generalize x.lo 7 = lo at *
        generalize x.hi 7 = hi at *
        go_wp2
        go_ret
        exact ⟨rfl, B1⟩
  · by_cases q1 : x.n < x.lo 8
    · have HF : Hid (fldE x nm l 8 = 34) := by show (if x.n < x.lo 8 ∨ x.hi 8 < x.n then (34 : Int) else 0) = 34; rw [if_pos (Or.inl q1)]
      rw [HF.out]
      go_enter Tryd.func27, Tryd.ntmps27
      go_wp2_with fail
      refine (HBO.out 8 _ (by omega) (by omega)).mono ?_
      rintro e w1 ⟨rfl, b1⟩
      have hc : w1.cell? ⟨w.heap.size + 1, 8, none⟩ = some (.int .i64 x.n) := cell_of ((b1.block (w.heap.size + 1) (Array.getElem?_eq_some_iff.1 (HX.out _ _).2.1).1).trans (HX.out _ _).2.1) rfl
      have B1 := andThen (HX.out _ _).2.2 b1
      clear b1 HF HB HT HBO HD HX
      generalize x.lo 8 = lo at *
      generalize x.hi 8 = hi at *
      go_wp2
      go_ret
      exact ⟨rfl, B1⟩
    · by_cases q2 : x.n > x.hi 8
      · have HF : Hid (fldE x nm l 8 = 34) := by show (if x.n < x.lo 8 ∨ x.hi 8 < x.n then (34 : Int) else 0) = 34; rw [if_pos (Or.inr q2)]
        rw [HF.out]
        go_enter Tryd.func27, Tryd.ntmps27
        go_wp2_with fail
        refine (HBO.out 8 _ (by omega) (by omega)).mono ?_
        rintro e w1 ⟨rfl, b1⟩
        have hc : w1.cell? ⟨w.heap.size + 1, 8, none⟩ = some (.int .i64 x.n) := cell_of ((b1.block (w.heap.size + 1) (Array.getElem?_eq_some_iff.1 (HX.out _ _).2.1).1).trans (HX.out _ _).2.1) rfl
        have B1 := andThen (HX.out _ _).2.2 b1
        clear b1 HF HB HT HBO HD HX
        generalize x.lo 8 = lo at *
        generalize x.hi 8 = hi at *
        go_wp2
        go_ret
        exact ⟨rfl, B1⟩
      · have HF : Hid (fldE x nm l 8 = 0) := by show (if x.n < x.lo 8 ∨ x.hi 8 < x.n then (34 : Int) else 0) = 0; rw [if_neg (by omega)]
        rw [HF.out]
        go_enter Tryd.func27, Tryd.ntmps27
        go_wp2_with fail
        refine (HBO.out 8 _ (by omega) (by omega)).mono ?_
        rintro e w1 ⟨rfl, b1⟩
        have hc : w1.cell? ⟨w.heap.size + 1, 8, none⟩ = some (.int .i64 x.n) := cell_of ((b1.block (w.heap.size + 1) (Array.getElem?_eq_some_iff.1 (HX.out _ _).2.1).1).trans (HX.out _ _).2.1) rfl
        have B1 := andThen (HX.out _ _).2.2 b1
        clear b1 HF HB HT HBO HD HX
        generalize x.lo 8 = lo at *
        generalize x.hi 8 = hi at *
        go_wp2
        go_ret
        exact ⟨rfl, B1⟩
  · by_cases q1 : x.i < x.lo 9
    · have HF : Hid (fldE x nm l 9 = 34) := by show (if x.i < x.lo 9 ∨ x.hi 9 < x.i then (34 : Int) else 0) = 34; rw [if_pos (Or.inl q1)]
      rw [HF.out]
      go_enter Tryd.func27, Tryd.ntmps27
      go_wp2_with fail
      refine (HBO.out 9 _ (by omega) (by omega)).mono ?_
      rintro e w1 ⟨rfl, b1⟩
      have hc : w1.cell? ⟨w.heap.size + 1, 9, none⟩ = some (.int .i64 x.i) := cell_of ((b1.block (w.heap.size + 1) (Array.getElem?_eq_some_iff.1 (HX.out _ _).2.1).1).trans (HX.out _ _).2.1) rfl
      have B1 := andThen (HX.out _ _).2.2 b1
      clear b1 HF HB HT HBO HD HX
      generalize x.lo 9 = lo at *
      generalize x.hi 9 = hi at *
      go_wp2
      go_ret
      exact ⟨rfl, B1⟩
    · by_cases q2 : x.i > x.hi 9
      · have HF : Hid (fldE x nm l 9 = 34) := by show (if x.i < x.lo 9 ∨ x.hi 9 < x.i then (34 : Int) else 0) = 34; rw [if_pos (Or.inr q2)]
        rw [HF.out]
        go_enter Tryd.func27, Tryd.ntmps27
        go_wp2_with fail
        refine (HBO.out 9 _ (by omega) (by omega)).mono ?_
        rintro e w1 ⟨rfl, b1⟩
        have hc : w1.cell? ⟨w.heap.size + 1, 9, none⟩ = some (.int .i64 x.i) := cell_of ((b1.block (w.heap.size + 1) (Array.getElem?_eq_some_iff.1 (HX.out _ _).2.1).1).trans (HX.out _ _).2.1) rfl
        have B1 := andThen (HX.out _ _).2.2 b1
        clear b1 HF HB HT HBO HD HX
        generalize x.lo 9 = lo at *
        generalize x.hi 9 = hi at *
        go_wp2
        go_ret
        exact ⟨rfl, B1⟩
      · have HF : Hid (fldE x nm l 9 = 0) := by show (if x.i < x.lo 9 ∨ x.hi 9 < x.i then (34 : Int) else 0) = 0; rw [if_neg (by omega)]
        rw [HF.out]
        go_enter Tryd.func27, Tryd.ntmps27
        go_wp2_with fail
        refine (HBO.out 9 _ (by omega) (by omega)).mono ?_
        rintro e w1 ⟨rfl, b1⟩
        have hc : w1.cell? ⟨w.heap.size + 1, 9, none⟩ = some (.int .i64 x.i) := cell_of ((b1.block (w.heap.size + 1) (Array.getElem?_eq_some_iff.1 (HX.out _ _).2.1).1).trans (HX.out _ _).2.1) rfl
        have B1 := andThen (HX.out _ _).2.2 b1
        clear b1 HF HB HT HBO HD HX
        generalize x.lo 9 = lo at *
        generalize x.hi 9 = hi at *
        go_wp2
        go_ret
        exact ⟨rfl, B1⟩
  · have HF : Hid (fldE x nm l 10 = lab nm) := rfl
    rw [HF.out]
    go_enter Tryd.func27, Tryd.ntmps27
    go_wp2_with fail
    refine (cname_any nm _ hnm (HT.out _ (HX.out _ _).2.2)).mono ?_
    rintro e w1 ⟨rfl, b1⟩
    have B1 := andThen (HX.out _ _).2.2 b1
    go_wp2
    go_ret
    exact ⟨rfl, B1⟩
  · have HF : Hid (fldE x nm l 11 = datE x l) := rfl
    rw [HF.out]
    go_enter Tryd.func27, Tryd.ntmps27
    go_wp2_with fail
    refine (HD.out _ (HX.out _ _).2.2).mono ?_
    rintro e w1 ⟨rfl, b1⟩
    have B1 := andThen (HX.out _ _).2.2 b1
    go_wp2
    go_ret
    exact ⟨rfl, B1⟩
end Go.Proofs.YtioghecmnggehaaDoor
