import Derived.Test.YtfkpdmmgjgchjaaDoorQL4
import Derived.Test.YtfkpdmmgjgchjaaDoorQL3
/-
  LiftBack: the law's walk.
-/
namespace Go.Proofs.YtfkpdmmgjgchjaaDoor
open Go Go.RowKit
open Wb

theorem lnum_any (z : Int) (w : World) : Calls Tryd.prog 25 #[.int .i64 z] w fun e w' => e = .returned (.int .i64 z) ∧ w' = w := by
  go_enter Tryd.func25, Tryd.ntmps25
  go_wp2
  go_ret
  exact ⟨rfl, rfl⟩
def endR : Rec := ⟨⟨1, 7, 5, 0, 0, 0, 0, 0, 0, 0⟩, ⟨#[]⟩, []⟩
theorem end_up : upP 3 endR = (0, ⟨⟨3, 7, 5, 0, 0, 0, 0, 0, 0, 0⟩, ⟨#[]⟩, []⟩) := by kernel_rfl
theorem end_fit : endR.x.fit := by
  rw [fit_iff]
  simp only [endR]
  omega
set_option maxRecDepth 100000 in
set_option maxHeartbeats 1000000 in
theorem lstarted_any (w : World) (hT : LTabs w) : Calls Tryd.prog 24 #[] w fun e w' => e = .returned (.bool true) ∧ Below w.heap.size w w' := by
  have HU : Hid (∀ w', Below w.heap.size w w' → Calls Tryd.prog 23 #[.agg #[.int .i64 1, .int .i64 7, .int .i64 5, .int .i64 0, .int .i64 0, .int .i64 0, .int .i64 0, .int .i64 0, .int .i64 0, .int .i64 0, .string ⟨#[]⟩, .slice none 0 0], .int .i64 3] w' fun e w'' => ∃ ao, ∃ cap : Nat, e = .returned (.tuple #[.agg #[.int .i64 3, .int .i64 7, .int .i64 5, .int .i64 0, .int .i64 0, .int .i64 0, .int .i64 0, .int .i64 0, .int .i64 0, .int .i64 0, .string ⟨#[]⟩, .slice ao 0 cap], .int .i64 0]) ∧ Bs w'' (.slice ao 0 cap) [] ∧ Below w'.heap.size w' w'') := fun w' hb => by
    have h := up_any 3 endR (.slice none 0 0) w' (Bs.nil w') (hT.kept hb) (by decide) end_fit
    rw [end_up] at h
    exact h
  have HS : Hid (∀ w' ao (cap : Nat), Bs w' (.slice ao 0 cap) [] → Calls Tryd.prog 14 #[.agg #[.int .i64 3, .int .i64 7, .int .i64 5, .int .i64 0, .int .i64 0, .int .i64 0, .int .i64 0, .int .i64 0, .int .i64 0, .int .i64 0, .string ⟨#[]⟩, .slice ao 0 cap], .agg #[.int .i64 3, .int .i64 7, .int .i64 5, .int .i64 0, .int .i64 0, .int .i64 0, .int .i64 0, .int .i64 0, .int .i64 0, .int .i64 0, .string ⟨#[]⟩, .slice none 0 0]] w' fun e w'' => e = .returned (.bool true) ∧ Below w'.heap.size w' w'') := fun w' ao cap hb => (refsame_any ⟨3, 7, 5, 0, 0, 0, 0, 0, 0, 0⟩ ⟨3, 7, 5, 0, 0, 0, 0, 0, 0, 0⟩ ⟨#[]⟩ ⟨#[]⟩ _ _ [] [] w' hb (Bs.nil _)).mono fun e w'' ⟨he, hk⟩ => ⟨by rw [he, recEq_self], hk⟩
  clear hT
  go_enter Tryd.func24, Tryd.ntmps24
  go_wp2_with fail
  refine (HU.out _ (Below.refl _ _)).mono ?_
  rintro e w1 ⟨ao, cap, rfl, hbs, b1⟩
  have HW : Hid (∀ o, Bs (w1.alloc o) (.slice ao 0 cap) [] ∧ Below w.heap.size w (w1.alloc o)) := fun o => ⟨hbs.alloc o, up b1 o⟩
  clear hbs b1
  go_wp2_with fail
  refine (lnum_any 0 _).mono ?_
  rintro e w2 ⟨rfl, rfl⟩
  go_wp2_with fail
  refine (HS.out _ _ _ (HW.out _).1).mono ?_
  rintro e w3 ⟨rfl, b3⟩
  have B3 := andThen (HW.out _).2 b3
  clear b3
  go_wp2
  go_ret
  exact ⟨rfl, B3⟩
set_option maxRecDepth 100000 in
set_option maxHeartbeats 4000000 in
theorem lback_e1 (to : Int) (r q : Rec) (d dq : Value) (w : World) (h : Bs w d r.l) (hq : Bs w dq q.l) (hT : LTabs w) (hnm : r.nm.size ≤ 1048576) (hf : r.x.fit) (hc : chkR r ≠ 0) :
    Calls Tryd.prog 7 #[rv r.x r.nm d, rv q.x q.nm dq, .int .i64 to] w fun e w' => e = .returned (.bool true) ∧ Below w.heap.size w w' := by
  have HX : Hid (∀ o1 o2, ((w.alloc o1).alloc o2).heap[w.heap.size]? = some o1 ∧ ((w.alloc o1).alloc o2).heap[w.heap.size + 1]? = some o2 ∧ Below w.heap.size w ((w.alloc o1).alloc o2)) := fun o1 o2 => heap2 w o1 o2
  have HST : Hid (∀ w', Below w.heap.size w w' → Calls Tryd.prog 24 #[] w' fun e w'' => e = .returned (.bool true) ∧ Below w'.heap.size w' w'') := fun w' hb => lstarted_any w' (hT.kept hb)
  have HUP : Hid (∀ w', Below w.heap.size w w' → Calls Tryd.prog 23 #[rv r.x r.nm d, .int .i64 to] w' fun e w'' => ∃ ao, ∃ cap : Nat, e = .returned (.tuple #[rv (upP to r).2.x (upP to r).2.nm (.slice ao (upP to r).2.l.length cap), .int .i64 (upP to r).1]) ∧ Bs w'' (.slice ao (upP to r).2.l.length cap) (upP to r).2.l ∧ Below w'.heap.size w' w'') := fun w' hb => up_any to r d w' (h.kept hb) (hT.kept hb) hnm hf
  have HRC : Hid (∀ w', Below w.heap.size w w' → Calls Tryd.prog 13 #[rv r.x r.nm d] w' fun e w'' => e = .returned (.int .i64 (chkR r)) ∧ Below w'.heap.size w' w'') := fun w' hb => refcheck_any r.x r.nm d r.l w' (h.kept hb) (hT.kept hb).tabs.rlets (hT.kept hb).tabs.rows hf.c (by omega)
  have hbad : (upP to r).1 ≠ 0 := up_bad (fun hh => hc hh.1)
  have d1 : (chkR r != 0) = true := by rw [bne_iff_ne]; exact hc
  clear hc
  generalize chkR r = z at *
  obtain ⟨ao, cap, rfl, _⟩ := h.shape
  obtain ⟨aq, cq, rfl, _⟩ := hq.shape
  clear h hq hT
  have dz : ((upP to r).1 != 0) = true := by rw [bne_iff_ne]; exact hbad
  clear hbad
  generalize (upP to r).1 = uz at *
  generalize (upP to r).2 = A at *
  unfold rv at *
  go_enter Tryd.func7, Tryd.ntmps7
  go_wp2_with fail
  refine (HUP.out _ (HX.out _ _).2.2).mono ?_
  rintro e w2 ⟨aa, ca, rfl, _, b2⟩
  have HK : Hid (Box (w2.alloc (.cells #[.int .i64 A.x.v, .int .i64 A.x.k, .int .i64 A.x.s, .int .i64 A.x.p, .int .i64 A.x.t, .int .i64 A.x.a, .int .i64 A.x.l, .int .i64 A.x.c, .int .i64 A.x.n, .int .i64 A.x.i, .string A.nm, .slice aa A.l.length ca] 24)) w.heap.size r.x r.nm (.slice ao r.l.length cap) ∧ Below w.heap.size w (w2.alloc (.cells #[.int .i64 A.x.v, .int .i64 A.x.k, .int .i64 A.x.s, .int .i64 A.x.p, .int .i64 A.x.t, .int .i64 A.x.a, .int .i64 A.x.l, .int .i64 A.x.c, .int .i64 A.x.n, .int .i64 A.x.i, .string A.nm, .slice aa A.l.length ca] 24))) := ⟨Box.kept (Box.kept (HX.out _ _).1 b2) (up0 _ _), up (andThen (HX.out _ _).2.2 b2) _⟩
  clear b2 HX HUP
  go_wp2_with fail
  refine (HST.out _ HK.out.2).mono ?_
  rintro e w4 ⟨rfl, b4⟩
  have hx4 := HK.out.1.kept b4
  have B4 := andThen HK.out.2 b4
  clear HK b4 HST
  obtain ⟨c0, c1, c2, c3, c4, c5, c6, c7, c8, c9, c10, c11⟩ := hx4.cells
  go_wp2_with fail
  refine (HRC.out _ B4).mono ?_
  rintro e w5 ⟨rfl, b5⟩
  have hx5 := hx4.kept b5
  have B5 := andThen B4 b5
  clear c0 c1 c2 c3 c4 c5 c6 c7 c8 c9 c10 c11 hx4 B4 b5 HRC
  clear hx5
  go_wp2_with fail
  refine (lnum_any _ _).mono ?_
  rintro e w6 ⟨rfl, rfl⟩
  go_wp2
  go_ret
  exact ⟨rfl, B5⟩
set_option maxRecDepth 100000 in
set_option maxHeartbeats 4000000 in
theorem lback_e2 (to : Int) (r q : Rec) (d dq : Value) (w : World) (h : Bs w d r.l) (hq : Bs w dq q.l) (hT : LTabs w) (hnm : r.nm.size ≤ 1048576) (hf : r.x.fit) (hc : chkR r = 0) (hv : to < r.x.v) :
    Calls Tryd.prog 7 #[rv r.x r.nm d, rv q.x q.nm dq, .int .i64 to] w fun e w' => e = .returned (.bool true) ∧ Below w.heap.size w w' := by
  have HX : Hid (∀ o1 o2, ((w.alloc o1).alloc o2).heap[w.heap.size]? = some o1 ∧ ((w.alloc o1).alloc o2).heap[w.heap.size + 1]? = some o2 ∧ Below w.heap.size w ((w.alloc o1).alloc o2)) := fun o1 o2 => heap2 w o1 o2
  have HST : Hid (∀ w', Below w.heap.size w w' → Calls Tryd.prog 24 #[] w' fun e w'' => e = .returned (.bool true) ∧ Below w'.heap.size w' w'') := fun w' hb => lstarted_any w' (hT.kept hb)
  have HUP : Hid (∀ w', Below w.heap.size w w' → Calls Tryd.prog 23 #[rv r.x r.nm d, .int .i64 to] w' fun e w'' => ∃ ao, ∃ cap : Nat, e = .returned (.tuple #[rv (upP to r).2.x (upP to r).2.nm (.slice ao (upP to r).2.l.length cap), .int .i64 (upP to r).1]) ∧ Bs w'' (.slice ao (upP to r).2.l.length cap) (upP to r).2.l ∧ Below w'.heap.size w' w'') := fun w' hb => up_any to r d w' (h.kept hb) (hT.kept hb) hnm hf
  have HRC : Hid (∀ w', Below w.heap.size w w' → Calls Tryd.prog 13 #[rv r.x r.nm d] w' fun e w'' => e = .returned (.int .i64 (chkR r)) ∧ Below w'.heap.size w' w'') := fun w' hb => refcheck_any r.x r.nm d r.l w' (h.kept hb) (hT.kept hb).tabs.rlets (hT.kept hb).tabs.rows hf.c (by omega)
  have hbad : (upP to r).1 ≠ 0 := up_bad (fun hh => by omega)
  rw [hc] at HRC
  clear hc
  obtain ⟨ao, cap, rfl, _⟩ := h.shape
  obtain ⟨aq, cq, rfl, _⟩ := hq.shape
  clear h hq hT
  have dz : ((upP to r).1 != 0) = true := by rw [bne_iff_ne]; exact hbad
  clear hbad
  generalize (upP to r).1 = uz at *
  generalize (upP to r).2 = A at *
  unfold rv at *
  go_enter Tryd.func7, Tryd.ntmps7
  go_wp2_with fail
  refine (HUP.out _ (HX.out _ _).2.2).mono ?_
  rintro e w2 ⟨aa, ca, rfl, _, b2⟩
  have HK : Hid (Box (w2.alloc (.cells #[.int .i64 A.x.v, .int .i64 A.x.k, .int .i64 A.x.s, .int .i64 A.x.p, .int .i64 A.x.t, .int .i64 A.x.a, .int .i64 A.x.l, .int .i64 A.x.c, .int .i64 A.x.n, .int .i64 A.x.i, .string A.nm, .slice aa A.l.length ca] 24)) w.heap.size r.x r.nm (.slice ao r.l.length cap) ∧ Below w.heap.size w (w2.alloc (.cells #[.int .i64 A.x.v, .int .i64 A.x.k, .int .i64 A.x.s, .int .i64 A.x.p, .int .i64 A.x.t, .int .i64 A.x.a, .int .i64 A.x.l, .int .i64 A.x.c, .int .i64 A.x.n, .int .i64 A.x.i, .string A.nm, .slice aa A.l.length ca] 24))) := ⟨Box.kept (Box.kept (HX.out _ _).1 b2) (up0 _ _), up (andThen (HX.out _ _).2.2 b2) _⟩
  clear b2 HX HUP
  go_wp2_with fail
  refine (HST.out _ HK.out.2).mono ?_
  rintro e w4 ⟨rfl, b4⟩
  have hx4 := HK.out.1.kept b4
  have B4 := andThen HK.out.2 b4
  clear HK b4 HST
  obtain ⟨c0, c1, c2, c3, c4, c5, c6, c7, c8, c9, c10, c11⟩ := hx4.cells
  go_wp2_with fail
  refine (HRC.out _ B4).mono ?_
  rintro e w5 ⟨rfl, b5⟩
  have hx5 := hx4.kept b5
  have B5 := andThen B4 b5
  clear c0 c1 c2 c3 c4 c5 c6 c7 c8 c9 c10 c11 hx4 B4 b5 HRC
  have cv := hx5.cells.1
  clear hx5
  go_wp2_with fail
  refine (lnum_any _ _).mono ?_
  rintro e w6 ⟨rfl, rfl⟩
  go_wp2
  go_ret
  exact ⟨rfl, B5⟩
set_option maxRecDepth 100000 in
set_option maxHeartbeats 4000000 in
theorem lback_e3 (to : Int) (r q : Rec) (d dq : Value) (w : World) (h : Bs w d r.l) (hq : Bs w dq q.l) (hT : LTabs w) (hnm : r.nm.size ≤ 1048576) (hf : r.x.fit) (hc : chkR r = 0) (hv : ¬ to < r.x.v) (h3 : 3 < to) :
    Calls Tryd.prog 7 #[rv r.x r.nm d, rv q.x q.nm dq, .int .i64 to] w fun e w' => e = .returned (.bool true) ∧ Below w.heap.size w w' := by
  have HX : Hid (∀ o1 o2, ((w.alloc o1).alloc o2).heap[w.heap.size]? = some o1 ∧ ((w.alloc o1).alloc o2).heap[w.heap.size + 1]? = some o2 ∧ Below w.heap.size w ((w.alloc o1).alloc o2)) := fun o1 o2 => heap2 w o1 o2
  have HST : Hid (∀ w', Below w.heap.size w w' → Calls Tryd.prog 24 #[] w' fun e w'' => e = .returned (.bool true) ∧ Below w'.heap.size w' w'') := fun w' hb => lstarted_any w' (hT.kept hb)
  have HUP : Hid (∀ w', Below w.heap.size w w' → Calls Tryd.prog 23 #[rv r.x r.nm d, .int .i64 to] w' fun e w'' => ∃ ao, ∃ cap : Nat, e = .returned (.tuple #[rv (upP to r).2.x (upP to r).2.nm (.slice ao (upP to r).2.l.length cap), .int .i64 (upP to r).1]) ∧ Bs w'' (.slice ao (upP to r).2.l.length cap) (upP to r).2.l ∧ Below w'.heap.size w' w'') := fun w' hb => up_any to r d w' (h.kept hb) (hT.kept hb) hnm hf
  have HRC : Hid (∀ w', Below w.heap.size w w' → Calls Tryd.prog 13 #[rv r.x r.nm d] w' fun e w'' => e = .returned (.int .i64 (chkR r)) ∧ Below w'.heap.size w' w'') := fun w' hb => refcheck_any r.x r.nm d r.l w' (h.kept hb) (hT.kept hb).tabs.rlets (hT.kept hb).tabs.rows hf.c (by omega)
  have hbad : (upP to r).1 ≠ 0 := up_bad (fun hh => by omega)
  rw [hc] at HRC
  clear hc
  obtain ⟨ao, cap, rfl, _⟩ := h.shape
  obtain ⟨aq, cq, rfl, _⟩ := hq.shape
  clear h hq hT
  have dz : ((upP to r).1 != 0) = true := by rw [bne_iff_ne]; exact hbad
  clear hbad
  generalize (upP to r).1 = uz at *
  generalize (upP to r).2 = A at *
  unfold rv at *
  go_enter Tryd.func7, Tryd.ntmps7
  go_wp2_with fail
  refine (HUP.out _ (HX.out _ _).2.2).mono ?_
  rintro e w2 ⟨aa, ca, rfl, _, b2⟩
  have HK : Hid (Box (w2.alloc (.cells #[.int .i64 A.x.v, .int .i64 A.x.k, .int .i64 A.x.s, .int .i64 A.x.p, .int .i64 A.x.t, .int .i64 A.x.a, .int .i64 A.x.l, .int .i64 A.x.c, .int .i64 A.x.n, .int .i64 A.x.i, .string A.nm, .slice aa A.l.length ca] 24)) w.heap.size r.x r.nm (.slice ao r.l.length cap) ∧ Below w.heap.size w (w2.alloc (.cells #[.int .i64 A.x.v, .int .i64 A.x.k, .int .i64 A.x.s, .int .i64 A.x.p, .int .i64 A.x.t, .int .i64 A.x.a, .int .i64 A.x.l, .int .i64 A.x.c, .int .i64 A.x.n, .int .i64 A.x.i, .string A.nm, .slice aa A.l.length ca] 24))) := ⟨Box.kept (Box.kept (HX.out _ _).1 b2) (up0 _ _), up (andThen (HX.out _ _).2.2 b2) _⟩
  clear b2 HX HUP
  go_wp2_with fail
  refine (HST.out _ HK.out.2).mono ?_
  rintro e w4 ⟨rfl, b4⟩
  have hx4 := HK.out.1.kept b4
  have B4 := andThen HK.out.2 b4
  clear HK b4 HST
  obtain ⟨c0, c1, c2, c3, c4, c5, c6, c7, c8, c9, c10, c11⟩ := hx4.cells
  go_wp2_with fail
  refine (HRC.out _ B4).mono ?_
  rintro e w5 ⟨rfl, b5⟩
  have hx5 := hx4.kept b5
  have B5 := andThen B4 b5
  clear c0 c1 c2 c3 c4 c5 c6 c7 c8 c9 c10 c11 hx4 B4 b5 HRC
  have cv := hx5.cells.1
  clear hx5
  go_wp2_with fail
  refine (lnum_any _ _).mono ?_
  rintro e w6 ⟨rfl, rfl⟩
  go_wp2
  go_ret
  exact ⟨rfl, B5⟩
set_option maxRecDepth 100000 in
set_option maxHeartbeats 4000000 in
theorem lback_g1 (to : Int) (r q : Rec) (d dq : Value) (w : World) (h : Bs w d r.l) (hq : Bs w dq q.l) (hT : LTabs w) (hnm : r.nm.size ≤ 1048576) (hqm : q.nm.size ≤ 1048576) (hf : r.x.fit) (hqf : q.x.fit) (hok : ok r.l) (hc : chkR r = 0) (hv : ¬ to < r.x.v) (h3 : ¬ 3 < to) (hu : (upP to q).1 ≠ 0) :
    Calls Tryd.prog 7 #[rv r.x r.nm d, rv q.x q.nm dq, .int .i64 to] w fun e w' => e = .returned (.bool true) ∧ Below w.heap.size w w' := by
  have HX : Hid (∀ o1 o2, ((w.alloc o1).alloc o2).heap[w.heap.size]? = some o1 ∧ ((w.alloc o1).alloc o2).heap[w.heap.size + 1]? = some o2 ∧ Below w.heap.size w ((w.alloc o1).alloc o2)) := fun o1 o2 => heap2 w o1 o2
  have HST : Hid (∀ w', Below w.heap.size w w' → Calls Tryd.prog 24 #[] w' fun e w'' => e = .returned (.bool true) ∧ Below w'.heap.size w' w'') := fun w' hb => lstarted_any w' (hT.kept hb)
  have hub := up_back r to hok hc (by omega) (by omega)
  have hvv := (chk_exp r.x r.nm r.l).1 hc
  have hug : upP to r = (0, carP to r) := up_good hc (by omega) (by omega) (by omega)
  have hdg : downP r.x.v (carP to r) = (0, r) := by
    have he := hub.2.2.2.2
    have := down_good (to := r.x.v) hub.1 (by omega) (by omega) (by rw [hub.2.1]; omega) (by rw [hub.2.1, he])
    rw [this, he]
  have hAf : (carP to r).x.fit := carL_fit _ _ hf
  have hAs := small_of _ hAf hub.1
  have HUP : Hid (∀ w', Below w.heap.size w w' → Calls Tryd.prog 23 #[rv r.x r.nm d, .int .i64 to] w' fun e w'' => ∃ ao, ∃ cap : Nat, e = .returned (.tuple #[rv (carP to r).x (carP to r).nm (.slice ao (carP to r).l.length cap), .int .i64 0]) ∧ Bs w'' (.slice ao (carP to r).l.length cap) (carP to r).l ∧ Below w'.heap.size w' w'') := fun w' hb => by
    have := up_any to r d w' (h.kept hb) (hT.kept hb) hnm hf
    rw [hug] at this
    exact this
  have HRC : Hid (∀ w', Below w.heap.size w w' → Calls Tryd.prog 13 #[rv r.x r.nm d] w' fun e w'' => e = .returned (.int .i64 (chkR r)) ∧ Below w'.heap.size w' w'') := fun w' hb => refcheck_any r.x r.nm d r.l w' (h.kept hb) (hT.kept hb).tabs.rlets (hT.kept hb).tabs.rows hf.c (by omega)
  rw [hc] at HRC
  have HRA : Hid (∀ w' aa (ca : Nat), Below w.heap.size w w' → Bs w' (.slice aa (carP to r).l.length ca) (carP to r).l → Calls Tryd.prog 13 #[rv (carP to r).x (carP to r).nm (.slice aa (carP to r).l.length ca)] w' fun e w'' => e = .returned (.int .i64 0) ∧ Below w'.heap.size w' w'') := fun w' aa ca hb hbs => by
    have := refcheck_any (carP to r).x (carP to r).nm _ (carP to r).l w' hbs (hT.kept hb).tabs.rlets (hT.kept hb).tabs.rows hAf.c (by have := hAs.1; omega)
    rw [show chk (carP to r).x (carP to r).nm (carP to r).l = 0 from hub.1] at this
    exact this
  have HDN : Hid (∀ w' aa (ca : Nat), Below w.heap.size w w' → Bs w' (.slice aa (carP to r).l.length ca) (carP to r).l → Calls Tryd.prog 26 #[rv (carP to r).x (carP to r).nm (.slice aa (carP to r).l.length ca), .int .i64 r.x.v] w' fun e w'' => ∃ ao, ∃ cap : Nat, e = .returned (.tuple #[rv r.x r.nm (.slice ao r.l.length cap), .int .i64 0]) ∧ Bs w'' (.slice ao r.l.length cap) r.l ∧ Below w'.heap.size w' w'') := fun w' aa ca hb hbs => by
    have := down_any r.x.v (carP to r) _ w' hbs (hT.kept hb) (by have := hAs.1; omega) hAf
    rw [hdg] at this
    exact this
  have HUQ : Hid (∀ w', Below w.heap.size w w' → Calls Tryd.prog 23 #[rv q.x q.nm dq, .int .i64 to] w' fun e w'' => ∃ ao, ∃ cap : Nat, e = .returned (.tuple #[rv (upP to q).2.x (upP to q).2.nm (.slice ao (upP to q).2.l.length cap), .int .i64 (upP to q).1]) ∧ Bs w'' (.slice ao (upP to q).2.l.length cap) (upP to q).2.l ∧ Below w'.heap.size w' w'') := fun w' hb => up_any to q dq w' (hq.kept hb) (hT.kept hb) hqm hqf
  have HB : Hid (∀ w', Below w.heap.size w w' → Bs w' d r.l ∧ Bs w' dq q.l) := fun w' hb => ⟨h.kept hb, hq.kept hb⟩
  have HSM : Hid (∀ (a b : Rec) (v1 v2 : Value) w', Bs w' v1 a.l → Bs w' v2 b.l → Calls Tryd.prog 14 #[rv a.x a.nm v1, rv b.x b.nm v2] w' fun e w'' => e = .returned (.bool (eqR a b)) ∧ Below w'.heap.size w' w'') := fun a b v1 v2 w' h1 h2 => refsame_any a.x b.x a.nm b.nm v1 v2 a.l b.l w' h1 h2
  have dv : ((carP to r).x.v != to) = false := by rw [hub.2.1]; simp
  have ds : ((carP to r).x.s != r.x.s) = false := by rw [hub.2.2.1]; simp
  have dk : ((carP to r).x.k != r.x.k) = false := by rw [hub.2.2.2.1]; simp
  obtain ⟨ao, cap, rfl, _⟩ := h.shape
  obtain ⟨aq, cq, rfl, _⟩ := hq.shape
  have HS1 : Hid (∀ w' ab (cb : Nat), Bs w' (.slice ab r.l.length cb) r.l → Bs w' (.slice ao r.l.length cap) r.l → Calls Tryd.prog 14 #[rv r.x r.nm (.slice ab r.l.length cb), rv r.x r.nm (.slice ao r.l.length cap)] w' fun e w'' => e = .returned (.bool true) ∧ Below w'.heap.size w' w'') := fun w' ab cb h1 h2 => (HSM.out r r _ _ w' h1 h2).mono fun e w'' ⟨he, hk⟩ => ⟨by rw [he, (eqR_iff r r).2 rfl], hk⟩
  clear h hq hT hub hug hdg hAf hAs hc hvv hf hqf hok
  have dz : ((upP to q).1 != 0) = true := by rw [bne_iff_ne]; exact hu
  clear hu HSM
  generalize (upP to q).1 = uz at *
  generalize (upP to q).2 = U at *
  generalize carP to r = A at *
  unfold rv at *
  go_enter Tryd.func7, Tryd.ntmps7
  go_wp2_with fail
  refine (HUP.out _ (HX.out _ _).2.2).mono ?_
  rintro e w2 ⟨aa, ca, rfl, hba, b2⟩
  have HK : Hid (Box (w2.alloc (.cells #[.int .i64 A.x.v, .int .i64 A.x.k, .int .i64 A.x.s, .int .i64 A.x.p, .int .i64 A.x.t, .int .i64 A.x.a, .int .i64 A.x.l, .int .i64 A.x.c, .int .i64 A.x.n, .int .i64 A.x.i, .string A.nm, .slice aa A.l.length ca] 24)) w.heap.size r.x r.nm (.slice ao r.l.length cap) ∧ Box (w2.alloc (.cells #[.int .i64 A.x.v, .int .i64 A.x.k, .int .i64 A.x.s, .int .i64 A.x.p, .int .i64 A.x.t, .int .i64 A.x.a, .int .i64 A.x.l, .int .i64 A.x.c, .int .i64 A.x.n, .int .i64 A.x.i, .string A.nm, .slice aa A.l.length ca] 24)) (w.heap.size + 1) q.x q.nm (.slice aq q.l.length cq) ∧ Box (w2.alloc (.cells #[.int .i64 A.x.v, .int .i64 A.x.k, .int .i64 A.x.s, .int .i64 A.x.p, .int .i64 A.x.t, .int .i64 A.x.a, .int .i64 A.x.l, .int .i64 A.x.c, .int .i64 A.x.n, .int .i64 A.x.i, .string A.nm, .slice aa A.l.length ca] 24)) w2.heap.size A.x A.nm (.slice aa A.l.length ca) ∧ Bs (w2.alloc (.cells #[.int .i64 A.x.v, .int .i64 A.x.k, .int .i64 A.x.s, .int .i64 A.x.p, .int .i64 A.x.t, .int .i64 A.x.a, .int .i64 A.x.l, .int .i64 A.x.c, .int .i64 A.x.n, .int .i64 A.x.i, .string A.nm, .slice aa A.l.length ca] 24)) (.slice aa A.l.length ca) A.l ∧ Below w.heap.size w (w2.alloc (.cells #[.int .i64 A.x.v, .int .i64 A.x.k, .int .i64 A.x.s, .int .i64 A.x.p, .int .i64 A.x.t, .int .i64 A.x.a, .int .i64 A.x.l, .int .i64 A.x.c, .int .i64 A.x.n, .int .i64 A.x.i, .string A.nm, .slice aa A.l.length ca] 24))) := ⟨Box.kept (Box.kept (HX.out _ _).1 b2) (up0 _ _), Box.kept (Box.kept (HX.out _ _).2.1 b2) (up0 _ _), Array.getElem?_push_size, hba.alloc _, up (andThen (HX.out _ _).2.2 b2) _⟩
  clear b2 HX HUP hba
  go_wp2_with fail
  refine (HST.out _ HK.out.2.2.2.2).mono ?_
  rintro e w4 ⟨rfl, b4⟩
  have HK4 : Box w4 w.heap.size r.x r.nm (.slice ao r.l.length cap) ∧ Box w4 (w.heap.size + 1) q.x q.nm (.slice aq q.l.length cq) ∧ Box w4 w2.heap.size A.x A.nm (.slice aa A.l.length ca) ∧ Bs w4 (.slice aa A.l.length ca) A.l ∧ Below w.heap.size w w4 := ⟨HK.out.1.kept b4, HK.out.2.1.kept b4, HK.out.2.2.1.kept b4, HK.out.2.2.2.1.kept b4, andThen HK.out.2.2.2.2 b4⟩
  clear HK b4 HST
  generalize w2.heap.size = ga at HK4 ⊢
  obtain ⟨hr4, hq4, ha4, hba4, B4⟩ := HK4
  obtain ⟨c0, c1, c2, c3, c4, c5, c6, c7, c8, c9, c10, c11⟩ := hr4.cells
  go_wp2_with fail
  refine (HRC.out _ B4).mono ?_
  rintro e w5 ⟨rfl, b5⟩
  have hr5 := hr4.kept b5
  have hq5 := hq4.kept b5
  have ha5 := ha4.kept b5
  have hba5 := hba4.kept b5
  have B5 := andThen B4 b5
  clear c0 c1 c2 c3 c4 c5 c6 c7 c8 c9 c10 c11 hr4 hq4 ha4 hba4 B4 b5 HRC
  obtain ⟨c0, c1, c2, c3, c4, c5, c6, c7, c8, c9, c10, c11⟩ := hr5.cells
  obtain ⟨e0, e1, e2, e3, e4, e5, e6, e7, e8, e9, e10, e11⟩ := ha5.cells
  go_wp2_with fail
  refine (lnum_any 0 _).mono ?_
  rintro e w6 ⟨rfl, rfl⟩
  go_wp2_with fail
  refine (HRA.out _ _ _ B5 hba5).mono ?_
  rintro e w7 ⟨rfl, b7⟩
  have hr7 := hr5.kept b7
  have hq7 := hq5.kept b7
  have ha7 := ha5.kept b7
  have hba7 := hba5.kept b7
  have B7 := andThen B5 b7
  clear c0 c1 c2 c3 c4 c5 c6 c7 c8 c9 c10 c11 e0 e1 e2 e3 e4 e5 e6 e7 e8 e9 e10 e11 hr5 hq5 ha5 hba5 B5 b7 HRA
  obtain ⟨c0, c1, c2, c3, c4, c5, c6, c7, c8, c9, c10, c11⟩ := hr7.cells
  obtain ⟨e0, e1, e2, e3, e4, e5, e6, e7, e8, e9, e10, e11⟩ := ha7.cells
  go_wp2_with fail
  refine (HDN.out _ _ _ B7 hba7).mono ?_
  rintro e w8 ⟨ab, cb, rfl, hbb, b8⟩
  have HK8 : Hid (Box (w8.alloc (.cells #[.int .i64 r.x.v, .int .i64 r.x.k, .int .i64 r.x.s, .int .i64 r.x.p, .int .i64 r.x.t, .int .i64 r.x.a, .int .i64 r.x.l, .int .i64 r.x.c, .int .i64 r.x.n, .int .i64 r.x.i, .string r.nm, .slice ab r.l.length cb] 24)) w.heap.size r.x r.nm (.slice ao r.l.length cap) ∧ Box (w8.alloc (.cells #[.int .i64 r.x.v, .int .i64 r.x.k, .int .i64 r.x.s, .int .i64 r.x.p, .int .i64 r.x.t, .int .i64 r.x.a, .int .i64 r.x.l, .int .i64 r.x.c, .int .i64 r.x.n, .int .i64 r.x.i, .string r.nm, .slice ab r.l.length cb] 24)) (w.heap.size + 1) q.x q.nm (.slice aq q.l.length cq) ∧ Box (w8.alloc (.cells #[.int .i64 r.x.v, .int .i64 r.x.k, .int .i64 r.x.s, .int .i64 r.x.p, .int .i64 r.x.t, .int .i64 r.x.a, .int .i64 r.x.l, .int .i64 r.x.c, .int .i64 r.x.n, .int .i64 r.x.i, .string r.nm, .slice ab r.l.length cb] 24)) ga A.x A.nm (.slice aa A.l.length ca) ∧ Bs (w8.alloc (.cells #[.int .i64 r.x.v, .int .i64 r.x.k, .int .i64 r.x.s, .int .i64 r.x.p, .int .i64 r.x.t, .int .i64 r.x.a, .int .i64 r.x.l, .int .i64 r.x.c, .int .i64 r.x.n, .int .i64 r.x.i, .string r.nm, .slice ab r.l.length cb] 24)) (.slice aa A.l.length ca) A.l ∧ Below w.heap.size w (w8.alloc (.cells #[.int .i64 r.x.v, .int .i64 r.x.k, .int .i64 r.x.s, .int .i64 r.x.p, .int .i64 r.x.t, .int .i64 r.x.a, .int .i64 r.x.l, .int .i64 r.x.c, .int .i64 r.x.n, .int .i64 r.x.i, .string r.nm, .slice ab r.l.length cb] 24)) ∧ Box (w8.alloc (.cells #[.int .i64 r.x.v, .int .i64 r.x.k, .int .i64 r.x.s, .int .i64 r.x.p, .int .i64 r.x.t, .int .i64 r.x.a, .int .i64 r.x.l, .int .i64 r.x.c, .int .i64 r.x.n, .int .i64 r.x.i, .string r.nm, .slice ab r.l.length cb] 24)) w8.heap.size r.x r.nm (.slice ab r.l.length cb) ∧ Bs (w8.alloc (.cells #[.int .i64 r.x.v, .int .i64 r.x.k, .int .i64 r.x.s, .int .i64 r.x.p, .int .i64 r.x.t, .int .i64 r.x.a, .int .i64 r.x.l, .int .i64 r.x.c, .int .i64 r.x.n, .int .i64 r.x.i, .string r.nm, .slice ab r.l.length cb] 24)) (.slice ab r.l.length cb) r.l) := ⟨(hr7.kept b8).kept (up0 _ _), (hq7.kept b8).kept (up0 _ _), (ha7.kept b8).kept (up0 _ _), (hba7.kept b8).alloc _, up (andThen B7 b8) _, Array.getElem?_push_size, hbb.alloc _⟩
  clear c0 c1 c2 c3 c4 c5 c6 c7 c8 c9 c10 c11 e0 e1 e2 e3 e4 e5 e6 e7 e8 e9 e10 e11 hr7 hq7 ha7 hba7 B7 b8 HDN hbb
  go_wp2_with fail
  refine (lnum_any 0 _).mono ?_
  rintro e w9 ⟨rfl, rfl⟩
  have HK8' := HK8.out
  clear HK8
  generalize w8.alloc (.cells #[.int .i64 r.x.v, .int .i64 r.x.k, .int .i64 r.x.s, .int .i64 r.x.p, .int .i64 r.x.t, .int .i64 r.x.a, .int .i64 r.x.l, .int .i64 r.x.c, .int .i64 r.x.n, .int .i64 r.x.i, .string r.nm, .slice ab r.l.length cb] 24) = W9 at HK8' ⊢
  generalize w8.heap.size = gb at HK8' ⊢
  obtain ⟨hr9, hq9, ha9, hba9, B9, hb9, hbb9⟩ := HK8'
  obtain ⟨c0, c1, c2, c3, c4, c5, c6, c7, c8, c9, c10, c11⟩ := hr9.cells
  obtain ⟨e0, e1, e2, e3, e4, e5, e6, e7, e8, e9, e10, e11⟩ := hb9.cells
  go_wp2_with fail
  refine (HS1.out _ _ _ hbb9 (HB.out _ B9).1).mono ?_
  rintro e wa ⟨rfl, ba⟩
  have hra := hr9.kept ba
  have hqa := hq9.kept ba
  have haa := ha9.kept ba
  have hbaa := hba9.kept ba
  have Ba := andThen B9 ba
  clear c0 c1 c2 c3 c4 c5 c6 c7 c8 c9 c10 c11 e0 e1 e2 e3 e4 e5 e6 e7 e8 e9 e10 e11 hr9 hq9 ha9 hba9 B9 hb9 hbb9 ba HS1
  obtain ⟨c0, c1, c2, c3, c4, c5, c6, c7, c8, c9, c10, c11⟩ := hqa.cells
  go_wp2_with fail
  refine (HUQ.out _ Ba).mono ?_
  rintro e wb ⟨au, cu, rfl, hbu, bb⟩
  have HKB : Hid (Box (wb.alloc (.cells #[.int .i64 U.x.v, .int .i64 U.x.k, .int .i64 U.x.s, .int .i64 U.x.p, .int .i64 U.x.t, .int .i64 U.x.a, .int .i64 U.x.l, .int .i64 U.x.c, .int .i64 U.x.n, .int .i64 U.x.i, .string U.nm, .slice au U.l.length cu] 24)) w.heap.size r.x r.nm (.slice ao r.l.length cap) ∧ Box (wb.alloc (.cells #[.int .i64 U.x.v, .int .i64 U.x.k, .int .i64 U.x.s, .int .i64 U.x.p, .int .i64 U.x.t, .int .i64 U.x.a, .int .i64 U.x.l, .int .i64 U.x.c, .int .i64 U.x.n, .int .i64 U.x.i, .string U.nm, .slice au U.l.length cu] 24)) (w.heap.size + 1) q.x q.nm (.slice aq q.l.length cq) ∧ Box (wb.alloc (.cells #[.int .i64 U.x.v, .int .i64 U.x.k, .int .i64 U.x.s, .int .i64 U.x.p, .int .i64 U.x.t, .int .i64 U.x.a, .int .i64 U.x.l, .int .i64 U.x.c, .int .i64 U.x.n, .int .i64 U.x.i, .string U.nm, .slice au U.l.length cu] 24)) ga A.x A.nm (.slice aa A.l.length ca) ∧ Bs (wb.alloc (.cells #[.int .i64 U.x.v, .int .i64 U.x.k, .int .i64 U.x.s, .int .i64 U.x.p, .int .i64 U.x.t, .int .i64 U.x.a, .int .i64 U.x.l, .int .i64 U.x.c, .int .i64 U.x.n, .int .i64 U.x.i, .string U.nm, .slice au U.l.length cu] 24)) (.slice aa A.l.length ca) A.l ∧ Below w.heap.size w (wb.alloc (.cells #[.int .i64 U.x.v, .int .i64 U.x.k, .int .i64 U.x.s, .int .i64 U.x.p, .int .i64 U.x.t, .int .i64 U.x.a, .int .i64 U.x.l, .int .i64 U.x.c, .int .i64 U.x.n, .int .i64 U.x.i, .string U.nm, .slice au U.l.length cu] 24)) ∧ Box (wb.alloc (.cells #[.int .i64 U.x.v, .int .i64 U.x.k, .int .i64 U.x.s, .int .i64 U.x.p, .int .i64 U.x.t, .int .i64 U.x.a, .int .i64 U.x.l, .int .i64 U.x.c, .int .i64 U.x.n, .int .i64 U.x.i, .string U.nm, .slice au U.l.length cu] 24)) wb.heap.size U.x U.nm (.slice au U.l.length cu) ∧ Bs (wb.alloc (.cells #[.int .i64 U.x.v, .int .i64 U.x.k, .int .i64 U.x.s, .int .i64 U.x.p, .int .i64 U.x.t, .int .i64 U.x.a, .int .i64 U.x.l, .int .i64 U.x.c, .int .i64 U.x.n, .int .i64 U.x.i, .string U.nm, .slice au U.l.length cu] 24)) (.slice au U.l.length cu) U.l) := ⟨(hra.kept bb).kept (up0 _ _), (hqa.kept bb).kept (up0 _ _), (haa.kept bb).kept (up0 _ _), (hbaa.kept bb).alloc _, up (andThen Ba bb) _, Array.getElem?_push_size, hbu.alloc _⟩
  clear c0 c1 c2 c3 c4 c5 c6 c7 c8 c9 c10 c11 hra hqa haa hbaa Ba bb HUQ hbu
  go_wp2_with fail
  refine (lnum_any _ _).mono ?_
  rintro e wc ⟨rfl, rfl⟩
  have HKB' := HKB.out
  clear HKB
  generalize wb.alloc (.cells #[.int .i64 U.x.v, .int .i64 U.x.k, .int .i64 U.x.s, .int .i64 U.x.p, .int .i64 U.x.t, .int .i64 U.x.a, .int .i64 U.x.l, .int .i64 U.x.c, .int .i64 U.x.n, .int .i64 U.x.i, .string U.nm, .slice au U.l.length cu] 24) = WC at HKB' ⊢
  generalize wb.heap.size = gu at HKB' ⊢
  obtain ⟨hrc, hqc, hac, hbac, Bc, huc, hbuc⟩ := HKB'
  clear hrc hqc hac hbac huc hbuc
  go_wp2
  go_ret
  exact ⟨rfl, Bc⟩
set_option maxRecDepth 100000 in
set_option maxHeartbeats 4000000 in
theorem lback_g2 (to : Int) (r q : Rec) (d dq : Value) (w : World) (h : Bs w d r.l) (hq : Bs w dq q.l) (hT : LTabs w) (hnm : r.nm.size ≤ 1048576) (hqm : q.nm.size ≤ 1048576) (hf : r.x.fit) (hqf : q.x.fit) (hok : ok r.l) (hc : chkR r = 0) (hv : ¬ to < r.x.v) (h3 : ¬ 3 < to) (hu : (upP to q).1 = 0) (hne : q.x.v ≠ r.x.v) :
    Calls Tryd.prog 7 #[rv r.x r.nm d, rv q.x q.nm dq, .int .i64 to] w fun e w' => e = .returned (.bool true) ∧ Below w.heap.size w w' := by
  have HX : Hid (∀ o1 o2, ((w.alloc o1).alloc o2).heap[w.heap.size]? = some o1 ∧ ((w.alloc o1).alloc o2).heap[w.heap.size + 1]? = some o2 ∧ Below w.heap.size w ((w.alloc o1).alloc o2)) := fun o1 o2 => heap2 w o1 o2
  have HST : Hid (∀ w', Below w.heap.size w w' → Calls Tryd.prog 24 #[] w' fun e w'' => e = .returned (.bool true) ∧ Below w'.heap.size w' w'') := fun w' hb => lstarted_any w' (hT.kept hb)
  have hub := up_back r to hok hc (by omega) (by omega)
  have hvv := (chk_exp r.x r.nm r.l).1 hc
  have hug : upP to r = (0, carP to r) := up_good hc (by omega) (by omega) (by omega)
  have hdg : downP r.x.v (carP to r) = (0, r) := by
    have he := hub.2.2.2.2
    have := down_good (to := r.x.v) hub.1 (by omega) (by omega) (by rw [hub.2.1]; omega) (by rw [hub.2.1, he])
    rw [this, he]
  have hAf : (carP to r).x.fit := carL_fit _ _ hf
  have hAs := small_of _ hAf hub.1
  have HUP : Hid (∀ w', Below w.heap.size w w' → Calls Tryd.prog 23 #[rv r.x r.nm d, .int .i64 to] w' fun e w'' => ∃ ao, ∃ cap : Nat, e = .returned (.tuple #[rv (carP to r).x (carP to r).nm (.slice ao (carP to r).l.length cap), .int .i64 0]) ∧ Bs w'' (.slice ao (carP to r).l.length cap) (carP to r).l ∧ Below w'.heap.size w' w'') := fun w' hb => by
    have := up_any to r d w' (h.kept hb) (hT.kept hb) hnm hf
    rw [hug] at this
    exact this
  have HRC : Hid (∀ w', Below w.heap.size w w' → Calls Tryd.prog 13 #[rv r.x r.nm d] w' fun e w'' => e = .returned (.int .i64 (chkR r)) ∧ Below w'.heap.size w' w'') := fun w' hb => refcheck_any r.x r.nm d r.l w' (h.kept hb) (hT.kept hb).tabs.rlets (hT.kept hb).tabs.rows hf.c (by omega)
  rw [hc] at HRC
  have HRA : Hid (∀ w' aa (ca : Nat), Below w.heap.size w w' → Bs w' (.slice aa (carP to r).l.length ca) (carP to r).l → Calls Tryd.prog 13 #[rv (carP to r).x (carP to r).nm (.slice aa (carP to r).l.length ca)] w' fun e w'' => e = .returned (.int .i64 0) ∧ Below w'.heap.size w' w'') := fun w' aa ca hb hbs => by
    have := refcheck_any (carP to r).x (carP to r).nm _ (carP to r).l w' hbs (hT.kept hb).tabs.rlets (hT.kept hb).tabs.rows hAf.c (by have := hAs.1; omega)
    rw [show chk (carP to r).x (carP to r).nm (carP to r).l = 0 from hub.1] at this
    exact this
  have HDN : Hid (∀ w' aa (ca : Nat), Below w.heap.size w w' → Bs w' (.slice aa (carP to r).l.length ca) (carP to r).l → Calls Tryd.prog 26 #[rv (carP to r).x (carP to r).nm (.slice aa (carP to r).l.length ca), .int .i64 r.x.v] w' fun e w'' => ∃ ao, ∃ cap : Nat, e = .returned (.tuple #[rv r.x r.nm (.slice ao r.l.length cap), .int .i64 0]) ∧ Bs w'' (.slice ao r.l.length cap) r.l ∧ Below w'.heap.size w' w'') := fun w' aa ca hb hbs => by
    have := down_any r.x.v (carP to r) _ w' hbs (hT.kept hb) (by have := hAs.1; omega) hAf
    rw [hdg] at this
    exact this
  have HUQ : Hid (∀ w', Below w.heap.size w w' → Calls Tryd.prog 23 #[rv q.x q.nm dq, .int .i64 to] w' fun e w'' => ∃ ao, ∃ cap : Nat, e = .returned (.tuple #[rv (upP to q).2.x (upP to q).2.nm (.slice ao (upP to q).2.l.length cap), .int .i64 (upP to q).1]) ∧ Bs w'' (.slice ao (upP to q).2.l.length cap) (upP to q).2.l ∧ Below w'.heap.size w' w'') := fun w' hb => up_any to q dq w' (hq.kept hb) (hT.kept hb) hqm hqf
  have HB : Hid (∀ w', Below w.heap.size w w' → Bs w' d r.l ∧ Bs w' dq q.l) := fun w' hb => ⟨h.kept hb, hq.kept hb⟩
  have HSM : Hid (∀ (a b : Rec) (v1 v2 : Value) w', Bs w' v1 a.l → Bs w' v2 b.l → Calls Tryd.prog 14 #[rv a.x a.nm v1, rv b.x b.nm v2] w' fun e w'' => e = .returned (.bool (eqR a b)) ∧ Below w'.heap.size w' w'') := fun a b v1 v2 w' h1 h2 => refsame_any a.x b.x a.nm b.nm v1 v2 a.l b.l w' h1 h2
  have dv : ((carP to r).x.v != to) = false := by rw [hub.2.1]; simp
  have ds : ((carP to r).x.s != r.x.s) = false := by rw [hub.2.2.1]; simp
  have dk : ((carP to r).x.k != r.x.k) = false := by rw [hub.2.2.2.1]; simp
  obtain ⟨ao, cap, rfl, _⟩ := h.shape
  obtain ⟨aq, cq, rfl, _⟩ := hq.shape
  have HS1 : Hid (∀ w' ab (cb : Nat), Bs w' (.slice ab r.l.length cb) r.l → Bs w' (.slice ao r.l.length cap) r.l → Calls Tryd.prog 14 #[rv r.x r.nm (.slice ab r.l.length cb), rv r.x r.nm (.slice ao r.l.length cap)] w' fun e w'' => e = .returned (.bool true) ∧ Below w'.heap.size w' w'') := fun w' ab cb h1 h2 => (HSM.out r r _ _ w' h1 h2).mono fun e w'' ⟨he, hk⟩ => ⟨by rw [he, (eqR_iff r r).2 rfl], hk⟩
  clear h hq hT hub hug hdg hAf hAs hc hvv hf hqf hok
  rw [hu] at HUQ
  have dq : (q.x.v != r.x.v) = true := by rw [bne_iff_ne]; exact hne
  clear hu hne HSM
  generalize (upP to q).2 = U at *
  generalize carP to r = A at *
  unfold rv at *
  go_enter Tryd.func7, Tryd.ntmps7
  go_wp2_with fail
  refine (HUP.out _ (HX.out _ _).2.2).mono ?_
  rintro e w2 ⟨aa, ca, rfl, hba, b2⟩
  have HK : Hid (Box (w2.alloc (.cells #[.int .i64 A.x.v, .int .i64 A.x.k, .int .i64 A.x.s, .int .i64 A.x.p, .int .i64 A.x.t, .int .i64 A.x.a, .int .i64 A.x.l, .int .i64 A.x.c, .int .i64 A.x.n, .int .i64 A.x.i, .string A.nm, .slice aa A.l.length ca] 24)) w.heap.size r.x r.nm (.slice ao r.l.length cap) ∧ Box (w2.alloc (.cells #[.int .i64 A.x.v, .int .i64 A.x.k, .int .i64 A.x.s, .int .i64 A.x.p, .int .i64 A.x.t, .int .i64 A.x.a, .int .i64 A.x.l, .int .i64 A.x.c, .int .i64 A.x.n, .int .i64 A.x.i, .string A.nm, .slice aa A.l.length ca] 24)) (w.heap.size + 1) q.x q.nm (.slice aq q.l.length cq) ∧ Box (w2.alloc (.cells #[.int .i64 A.x.v, .int .i64 A.x.k, .int .i64 A.x.s, .int .i64 A.x.p, .int .i64 A.x.t, .int .i64 A.x.a, .int .i64 A.x.l, .int .i64 A.x.c, .int .i64 A.x.n, .int .i64 A.x.i, .string A.nm, .slice aa A.l.length ca] 24)) w2.heap.size A.x A.nm (.slice aa A.l.length ca) ∧ Bs (w2.alloc (.cells #[.int .i64 A.x.v, .int .i64 A.x.k, .int .i64 A.x.s, .int .i64 A.x.p, .int .i64 A.x.t, .int .i64 A.x.a, .int .i64 A.x.l, .int .i64 A.x.c, .int .i64 A.x.n, .int .i64 A.x.i, .string A.nm, .slice aa A.l.length ca] 24)) (.slice aa A.l.length ca) A.l ∧ Below w.heap.size w (w2.alloc (.cells #[.int .i64 A.x.v, .int .i64 A.x.k, .int .i64 A.x.s, .int .i64 A.x.p, .int .i64 A.x.t, .int .i64 A.x.a, .int .i64 A.x.l, .int .i64 A.x.c, .int .i64 A.x.n, .int .i64 A.x.i, .string A.nm, .slice aa A.l.length ca] 24))) := ⟨Box.kept (Box.kept (HX.out _ _).1 b2) (up0 _ _), Box.kept (Box.kept (HX.out _ _).2.1 b2) (up0 _ _), Array.getElem?_push_size, hba.alloc _, up (andThen (HX.out _ _).2.2 b2) _⟩
  clear b2 HX HUP hba
  go_wp2_with fail
  refine (HST.out _ HK.out.2.2.2.2).mono ?_
  rintro e w4 ⟨rfl, b4⟩
  have HK4 : Box w4 w.heap.size r.x r.nm (.slice ao r.l.length cap) ∧ Box w4 (w.heap.size + 1) q.x q.nm (.slice aq q.l.length cq) ∧ Box w4 w2.heap.size A.x A.nm (.slice aa A.l.length ca) ∧ Bs w4 (.slice aa A.l.length ca) A.l ∧ Below w.heap.size w w4 := ⟨HK.out.1.kept b4, HK.out.2.1.kept b4, HK.out.2.2.1.kept b4, HK.out.2.2.2.1.kept b4, andThen HK.out.2.2.2.2 b4⟩
  clear HK b4 HST
  generalize w2.heap.size = ga at HK4 ⊢
  obtain ⟨hr4, hq4, ha4, hba4, B4⟩ := HK4
  obtain ⟨c0, c1, c2, c3, c4, c5, c6, c7, c8, c9, c10, c11⟩ := hr4.cells
  go_wp2_with fail
  refine (HRC.out _ B4).mono ?_
  rintro e w5 ⟨rfl, b5⟩
  have hr5 := hr4.kept b5
  have hq5 := hq4.kept b5
  have ha5 := ha4.kept b5
  have hba5 := hba4.kept b5
  have B5 := andThen B4 b5
  clear c0 c1 c2 c3 c4 c5 c6 c7 c8 c9 c10 c11 hr4 hq4 ha4 hba4 B4 b5 HRC
  obtain ⟨c0, c1, c2, c3, c4, c5, c6, c7, c8, c9, c10, c11⟩ := hr5.cells
  obtain ⟨e0, e1, e2, e3, e4, e5, e6, e7, e8, e9, e10, e11⟩ := ha5.cells
  go_wp2_with fail
  refine (lnum_any 0 _).mono ?_
  rintro e w6 ⟨rfl, rfl⟩
  go_wp2_with fail
  refine (HRA.out _ _ _ B5 hba5).mono ?_
  rintro e w7 ⟨rfl, b7⟩
  have hr7 := hr5.kept b7
  have hq7 := hq5.kept b7
  have ha7 := ha5.kept b7
  have hba7 := hba5.kept b7
  have B7 := andThen B5 b7
  clear c0 c1 c2 c3 c4 c5 c6 c7 c8 c9 c10 c11 e0 e1 e2 e3 e4 e5 e6 e7 e8 e9 e10 e11 hr5 hq5 ha5 hba5 B5 b7 HRA
  obtain ⟨c0, c1, c2, c3, c4, c5, c6, c7, c8, c9, c10, c11⟩ := hr7.cells
  obtain ⟨e0, e1, e2, e3, e4, e5, e6, e7, e8, e9, e10, e11⟩ := ha7.cells
  go_wp2_with fail
  refine (HDN.out _ _ _ B7 hba7).mono ?_
  rintro e w8 ⟨ab, cb, rfl, hbb, b8⟩
  have HK8 : Hid (Box (w8.alloc (.cells #[.int .i64 r.x.v, .int .i64 r.x.k, .int .i64 r.x.s, .int .i64 r.x.p, .int .i64 r.x.t, .int .i64 r.x.a, .int .i64 r.x.l, .int .i64 r.x.c, .int .i64 r.x.n, .int .i64 r.x.i, .string r.nm, .slice ab r.l.length cb] 24)) w.heap.size r.x r.nm (.slice ao r.l.length cap) ∧ Box (w8.alloc (.cells #[.int .i64 r.x.v, .int .i64 r.x.k, .int .i64 r.x.s, .int .i64 r.x.p, .int .i64 r.x.t, .int .i64 r.x.a, .int .i64 r.x.l, .int .i64 r.x.c, .int .i64 r.x.n, .int .i64 r.x.i, .string r.nm, .slice ab r.l.length cb] 24)) (w.heap.size + 1) q.x q.nm (.slice aq q.l.length cq) ∧ Box (w8.alloc (.cells #[.int .i64 r.x.v, .int .i64 r.x.k, .int .i64 r.x.s, .int .i64 r.x.p, .int .i64 r.x.t, .int .i64 r.x.a, .int .i64 r.x.l, .int .i64 r.x.c, .int .i64 r.x.n, .int .i64 r.x.i, .string r.nm, .slice ab r.l.length cb] 24)) ga A.x A.nm (.slice aa A.l.length ca) ∧ Bs (w8.alloc (.cells #[.int .i64 r.x.v, .int .i64 r.x.k, .int .i64 r.x.s, .int .i64 r.x.p, .int .i64 r.x.t, .int .i64 r.x.a, .int .i64 r.x.l, .int .i64 r.x.c, .int .i64 r.x.n, .int .i64 r.x.i, .string r.nm, .slice ab r.l.length cb] 24)) (.slice aa A.l.length ca) A.l ∧ Below w.heap.size w (w8.alloc (.cells #[.int .i64 r.x.v, .int .i64 r.x.k, .int .i64 r.x.s, .int .i64 r.x.p, .int .i64 r.x.t, .int .i64 r.x.a, .int .i64 r.x.l, .int .i64 r.x.c, .int .i64 r.x.n, .int .i64 r.x.i, .string r.nm, .slice ab r.l.length cb] 24)) ∧ Box (w8.alloc (.cells #[.int .i64 r.x.v, .int .i64 r.x.k, .int .i64 r.x.s, .int .i64 r.x.p, .int .i64 r.x.t, .int .i64 r.x.a, .int .i64 r.x.l, .int .i64 r.x.c, .int .i64 r.x.n, .int .i64 r.x.i, .string r.nm, .slice ab r.l.length cb] 24)) w8.heap.size r.x r.nm (.slice ab r.l.length cb) ∧ Bs (w8.alloc (.cells #[.int .i64 r.x.v, .int .i64 r.x.k, .int .i64 r.x.s, .int .i64 r.x.p, .int .i64 r.x.t, .int .i64 r.x.a, .int .i64 r.x.l, .int .i64 r.x.c, .int .i64 r.x.n, .int .i64 r.x.i, .string r.nm, .slice ab r.l.length cb] 24)) (.slice ab r.l.length cb) r.l) := ⟨(hr7.kept b8).kept (up0 _ _), (hq7.kept b8).kept (up0 _ _), (ha7.kept b8).kept (up0 _ _), (hba7.kept b8).alloc _, up (andThen B7 b8) _, Array.getElem?_push_size, hbb.alloc _⟩
  clear c0 c1 c2 c3 c4 c5 c6 c7 c8 c9 c10 c11 e0 e1 e2 e3 e4 e5 e6 e7 e8 e9 e10 e11 hr7 hq7 ha7 hba7 B7 b8 HDN hbb
  go_wp2_with fail
  refine (lnum_any 0 _).mono ?_
  rintro e w9 ⟨rfl, rfl⟩
  have HK8' := HK8.out
  clear HK8
  generalize w8.alloc (.cells #[.int .i64 r.x.v, .int .i64 r.x.k, .int .i64 r.x.s, .int .i64 r.x.p, .int .i64 r.x.t, .int .i64 r.x.a, .int .i64 r.x.l, .int .i64 r.x.c, .int .i64 r.x.n, .int .i64 r.x.i, .string r.nm, .slice ab r.l.length cb] 24) = W9 at HK8' ⊢
  generalize w8.heap.size = gb at HK8' ⊢
  obtain ⟨hr9, hq9, ha9, hba9, B9, hb9, hbb9⟩ := HK8'
  obtain ⟨c0, c1, c2, c3, c4, c5, c6, c7, c8, c9, c10, c11⟩ := hr9.cells
  obtain ⟨e0, e1, e2, e3, e4, e5, e6, e7, e8, e9, e10, e11⟩ := hb9.cells
  go_wp2_with fail
  refine (HS1.out _ _ _ hbb9 (HB.out _ B9).1).mono ?_
  rintro e wa ⟨rfl, ba⟩
  have hra := hr9.kept ba
  have hqa := hq9.kept ba
  have haa := ha9.kept ba
  have hbaa := hba9.kept ba
  have Ba := andThen B9 ba
  clear c0 c1 c2 c3 c4 c5 c6 c7 c8 c9 c10 c11 e0 e1 e2 e3 e4 e5 e6 e7 e8 e9 e10 e11 hr9 hq9 ha9 hba9 B9 hb9 hbb9 ba HS1
  obtain ⟨c0, c1, c2, c3, c4, c5, c6, c7, c8, c9, c10, c11⟩ := hqa.cells
  go_wp2_with fail
  refine (HUQ.out _ Ba).mono ?_
  rintro e wb ⟨au, cu, rfl, hbu, bb⟩
  have HKB : Hid (Box (wb.alloc (.cells #[.int .i64 U.x.v, .int .i64 U.x.k, .int .i64 U.x.s, .int .i64 U.x.p, .int .i64 U.x.t, .int .i64 U.x.a, .int .i64 U.x.l, .int .i64 U.x.c, .int .i64 U.x.n, .int .i64 U.x.i, .string U.nm, .slice au U.l.length cu] 24)) w.heap.size r.x r.nm (.slice ao r.l.length cap) ∧ Box (wb.alloc (.cells #[.int .i64 U.x.v, .int .i64 U.x.k, .int .i64 U.x.s, .int .i64 U.x.p, .int .i64 U.x.t, .int .i64 U.x.a, .int .i64 U.x.l, .int .i64 U.x.c, .int .i64 U.x.n, .int .i64 U.x.i, .string U.nm, .slice au U.l.length cu] 24)) (w.heap.size + 1) q.x q.nm (.slice aq q.l.length cq) ∧ Box (wb.alloc (.cells #[.int .i64 U.x.v, .int .i64 U.x.k, .int .i64 U.x.s, .int .i64 U.x.p, .int .i64 U.x.t, .int .i64 U.x.a, .int .i64 U.x.l, .int .i64 U.x.c, .int .i64 U.x.n, .int .i64 U.x.i, .string U.nm, .slice au U.l.length cu] 24)) ga A.x A.nm (.slice aa A.l.length ca) ∧ Bs (wb.alloc (.cells #[.int .i64 U.x.v, .int .i64 U.x.k, .int .i64 U.x.s, .int .i64 U.x.p, .int .i64 U.x.t, .int .i64 U.x.a, .int .i64 U.x.l, .int .i64 U.x.c, .int .i64 U.x.n, .int .i64 U.x.i, .string U.nm, .slice au U.l.length cu] 24)) (.slice aa A.l.length ca) A.l ∧ Below w.heap.size w (wb.alloc (.cells #[.int .i64 U.x.v, .int .i64 U.x.k, .int .i64 U.x.s, .int .i64 U.x.p, .int .i64 U.x.t, .int .i64 U.x.a, .int .i64 U.x.l, .int .i64 U.x.c, .int .i64 U.x.n, .int .i64 U.x.i, .string U.nm, .slice au U.l.length cu] 24)) ∧ Box (wb.alloc (.cells #[.int .i64 U.x.v, .int .i64 U.x.k, .int .i64 U.x.s, .int .i64 U.x.p, .int .i64 U.x.t, .int .i64 U.x.a, .int .i64 U.x.l, .int .i64 U.x.c, .int .i64 U.x.n, .int .i64 U.x.i, .string U.nm, .slice au U.l.length cu] 24)) wb.heap.size U.x U.nm (.slice au U.l.length cu) ∧ Bs (wb.alloc (.cells #[.int .i64 U.x.v, .int .i64 U.x.k, .int .i64 U.x.s, .int .i64 U.x.p, .int .i64 U.x.t, .int .i64 U.x.a, .int .i64 U.x.l, .int .i64 U.x.c, .int .i64 U.x.n, .int .i64 U.x.i, .string U.nm, .slice au U.l.length cu] 24)) (.slice au U.l.length cu) U.l) := ⟨(hra.kept bb).kept (up0 _ _), (hqa.kept bb).kept (up0 _ _), (haa.kept bb).kept (up0 _ _), (hbaa.kept bb).alloc _, up (andThen Ba bb) _, Array.getElem?_push_size, hbu.alloc _⟩
  clear c0 c1 c2 c3 c4 c5 c6 c7 c8 c9 c10 c11 hra hqa haa hbaa Ba bb HUQ hbu
  go_wp2_with fail
  refine (lnum_any _ _).mono ?_
  rintro e wc ⟨rfl, rfl⟩
  have HKB' := HKB.out
  clear HKB
  generalize wb.alloc (.cells #[.int .i64 U.x.v, .int .i64 U.x.k, .int .i64 U.x.s, .int .i64 U.x.p, .int .i64 U.x.t, .int .i64 U.x.a, .int .i64 U.x.l, .int .i64 U.x.c, .int .i64 U.x.n, .int .i64 U.x.i, .string U.nm, .slice au U.l.length cu] 24) = WC at HKB' ⊢
  generalize wb.heap.size = gu at HKB' ⊢
  obtain ⟨hrc, hqc, hac, hbac, Bc, huc, hbuc⟩ := HKB'
  have cv := hrc.cells.1
  have cw := hqc.cells.1
  clear hrc hqc hac hbac huc hbuc
  go_wp2
  go_ret
  exact ⟨rfl, Bc⟩
set_option maxRecDepth 100000 in
set_option maxHeartbeats 4000000 in
theorem lback_g3 (to : Int) (r q : Rec) (d dq : Value) (w : World) (h : Bs w d r.l) (hq : Bs w dq q.l) (hT : LTabs w) (hnm : r.nm.size ≤ 1048576) (hqm : q.nm.size ≤ 1048576) (hf : r.x.fit) (hqf : q.x.fit) (hok : ok r.l) (hc : chkR r = 0) (hv : ¬ to < r.x.v) (h3 : ¬ 3 < to) (hu : (upP to q).1 = 0) (hne : q.x.v = r.x.v) (heq0 : eqR (carP to r) (upP to q).2 = false) :
    Calls Tryd.prog 7 #[rv r.x r.nm d, rv q.x q.nm dq, .int .i64 to] w fun e w' => e = .returned (.bool true) ∧ Below w.heap.size w w' := by
  have HX : Hid (∀ o1 o2, ((w.alloc o1).alloc o2).heap[w.heap.size]? = some o1 ∧ ((w.alloc o1).alloc o2).heap[w.heap.size + 1]? = some o2 ∧ Below w.heap.size w ((w.alloc o1).alloc o2)) := fun o1 o2 => heap2 w o1 o2
  have HST : Hid (∀ w', Below w.heap.size w w' → Calls Tryd.prog 24 #[] w' fun e w'' => e = .returned (.bool true) ∧ Below w'.heap.size w' w'') := fun w' hb => lstarted_any w' (hT.kept hb)
  have hub := up_back r to hok hc (by omega) (by omega)
  have hvv := (chk_exp r.x r.nm r.l).1 hc
  have hug : upP to r = (0, carP to r) := up_good hc (by omega) (by omega) (by omega)
  have hdg : downP r.x.v (carP to r) = (0, r) := by
    have he := hub.2.2.2.2
    have := down_good (to := r.x.v) hub.1 (by omega) (by omega) (by rw [hub.2.1]; omega) (by rw [hub.2.1, he])
    rw [this, he]
  have hAf : (carP to r).x.fit := carL_fit _ _ hf
  have hAs := small_of _ hAf hub.1
  have HUP : Hid (∀ w', Below w.heap.size w w' → Calls Tryd.prog 23 #[rv r.x r.nm d, .int .i64 to] w' fun e w'' => ∃ ao, ∃ cap : Nat, e = .returned (.tuple #[rv (carP to r).x (carP to r).nm (.slice ao (carP to r).l.length cap), .int .i64 0]) ∧ Bs w'' (.slice ao (carP to r).l.length cap) (carP to r).l ∧ Below w'.heap.size w' w'') := fun w' hb => by
    have := up_any to r d w' (h.kept hb) (hT.kept hb) hnm hf
    rw [hug] at this
    exact this
  have HRC : Hid (∀ w', Below w.heap.size w w' → Calls Tryd.prog 13 #[rv r.x r.nm d] w' fun e w'' => e = .returned (.int .i64 (chkR r)) ∧ Below w'.heap.size w' w'') := fun w' hb => refcheck_any r.x r.nm d r.l w' (h.kept hb) (hT.kept hb).tabs.rlets (hT.kept hb).tabs.rows hf.c (by omega)
  rw [hc] at HRC
  have HRA : Hid (∀ w' aa (ca : Nat), Below w.heap.size w w' → Bs w' (.slice aa (carP to r).l.length ca) (carP to r).l → Calls Tryd.prog 13 #[rv (carP to r).x (carP to r).nm (.slice aa (carP to r).l.length ca)] w' fun e w'' => e = .returned (.int .i64 0) ∧ Below w'.heap.size w' w'') := fun w' aa ca hb hbs => by
    have := refcheck_any (carP to r).x (carP to r).nm _ (carP to r).l w' hbs (hT.kept hb).tabs.rlets (hT.kept hb).tabs.rows hAf.c (by have := hAs.1; omega)
    rw [show chk (carP to r).x (carP to r).nm (carP to r).l = 0 from hub.1] at this
    exact this
  have HDN : Hid (∀ w' aa (ca : Nat), Below w.heap.size w w' → Bs w' (.slice aa (carP to r).l.length ca) (carP to r).l → Calls Tryd.prog 26 #[rv (carP to r).x (carP to r).nm (.slice aa (carP to r).l.length ca), .int .i64 r.x.v] w' fun e w'' => ∃ ao, ∃ cap : Nat, e = .returned (.tuple #[rv r.x r.nm (.slice ao r.l.length cap), .int .i64 0]) ∧ Bs w'' (.slice ao r.l.length cap) r.l ∧ Below w'.heap.size w' w'') := fun w' aa ca hb hbs => by
    have := down_any r.x.v (carP to r) _ w' hbs (hT.kept hb) (by have := hAs.1; omega) hAf
    rw [hdg] at this
    exact this
  have HUQ : Hid (∀ w', Below w.heap.size w w' → Calls Tryd.prog 23 #[rv q.x q.nm dq, .int .i64 to] w' fun e w'' => ∃ ao, ∃ cap : Nat, e = .returned (.tuple #[rv (upP to q).2.x (upP to q).2.nm (.slice ao (upP to q).2.l.length cap), .int .i64 (upP to q).1]) ∧ Bs w'' (.slice ao (upP to q).2.l.length cap) (upP to q).2.l ∧ Below w'.heap.size w' w'') := fun w' hb => up_any to q dq w' (hq.kept hb) (hT.kept hb) hqm hqf
  have HB : Hid (∀ w', Below w.heap.size w w' → Bs w' d r.l ∧ Bs w' dq q.l) := fun w' hb => ⟨h.kept hb, hq.kept hb⟩
  have HSM : Hid (∀ (a b : Rec) (v1 v2 : Value) w', Bs w' v1 a.l → Bs w' v2 b.l → Calls Tryd.prog 14 #[rv a.x a.nm v1, rv b.x b.nm v2] w' fun e w'' => e = .returned (.bool (eqR a b)) ∧ Below w'.heap.size w' w'') := fun a b v1 v2 w' h1 h2 => refsame_any a.x b.x a.nm b.nm v1 v2 a.l b.l w' h1 h2
  have dv : ((carP to r).x.v != to) = false := by rw [hub.2.1]; simp
  have ds : ((carP to r).x.s != r.x.s) = false := by rw [hub.2.2.1]; simp
  have dk : ((carP to r).x.k != r.x.k) = false := by rw [hub.2.2.2.1]; simp
  obtain ⟨ao, cap, rfl, _⟩ := h.shape
  obtain ⟨aq, cq, rfl, _⟩ := hq.shape
  have HS1 : Hid (∀ w' ab (cb : Nat), Bs w' (.slice ab r.l.length cb) r.l → Bs w' (.slice ao r.l.length cap) r.l → Calls Tryd.prog 14 #[rv r.x r.nm (.slice ab r.l.length cb), rv r.x r.nm (.slice ao r.l.length cap)] w' fun e w'' => e = .returned (.bool true) ∧ Below w'.heap.size w' w'') := fun w' ab cb h1 h2 => (HSM.out r r _ _ w' h1 h2).mono fun e w'' ⟨he, hk⟩ => ⟨by rw [he, (eqR_iff r r).2 rfl], hk⟩
  clear h hq hT hub hug hdg hAf hAs hc hvv hf hqf hok
  rw [hu] at HUQ
  have dq : (q.x.v != r.x.v) = false := by rw [hne]; simp
  clear hu hne
  generalize (upP to q).2 = U at *
  have heq := heq0
  have HS2 : Hid (∀ w' a1 (c1 : Nat) a2 (c2 : Nat), Bs w' (.slice a1 (carP to r).l.length c1) (carP to r).l → Bs w' (.slice a2 U.l.length c2) U.l → Calls Tryd.prog 14 #[rv (carP to r).x (carP to r).nm (.slice a1 (carP to r).l.length c1), rv U.x U.nm (.slice a2 U.l.length c2)] w' fun e w'' => e = .returned (.bool false) ∧ Below w'.heap.size w' w'') := fun w' a1 c1 a2 c2 h1 h2 => (HSM.out (carP to r) U _ _ w' h1 h2).mono fun e w'' ⟨he, hk⟩ => ⟨by rw [he, heq], hk⟩
  clear heq heq0 HSM
  generalize carP to r = A at *
  unfold rv at *
  go_enter Tryd.func7, Tryd.ntmps7
  go_wp2_with fail
  refine (HUP.out _ (HX.out _ _).2.2).mono ?_
  rintro e w2 ⟨aa, ca, rfl, hba, b2⟩
  have HK : Hid (Box (w2.alloc (.cells #[.int .i64 A.x.v, .int .i64 A.x.k, .int .i64 A.x.s, .int .i64 A.x.p, .int .i64 A.x.t, .int .i64 A.x.a, .int .i64 A.x.l, .int .i64 A.x.c, .int .i64 A.x.n, .int .i64 A.x.i, .string A.nm, .slice aa A.l.length ca] 24)) w.heap.size r.x r.nm (.slice ao r.l.length cap) ∧ Box (w2.alloc (.cells #[.int .i64 A.x.v, .int .i64 A.x.k, .int .i64 A.x.s, .int .i64 A.x.p, .int .i64 A.x.t, .int .i64 A.x.a, .int .i64 A.x.l, .int .i64 A.x.c, .int .i64 A.x.n, .int .i64 A.x.i, .string A.nm, .slice aa A.l.length ca] 24)) (w.heap.size + 1) q.x q.nm (.slice aq q.l.length cq) ∧ Box (w2.alloc (.cells #[.int .i64 A.x.v, .int .i64 A.x.k, .int .i64 A.x.s, .int .i64 A.x.p, .int .i64 A.x.t, .int .i64 A.x.a, .int .i64 A.x.l, .int .i64 A.x.c, .int .i64 A.x.n, .int .i64 A.x.i, .string A.nm, .slice aa A.l.length ca] 24)) w2.heap.size A.x A.nm (.slice aa A.l.length ca) ∧ Bs (w2.alloc (.cells #[.int .i64 A.x.v, .int .i64 A.x.k, .int .i64 A.x.s, .int .i64 A.x.p, .int .i64 A.x.t, .int .i64 A.x.a, .int .i64 A.x.l, .int .i64 A.x.c, .int .i64 A.x.n, .int .i64 A.x.i, .string A.nm, .slice aa A.l.length ca] 24)) (.slice aa A.l.length ca) A.l ∧ Below w.heap.size w (w2.alloc (.cells #[.int .i64 A.x.v, .int .i64 A.x.k, .int .i64 A.x.s, .int .i64 A.x.p, .int .i64 A.x.t, .int .i64 A.x.a, .int .i64 A.x.l, .int .i64 A.x.c, .int .i64 A.x.n, .int .i64 A.x.i, .string A.nm, .slice aa A.l.length ca] 24))) := ⟨Box.kept (Box.kept (HX.out _ _).1 b2) (up0 _ _), Box.kept (Box.kept (HX.out _ _).2.1 b2) (up0 _ _), Array.getElem?_push_size, hba.alloc _, up (andThen (HX.out _ _).2.2 b2) _⟩
  clear b2 HX HUP hba
  go_wp2_with fail
  refine (HST.out _ HK.out.2.2.2.2).mono ?_
  rintro e w4 ⟨rfl, b4⟩
  have HK4 : Box w4 w.heap.size r.x r.nm (.slice ao r.l.length cap) ∧ Box w4 (w.heap.size + 1) q.x q.nm (.slice aq q.l.length cq) ∧ Box w4 w2.heap.size A.x A.nm (.slice aa A.l.length ca) ∧ Bs w4 (.slice aa A.l.length ca) A.l ∧ Below w.heap.size w w4 := ⟨HK.out.1.kept b4, HK.out.2.1.kept b4, HK.out.2.2.1.kept b4, HK.out.2.2.2.1.kept b4, andThen HK.out.2.2.2.2 b4⟩
  clear HK b4 HST
  generalize w2.heap.size = ga at HK4 ⊢
  obtain ⟨hr4, hq4, ha4, hba4, B4⟩ := HK4
  obtain ⟨c0, c1, c2, c3, c4, c5, c6, c7, c8, c9, c10, c11⟩ := hr4.cells
  go_wp2_with fail
  refine (HRC.out _ B4).mono ?_
  rintro e w5 ⟨rfl, b5⟩
  have hr5 := hr4.kept b5
  have hq5 := hq4.kept b5
  have ha5 := ha4.kept b5
  have hba5 := hba4.kept b5
  have B5 := andThen B4 b5
  clear c0 c1 c2 c3 c4 c5 c6 c7 c8 c9 c10 c11 hr4 hq4 ha4 hba4 B4 b5 HRC
  obtain ⟨c0, c1, c2, c3, c4, c5, c6, c7, c8, c9, c10, c11⟩ := hr5.cells
  obtain ⟨e0, e1, e2, e3, e4, e5, e6, e7, e8, e9, e10, e11⟩ := ha5.cells
  go_wp2_with fail
  refine (lnum_any 0 _).mono ?_
  rintro e w6 ⟨rfl, rfl⟩
  go_wp2_with fail
  refine (HRA.out _ _ _ B5 hba5).mono ?_
  rintro e w7 ⟨rfl, b7⟩
  have hr7 := hr5.kept b7
  have hq7 := hq5.kept b7
  have ha7 := ha5.kept b7
  have hba7 := hba5.kept b7
  have B7 := andThen B5 b7
  clear c0 c1 c2 c3 c4 c5 c6 c7 c8 c9 c10 c11 e0 e1 e2 e3 e4 e5 e6 e7 e8 e9 e10 e11 hr5 hq5 ha5 hba5 B5 b7 HRA
  obtain ⟨c0, c1, c2, c3, c4, c5, c6, c7, c8, c9, c10, c11⟩ := hr7.cells
  obtain ⟨e0, e1, e2, e3, e4, e5, e6, e7, e8, e9, e10, e11⟩ := ha7.cells
  go_wp2_with fail
  refine (HDN.out _ _ _ B7 hba7).mono ?_
  rintro e w8 ⟨ab, cb, rfl, hbb, b8⟩
  have HK8 : Hid (Box (w8.alloc (.cells #[.int .i64 r.x.v, .int .i64 r.x.k, .int .i64 r.x.s, .int .i64 r.x.p, .int .i64 r.x.t, .int .i64 r.x.a, .int .i64 r.x.l, .int .i64 r.x.c, .int .i64 r.x.n, .int .i64 r.x.i, .string r.nm, .slice ab r.l.length cb] 24)) w.heap.size r.x r.nm (.slice ao r.l.length cap) ∧ Box (w8.alloc (.cells #[.int .i64 r.x.v, .int .i64 r.x.k, .int .i64 r.x.s, .int .i64 r.x.p, .int .i64 r.x.t, .int .i64 r.x.a, .int .i64 r.x.l, .int .i64 r.x.c, .int .i64 r.x.n, .int .i64 r.x.i, .string r.nm, .slice ab r.l.length cb] 24)) (w.heap.size + 1) q.x q.nm (.slice aq q.l.length cq) ∧ Box (w8.alloc (.cells #[.int .i64 r.x.v, .int .i64 r.x.k, .int .i64 r.x.s, .int .i64 r.x.p, .int .i64 r.x.t, .int .i64 r.x.a, .int .i64 r.x.l, .int .i64 r.x.c, .int .i64 r.x.n, .int .i64 r.x.i, .string r.nm, .slice ab r.l.length cb] 24)) ga A.x A.nm (.slice aa A.l.length ca) ∧ Bs (w8.alloc (.cells #[.int .i64 r.x.v, .int .i64 r.x.k, .int .i64 r.x.s, .int .i64 r.x.p, .int .i64 r.x.t, .int .i64 r.x.a, .int .i64 r.x.l, .int .i64 r.x.c, .int .i64 r.x.n, .int .i64 r.x.i, .string r.nm, .slice ab r.l.length cb] 24)) (.slice aa A.l.length ca) A.l ∧ Below w.heap.size w (w8.alloc (.cells #[.int .i64 r.x.v, .int .i64 r.x.k, .int .i64 r.x.s, .int .i64 r.x.p, .int .i64 r.x.t, .int .i64 r.x.a, .int .i64 r.x.l, .int .i64 r.x.c, .int .i64 r.x.n, .int .i64 r.x.i, .string r.nm, .slice ab r.l.length cb] 24)) ∧ Box (w8.alloc (.cells #[.int .i64 r.x.v, .int .i64 r.x.k, .int .i64 r.x.s, .int .i64 r.x.p, .int .i64 r.x.t, .int .i64 r.x.a, .int .i64 r.x.l, .int .i64 r.x.c, .int .i64 r.x.n, .int .i64 r.x.i, .string r.nm, .slice ab r.l.length cb] 24)) w8.heap.size r.x r.nm (.slice ab r.l.length cb) ∧ Bs (w8.alloc (.cells #[.int .i64 r.x.v, .int .i64 r.x.k, .int .i64 r.x.s, .int .i64 r.x.p, .int .i64 r.x.t, .int .i64 r.x.a, .int .i64 r.x.l, .int .i64 r.x.c, .int .i64 r.x.n, .int .i64 r.x.i, .string r.nm, .slice ab r.l.length cb] 24)) (.slice ab r.l.length cb) r.l) := ⟨(hr7.kept b8).kept (up0 _ _), (hq7.kept b8).kept (up0 _ _), (ha7.kept b8).kept (up0 _ _), (hba7.kept b8).alloc _, up (andThen B7 b8) _, Array.getElem?_push_size, hbb.alloc _⟩
  clear c0 c1 c2 c3 c4 c5 c6 c7 c8 c9 c10 c11 e0 e1 e2 e3 e4 e5 e6 e7 e8 e9 e10 e11 hr7 hq7 ha7 hba7 B7 b8 HDN hbb
  go_wp2_with fail
  refine (lnum_any 0 _).mono ?_
  rintro e w9 ⟨rfl, rfl⟩
  have HK8' := HK8.out
  clear HK8
  generalize w8.alloc (.cells #[.int .i64 r.x.v, .int .i64 r.x.k, .int .i64 r.x.s, .int .i64 r.x.p, .int .i64 r.x.t, .int .i64 r.x.a, .int .i64 r.x.l, .int .i64 r.x.c, .int .i64 r.x.n, .int .i64 r.x.i, .string r.nm, .slice ab r.l.length cb] 24) = W9 at HK8' ⊢
  generalize w8.heap.size = gb at HK8' ⊢
  obtain ⟨hr9, hq9, ha9, hba9, B9, hb9, hbb9⟩ := HK8'
  obtain ⟨c0, c1, c2, c3, c4, c5, c6, c7, c8, c9, c10, c11⟩ := hr9.cells
  obtain ⟨e0, e1, e2, e3, e4, e5, e6, e7, e8, e9, e10, e11⟩ := hb9.cells
  go_wp2_with fail
  refine (HS1.out _ _ _ hbb9 (HB.out _ B9).1).mono ?_
  rintro e wa ⟨rfl, ba⟩
  have hra := hr9.kept ba
  have hqa := hq9.kept ba
  have haa := ha9.kept ba
  have hbaa := hba9.kept ba
  have Ba := andThen B9 ba
  clear c0 c1 c2 c3 c4 c5 c6 c7 c8 c9 c10 c11 e0 e1 e2 e3 e4 e5 e6 e7 e8 e9 e10 e11 hr9 hq9 ha9 hba9 B9 hb9 hbb9 ba HS1
  obtain ⟨c0, c1, c2, c3, c4, c5, c6, c7, c8, c9, c10, c11⟩ := hqa.cells
  go_wp2_with fail
  refine (HUQ.out _ Ba).mono ?_
  rintro e wb ⟨au, cu, rfl, hbu, bb⟩
  have HKB : Hid (Box (wb.alloc (.cells #[.int .i64 U.x.v, .int .i64 U.x.k, .int .i64 U.x.s, .int .i64 U.x.p, .int .i64 U.x.t, .int .i64 U.x.a, .int .i64 U.x.l, .int .i64 U.x.c, .int .i64 U.x.n, .int .i64 U.x.i, .string U.nm, .slice au U.l.length cu] 24)) w.heap.size r.x r.nm (.slice ao r.l.length cap) ∧ Box (wb.alloc (.cells #[.int .i64 U.x.v, .int .i64 U.x.k, .int .i64 U.x.s, .int .i64 U.x.p, .int .i64 U.x.t, .int .i64 U.x.a, .int .i64 U.x.l, .int .i64 U.x.c, .int .i64 U.x.n, .int .i64 U.x.i, .string U.nm, .slice au U.l.length cu] 24)) (w.heap.size + 1) q.x q.nm (.slice aq q.l.length cq) ∧ Box (wb.alloc (.cells #[.int .i64 U.x.v, .int .i64 U.x.k, .int .i64 U.x.s, .int .i64 U.x.p, .int .i64 U.x.t, .int .i64 U.x.a, .int .i64 U.x.l, .int .i64 U.x.c, .int .i64 U.x.n, .int .i64 U.x.i, .string U.nm, .slice au U.l.length cu] 24)) ga A.x A.nm (.slice aa A.l.length ca) ∧ Bs (wb.alloc (.cells #[.int .i64 U.x.v, .int .i64 U.x.k, .int .i64 U.x.s, .int .i64 U.x.p, .int .i64 U.x.t, .int .i64 U.x.a, .int .i64 U.x.l, .int .i64 U.x.c, .int .i64 U.x.n, .int .i64 U.x.i, .string U.nm, .slice au U.l.length cu] 24)) (.slice aa A.l.length ca) A.l ∧ Below w.heap.size w (wb.alloc (.cells #[.int .i64 U.x.v, .int .i64 U.x.k, .int .i64 U.x.s, .int .i64 U.x.p, .int .i64 U.x.t, .int .i64 U.x.a, .int .i64 U.x.l, .int .i64 U.x.c, .int .i64 U.x.n, .int .i64 U.x.i, .string U.nm, .slice au U.l.length cu] 24)) ∧ Box (wb.alloc (.cells #[.int .i64 U.x.v, .int .i64 U.x.k, .int .i64 U.x.s, .int .i64 U.x.p, .int .i64 U.x.t, .int .i64 U.x.a, .int .i64 U.x.l, .int .i64 U.x.c, .int .i64 U.x.n, .int .i64 U.x.i, .string U.nm, .slice au U.l.length cu] 24)) wb.heap.size U.x U.nm (.slice au U.l.length cu) ∧ Bs (wb.alloc (.cells #[.int .i64 U.x.v, .int .i64 U.x.k, .int .i64 U.x.s, .int .i64 U.x.p, .int .i64 U.x.t, .int .i64 U.x.a, .int .i64 U.x.l, .int .i64 U.x.c, .int .i64 U.x.n, .int .i64 U.x.i, .string U.nm, .slice au U.l.length cu] 24)) (.slice au U.l.length cu) U.l) := ⟨(hra.kept bb).kept (up0 _ _), (hqa.kept bb).kept (up0 _ _), (haa.kept bb).kept (up0 _ _), (hbaa.kept bb).alloc _, up (andThen Ba bb) _, Array.getElem?_push_size, hbu.alloc _⟩
  clear c0 c1 c2 c3 c4 c5 c6 c7 c8 c9 c10 c11 hra hqa haa hbaa Ba bb HUQ hbu
  go_wp2_with fail
  refine (lnum_any _ _).mono ?_
  rintro e wc ⟨rfl, rfl⟩
  have HKB' := HKB.out
  clear HKB
  generalize wb.alloc (.cells #[.int .i64 U.x.v, .int .i64 U.x.k, .int .i64 U.x.s, .int .i64 U.x.p, .int .i64 U.x.t, .int .i64 U.x.a, .int .i64 U.x.l, .int .i64 U.x.c, .int .i64 U.x.n, .int .i64 U.x.i, .string U.nm, .slice au U.l.length cu] 24) = WC at HKB' ⊢
  generalize wb.heap.size = gu at HKB' ⊢
  obtain ⟨hrc, hqc, hac, hbac, Bc, huc, hbuc⟩ := HKB'
  have cv := hrc.cells.1
  have cw := hqc.cells.1
  obtain ⟨c0, c1, c2, c3, c4, c5, c6, c7, c8, c9, c10, c11⟩ := hac.cells
  obtain ⟨e0, e1, e2, e3, e4, e5, e6, e7, e8, e9, e10, e11⟩ := huc.cells
  go_wp2_with fail
  refine (HS2.out _ _ _ _ _ hbac hbuc).mono ?_
  rintro e wd ⟨rfl, bd⟩
  have Bd := andThen Bc bd
  clear c0 c1 c2 c3 c4 c5 c6 c7 c8 c9 c10 c11 e0 e1 e2 e3 e4 e5 e6 e7 e8 e9 e10 e11
  go_wp2
  go_ret
  exact ⟨rfl, Bd⟩
set_option maxRecDepth 100000 in
set_option maxHeartbeats 4000000 in
theorem lback_g4 (to : Int) (r q : Rec) (d dq : Value) (w : World) (h : Bs w d r.l) (hq : Bs w dq q.l) (hT : LTabs w) (hnm : r.nm.size ≤ 1048576) (hqm : q.nm.size ≤ 1048576) (hf : r.x.fit) (hqf : q.x.fit) (hok : ok r.l) (hqk : ok q.l) (hc : chkR r = 0) (hv : ¬ to < r.x.v) (h3 : ¬ 3 < to) (hu : (upP to q).1 = 0) (hne : q.x.v = r.x.v) (heq0 : eqR (carP to r) (upP to q).2 = true) :
    Calls Tryd.prog 7 #[rv r.x r.nm d, rv q.x q.nm dq, .int .i64 to] w fun e w' => e = .returned (.bool true) ∧ Below w.heap.size w w' := by
  have HX : Hid (∀ o1 o2, ((w.alloc o1).alloc o2).heap[w.heap.size]? = some o1 ∧ ((w.alloc o1).alloc o2).heap[w.heap.size + 1]? = some o2 ∧ Below w.heap.size w ((w.alloc o1).alloc o2)) := fun o1 o2 => heap2 w o1 o2
  have HST : Hid (∀ w', Below w.heap.size w w' → Calls Tryd.prog 24 #[] w' fun e w'' => e = .returned (.bool true) ∧ Below w'.heap.size w' w'') := fun w' hb => lstarted_any w' (hT.kept hb)
  have hub := up_back r to hok hc (by omega) (by omega)
  have hvv := (chk_exp r.x r.nm r.l).1 hc
  have hug : upP to r = (0, carP to r) := up_good hc (by omega) (by omega) (by omega)
  have hrq : eqR r q = true := by
    have hz := up_zero hu
    have h9 := up_back q to hqk hz.1 hz.2.2.2.1 (by omega)
    have hA : carP to r = carP to q := by rw [← hz.2.2.2.2]; exact (eqR_iff _ _).1 heq0
    rw [eqR_iff, ← hub.2.2.2.2, ← h9.2.2.2.2, hA, hne]
  have hdg : downP r.x.v (carP to r) = (0, r) := by
    have he := hub.2.2.2.2
    have := down_good (to := r.x.v) hub.1 (by omega) (by omega) (by rw [hub.2.1]; omega) (by rw [hub.2.1, he])
    rw [this, he]
  have hAf : (carP to r).x.fit := carL_fit _ _ hf
  have hAs := small_of _ hAf hub.1
  have HUP : Hid (∀ w', Below w.heap.size w w' → Calls Tryd.prog 23 #[rv r.x r.nm d, .int .i64 to] w' fun e w'' => ∃ ao, ∃ cap : Nat, e = .returned (.tuple #[rv (carP to r).x (carP to r).nm (.slice ao (carP to r).l.length cap), .int .i64 0]) ∧ Bs w'' (.slice ao (carP to r).l.length cap) (carP to r).l ∧ Below w'.heap.size w' w'') := fun w' hb => by
    have := up_any to r d w' (h.kept hb) (hT.kept hb) hnm hf
    rw [hug] at this
    exact this
  have HRC : Hid (∀ w', Below w.heap.size w w' → Calls Tryd.prog 13 #[rv r.x r.nm d] w' fun e w'' => e = .returned (.int .i64 (chkR r)) ∧ Below w'.heap.size w' w'') := fun w' hb => refcheck_any r.x r.nm d r.l w' (h.kept hb) (hT.kept hb).tabs.rlets (hT.kept hb).tabs.rows hf.c (by omega)
  rw [hc] at HRC
  have HRA : Hid (∀ w' aa (ca : Nat), Below w.heap.size w w' → Bs w' (.slice aa (carP to r).l.length ca) (carP to r).l → Calls Tryd.prog 13 #[rv (carP to r).x (carP to r).nm (.slice aa (carP to r).l.length ca)] w' fun e w'' => e = .returned (.int .i64 0) ∧ Below w'.heap.size w' w'') := fun w' aa ca hb hbs => by
    have := refcheck_any (carP to r).x (carP to r).nm _ (carP to r).l w' hbs (hT.kept hb).tabs.rlets (hT.kept hb).tabs.rows hAf.c (by have := hAs.1; omega)
    rw [show chk (carP to r).x (carP to r).nm (carP to r).l = 0 from hub.1] at this
    exact this
  have HDN : Hid (∀ w' aa (ca : Nat), Below w.heap.size w w' → Bs w' (.slice aa (carP to r).l.length ca) (carP to r).l → Calls Tryd.prog 26 #[rv (carP to r).x (carP to r).nm (.slice aa (carP to r).l.length ca), .int .i64 r.x.v] w' fun e w'' => ∃ ao, ∃ cap : Nat, e = .returned (.tuple #[rv r.x r.nm (.slice ao r.l.length cap), .int .i64 0]) ∧ Bs w'' (.slice ao r.l.length cap) r.l ∧ Below w'.heap.size w' w'') := fun w' aa ca hb hbs => by
    have := down_any r.x.v (carP to r) _ w' hbs (hT.kept hb) (by have := hAs.1; omega) hAf
    rw [hdg] at this
    exact this
  have HUQ : Hid (∀ w', Below w.heap.size w w' → Calls Tryd.prog 23 #[rv q.x q.nm dq, .int .i64 to] w' fun e w'' => ∃ ao, ∃ cap : Nat, e = .returned (.tuple #[rv (upP to q).2.x (upP to q).2.nm (.slice ao (upP to q).2.l.length cap), .int .i64 (upP to q).1]) ∧ Bs w'' (.slice ao (upP to q).2.l.length cap) (upP to q).2.l ∧ Below w'.heap.size w' w'') := fun w' hb => up_any to q dq w' (hq.kept hb) (hT.kept hb) hqm hqf
  have HB : Hid (∀ w', Below w.heap.size w w' → Bs w' d r.l ∧ Bs w' dq q.l) := fun w' hb => ⟨h.kept hb, hq.kept hb⟩
  have HSM : Hid (∀ (a b : Rec) (v1 v2 : Value) w', Bs w' v1 a.l → Bs w' v2 b.l → Calls Tryd.prog 14 #[rv a.x a.nm v1, rv b.x b.nm v2] w' fun e w'' => e = .returned (.bool (eqR a b)) ∧ Below w'.heap.size w' w'') := fun a b v1 v2 w' h1 h2 => refsame_any a.x b.x a.nm b.nm v1 v2 a.l b.l w' h1 h2
  have dv : ((carP to r).x.v != to) = false := by rw [hub.2.1]; simp
  have ds : ((carP to r).x.s != r.x.s) = false := by rw [hub.2.2.1]; simp
  have dk : ((carP to r).x.k != r.x.k) = false := by rw [hub.2.2.2.1]; simp
  obtain ⟨ao, cap, rfl, _⟩ := h.shape
  obtain ⟨aq, cq, rfl, _⟩ := hq.shape
  have HS1 : Hid (∀ w' ab (cb : Nat), Bs w' (.slice ab r.l.length cb) r.l → Bs w' (.slice ao r.l.length cap) r.l → Calls Tryd.prog 14 #[rv r.x r.nm (.slice ab r.l.length cb), rv r.x r.nm (.slice ao r.l.length cap)] w' fun e w'' => e = .returned (.bool true) ∧ Below w'.heap.size w' w'') := fun w' ab cb h1 h2 => (HSM.out r r _ _ w' h1 h2).mono fun e w'' ⟨he, hk⟩ => ⟨by rw [he, (eqR_iff r r).2 rfl], hk⟩
  clear h hq hT hub hug hdg hAf hAs hc hvv hf hqf hok hqk
  rw [hu] at HUQ
  have dq : (q.x.v != r.x.v) = false := by rw [hne]; simp
  clear hu hne
  generalize (upP to q).2 = U at *
  have heq := heq0
  have HS2 : Hid (∀ w' a1 (c1 : Nat) a2 (c2 : Nat), Bs w' (.slice a1 (carP to r).l.length c1) (carP to r).l → Bs w' (.slice a2 U.l.length c2) U.l → Calls Tryd.prog 14 #[rv (carP to r).x (carP to r).nm (.slice a1 (carP to r).l.length c1), rv U.x U.nm (.slice a2 U.l.length c2)] w' fun e w'' => e = .returned (.bool true) ∧ Below w'.heap.size w' w'') := fun w' a1 c1 a2 c2 h1 h2 => (HSM.out (carP to r) U _ _ w' h1 h2).mono fun e w'' ⟨he, hk⟩ => ⟨by rw [he, heq], hk⟩
  have HS3 : Hid (∀ w', Bs w' (.slice ao r.l.length cap) r.l → Bs w' (.slice aq q.l.length cq) q.l → Calls Tryd.prog 14 #[rv r.x r.nm (.slice ao r.l.length cap), rv q.x q.nm (.slice aq q.l.length cq)] w' fun e w'' => e = .returned (.bool true) ∧ Below w'.heap.size w' w'') := fun w' h1 h2 => (HSM.out r q _ _ w' h1 h2).mono fun e w'' ⟨he, hk⟩ => ⟨by rw [he, hrq], hk⟩
  clear heq heq0 HSM hrq
  generalize carP to r = A at *
  unfold rv at *
  go_enter Tryd.func7, Tryd.ntmps7
  go_wp2_with fail
  refine (HUP.out _ (HX.out _ _).2.2).mono ?_
  rintro e w2 ⟨aa, ca, rfl, hba, b2⟩
  have HK : Hid (Box (w2.alloc (.cells #[.int .i64 A.x.v, .int .i64 A.x.k, .int .i64 A.x.s, .int .i64 A.x.p, .int .i64 A.x.t, .int .i64 A.x.a, .int .i64 A.x.l, .int .i64 A.x.c, .int .i64 A.x.n, .int .i64 A.x.i, .string A.nm, .slice aa A.l.length ca] 24)) w.heap.size r.x r.nm (.slice ao r.l.length cap) ∧ Box (w2.alloc (.cells #[.int .i64 A.x.v, .int .i64 A.x.k, .int .i64 A.x.s, .int .i64 A.x.p, .int .i64 A.x.t, .int .i64 A.x.a, .int .i64 A.x.l, .int .i64 A.x.c, .int .i64 A.x.n, .int .i64 A.x.i, .string A.nm, .slice aa A.l.length ca] 24)) (w.heap.size + 1) q.x q.nm (.slice aq q.l.length cq) ∧ Box (w2.alloc (.cells #[.int .i64 A.x.v, .int .i64 A.x.k, .int .i64 A.x.s, .int .i64 A.x.p, .int .i64 A.x.t, .int .i64 A.x.a, .int .i64 A.x.l, .int .i64 A.x.c, .int .i64 A.x.n, .int .i64 A.x.i, .string A.nm, .slice aa A.l.length ca] 24)) w2.heap.size A.x A.nm (.slice aa A.l.length ca) ∧ Bs (w2.alloc (.cells #[.int .i64 A.x.v, .int .i64 A.x.k, .int .i64 A.x.s, .int .i64 A.x.p, .int .i64 A.x.t, .int .i64 A.x.a, .int .i64 A.x.l, .int .i64 A.x.c, .int .i64 A.x.n, .int .i64 A.x.i, .string A.nm, .slice aa A.l.length ca] 24)) (.slice aa A.l.length ca) A.l ∧ Below w.heap.size w (w2.alloc (.cells #[.int .i64 A.x.v, .int .i64 A.x.k, .int .i64 A.x.s, .int .i64 A.x.p, .int .i64 A.x.t, .int .i64 A.x.a, .int .i64 A.x.l, .int .i64 A.x.c, .int .i64 A.x.n, .int .i64 A.x.i, .string A.nm, .slice aa A.l.length ca] 24))) := ⟨Box.kept (Box.kept (HX.out _ _).1 b2) (up0 _ _), Box.kept (Box.kept (HX.out _ _).2.1 b2) (up0 _ _), Array.getElem?_push_size, hba.alloc _, up (andThen (HX.out _ _).2.2 b2) _⟩
  clear b2 HX HUP hba
  go_wp2_with fail
  refine (HST.out _ HK.out.2.2.2.2).mono ?_
  rintro e w4 ⟨rfl, b4⟩
  have HK4 : Box w4 w.heap.size r.x r.nm (.slice ao r.l.length cap) ∧ Box w4 (w.heap.size + 1) q.x q.nm (.slice aq q.l.length cq) ∧ Box w4 w2.heap.size A.x A.nm (.slice aa A.l.length ca) ∧ Bs w4 (.slice aa A.l.length ca) A.l ∧ Below w.heap.size w w4 := ⟨HK.out.1.kept b4, HK.out.2.1.kept b4, HK.out.2.2.1.kept b4, HK.out.2.2.2.1.kept b4, andThen HK.out.2.2.2.2 b4⟩
  clear HK b4 HST
  generalize w2.heap.size = ga at HK4 ⊢
  obtain ⟨hr4, hq4, ha4, hba4, B4⟩ := HK4
  obtain ⟨c0, c1, c2, c3, c4, c5, c6, c7, c8, c9, c10, c11⟩ := hr4.cells
  go_wp2_with fail
  refine (HRC.out _ B4).mono ?_
  rintro e w5 ⟨rfl, b5⟩
  have hr5 := hr4.kept b5
  have hq5 := hq4.kept b5
  have ha5 := ha4.kept b5
  have hba5 := hba4.kept b5
  have B5 := andThen B4 b5
  clear c0 c1 c2 c3 c4 c5 c6 c7 c8 c9 c10 c11 hr4 hq4 ha4 hba4 B4 b5 HRC
  obtain ⟨c0, c1, c2, c3, c4, c5, c6, c7, c8, c9, c10, c11⟩ := hr5.cells
  obtain ⟨e0, e1, e2, e3, e4, e5, e6, e7, e8, e9, e10, e11⟩ := ha5.cells
  go_wp2_with fail
  refine (lnum_any 0 _).mono ?_
  rintro e w6 ⟨rfl, rfl⟩
  go_wp2_with fail
  refine (HRA.out _ _ _ B5 hba5).mono ?_
  rintro e w7 ⟨rfl, b7⟩
  have hr7 := hr5.kept b7
  have hq7 := hq5.kept b7
  have ha7 := ha5.kept b7
  have hba7 := hba5.kept b7
  have B7 := andThen B5 b7
  clear c0 c1 c2 c3 c4 c5 c6 c7 c8 c9 c10 c11 e0 e1 e2 e3 e4 e5 e6 e7 e8 e9 e10 e11 hr5 hq5 ha5 hba5 B5 b7 HRA
  obtain ⟨c0, c1, c2, c3, c4, c5, c6, c7, c8, c9, c10, c11⟩ := hr7.cells
  obtain ⟨e0, e1, e2, e3, e4, e5, e6, e7, e8, e9, e10, e11⟩ := ha7.cells
  go_wp2_with fail
  refine (HDN.out _ _ _ B7 hba7).mono ?_
  rintro e w8 ⟨ab, cb, rfl, hbb, b8⟩
  have HK8 : Hid (Box (w8.alloc (.cells #[.int .i64 r.x.v, .int .i64 r.x.k, .int .i64 r.x.s, .int .i64 r.x.p, .int .i64 r.x.t, .int .i64 r.x.a, .int .i64 r.x.l, .int .i64 r.x.c, .int .i64 r.x.n, .int .i64 r.x.i, .string r.nm, .slice ab r.l.length cb] 24)) w.heap.size r.x r.nm (.slice ao r.l.length cap) ∧ Box (w8.alloc (.cells #[.int .i64 r.x.v, .int .i64 r.x.k, .int .i64 r.x.s, .int .i64 r.x.p, .int .i64 r.x.t, .int .i64 r.x.a, .int .i64 r.x.l, .int .i64 r.x.c, .int .i64 r.x.n, .int .i64 r.x.i, .string r.nm, .slice ab r.l.length cb] 24)) (w.heap.size + 1) q.x q.nm (.slice aq q.l.length cq) ∧ Box (w8.alloc (.cells #[.int .i64 r.x.v, .int .i64 r.x.k, .int .i64 r.x.s, .int .i64 r.x.p, .int .i64 r.x.t, .int .i64 r.x.a, .int .i64 r.x.l, .int .i64 r.x.c, .int .i64 r.x.n, .int .i64 r.x.i, .string r.nm, .slice ab r.l.length cb] 24)) ga A.x A.nm (.slice aa A.l.length ca) ∧ Bs (w8.alloc (.cells #[.int .i64 r.x.v, .int .i64 r.x.k, .int .i64 r.x.s, .int .i64 r.x.p, .int .i64 r.x.t, .int .i64 r.x.a, .int .i64 r.x.l, .int .i64 r.x.c, .int .i64 r.x.n, .int .i64 r.x.i, .string r.nm, .slice ab r.l.length cb] 24)) (.slice aa A.l.length ca) A.l ∧ Below w.heap.size w (w8.alloc (.cells #[.int .i64 r.x.v, .int .i64 r.x.k, .int .i64 r.x.s, .int .i64 r.x.p, .int .i64 r.x.t, .int .i64 r.x.a, .int .i64 r.x.l, .int .i64 r.x.c, .int .i64 r.x.n, .int .i64 r.x.i, .string r.nm, .slice ab r.l.length cb] 24)) ∧ Box (w8.alloc (.cells #[.int .i64 r.x.v, .int .i64 r.x.k, .int .i64 r.x.s, .int .i64 r.x.p, .int .i64 r.x.t, .int .i64 r.x.a, .int .i64 r.x.l, .int .i64 r.x.c, .int .i64 r.x.n, .int .i64 r.x.i, .string r.nm, .slice ab r.l.length cb] 24)) w8.heap.size r.x r.nm (.slice ab r.l.length cb) ∧ Bs (w8.alloc (.cells #[.int .i64 r.x.v, .int .i64 r.x.k, .int .i64 r.x.s, .int .i64 r.x.p, .int .i64 r.x.t, .int .i64 r.x.a, .int .i64 r.x.l, .int .i64 r.x.c, .int .i64 r.x.n, .int .i64 r.x.i, .string r.nm, .slice ab r.l.length cb] 24)) (.slice ab r.l.length cb) r.l) := ⟨(hr7.kept b8).kept (up0 _ _), (hq7.kept b8).kept (up0 _ _), (ha7.kept b8).kept (up0 _ _), (hba7.kept b8).alloc _, up (andThen B7 b8) _, Array.getElem?_push_size, hbb.alloc _⟩
  clear c0 c1 c2 c3 c4 c5 c6 c7 c8 c9 c10 c11 e0 e1 e2 e3 e4 e5 e6 e7 e8 e9 e10 e11 hr7 hq7 ha7 hba7 B7 b8 HDN hbb
  go_wp2_with fail
  refine (lnum_any 0 _).mono ?_
  rintro e w9 ⟨rfl, rfl⟩
  have HK8' := HK8.out
  clear HK8
  generalize w8.alloc (.cells #[.int .i64 r.x.v, .int .i64 r.x.k, .int .i64 r.x.s, .int .i64 r.x.p, .int .i64 r.x.t, .int .i64 r.x.a, .int .i64 r.x.l, .int .i64 r.x.c, .int .i64 r.x.n, .int .i64 r.x.i, .string r.nm, .slice ab r.l.length cb] 24) = W9 at HK8' ⊢
  generalize w8.heap.size = gb at HK8' ⊢
  obtain ⟨hr9, hq9, ha9, hba9, B9, hb9, hbb9⟩ := HK8'
  obtain ⟨c0, c1, c2, c3, c4, c5, c6, c7, c8, c9, c10, c11⟩ := hr9.cells
  obtain ⟨e0, e1, e2, e3, e4, e5, e6, e7, e8, e9, e10, e11⟩ := hb9.cells
  go_wp2_with fail
  refine (HS1.out _ _ _ hbb9 (HB.out _ B9).1).mono ?_
  rintro e wa ⟨rfl, ba⟩
  have hra := hr9.kept ba
  have hqa := hq9.kept ba
  have haa := ha9.kept ba
  have hbaa := hba9.kept ba
  have Ba := andThen B9 ba
  clear c0 c1 c2 c3 c4 c5 c6 c7 c8 c9 c10 c11 e0 e1 e2 e3 e4 e5 e6 e7 e8 e9 e10 e11 hr9 hq9 ha9 hba9 B9 hb9 hbb9 ba HS1
  obtain ⟨c0, c1, c2, c3, c4, c5, c6, c7, c8, c9, c10, c11⟩ := hqa.cells
  go_wp2_with fail
  refine (HUQ.out _ Ba).mono ?_
  rintro e wb ⟨au, cu, rfl, hbu, bb⟩
  have HKB : Hid (Box (wb.alloc (.cells #[.int .i64 U.x.v, .int .i64 U.x.k, .int .i64 U.x.s, .int .i64 U.x.p, .int .i64 U.x.t, .int .i64 U.x.a, .int .i64 U.x.l, .int .i64 U.x.c, .int .i64 U.x.n, .int .i64 U.x.i, .string U.nm, .slice au U.l.length cu] 24)) w.heap.size r.x r.nm (.slice ao r.l.length cap) ∧ Box (wb.alloc (.cells #[.int .i64 U.x.v, .int .i64 U.x.k, .int .i64 U.x.s, .int .i64 U.x.p, .int .i64 U.x.t, .int .i64 U.x.a, .int .i64 U.x.l, .int .i64 U.x.c, .int .i64 U.x.n, .int .i64 U.x.i, .string U.nm, .slice au U.l.length cu] 24)) (w.heap.size + 1) q.x q.nm (.slice aq q.l.length cq) ∧ Box (wb.alloc (.cells #[.int .i64 U.x.v, .int .i64 U.x.k, .int .i64 U.x.s, .int .i64 U.x.p, .int .i64 U.x.t, .int .i64 U.x.a, .int .i64 U.x.l, .int .i64 U.x.c, .int .i64 U.x.n, .int .i64 U.x.i, .string U.nm, .slice au U.l.length cu] 24)) ga A.x A.nm (.slice aa A.l.length ca) ∧ Bs (wb.alloc (.cells #[.int .i64 U.x.v, .int .i64 U.x.k, .int .i64 U.x.s, .int .i64 U.x.p, .int .i64 U.x.t, .int .i64 U.x.a, .int .i64 U.x.l, .int .i64 U.x.c, .int .i64 U.x.n, .int .i64 U.x.i, .string U.nm, .slice au U.l.length cu] 24)) (.slice aa A.l.length ca) A.l ∧ Below w.heap.size w (wb.alloc (.cells #[.int .i64 U.x.v, .int .i64 U.x.k, .int .i64 U.x.s, .int .i64 U.x.p, .int .i64 U.x.t, .int .i64 U.x.a, .int .i64 U.x.l, .int .i64 U.x.c, .int .i64 U.x.n, .int .i64 U.x.i, .string U.nm, .slice au U.l.length cu] 24)) ∧ Box (wb.alloc (.cells #[.int .i64 U.x.v, .int .i64 U.x.k, .int .i64 U.x.s, .int .i64 U.x.p, .int .i64 U.x.t, .int .i64 U.x.a, .int .i64 U.x.l, .int .i64 U.x.c, .int .i64 U.x.n, .int .i64 U.x.i, .string U.nm, .slice au U.l.length cu] 24)) wb.heap.size U.x U.nm (.slice au U.l.length cu) ∧ Bs (wb.alloc (.cells #[.int .i64 U.x.v, .int .i64 U.x.k, .int .i64 U.x.s, .int .i64 U.x.p, .int .i64 U.x.t, .int .i64 U.x.a, .int .i64 U.x.l, .int .i64 U.x.c, .int .i64 U.x.n, .int .i64 U.x.i, .string U.nm, .slice au U.l.length cu] 24)) (.slice au U.l.length cu) U.l) := ⟨(hra.kept bb).kept (up0 _ _), (hqa.kept bb).kept (up0 _ _), (haa.kept bb).kept (up0 _ _), (hbaa.kept bb).alloc _, up (andThen Ba bb) _, Array.getElem?_push_size, hbu.alloc _⟩
  clear c0 c1 c2 c3 c4 c5 c6 c7 c8 c9 c10 c11 hra hqa haa hbaa Ba bb HUQ hbu
  go_wp2_with fail
  refine (lnum_any _ _).mono ?_
  rintro e wc ⟨rfl, rfl⟩
  have HKB' := HKB.out
  clear HKB
  generalize wb.alloc (.cells #[.int .i64 U.x.v, .int .i64 U.x.k, .int .i64 U.x.s, .int .i64 U.x.p, .int .i64 U.x.t, .int .i64 U.x.a, .int .i64 U.x.l, .int .i64 U.x.c, .int .i64 U.x.n, .int .i64 U.x.i, .string U.nm, .slice au U.l.length cu] 24) = WC at HKB' ⊢
  generalize wb.heap.size = gu at HKB' ⊢
  obtain ⟨hrc, hqc, hac, hbac, Bc, huc, hbuc⟩ := HKB'
  have cv := hrc.cells.1
  have cw := hqc.cells.1
  obtain ⟨c0, c1, c2, c3, c4, c5, c6, c7, c8, c9, c10, c11⟩ := hac.cells
  obtain ⟨e0, e1, e2, e3, e4, e5, e6, e7, e8, e9, e10, e11⟩ := huc.cells
  go_wp2_with fail
  refine (HS2.out _ _ _ _ _ hbac hbuc).mono ?_
  rintro e wd ⟨rfl, bd⟩
  have hrd := hrc.kept bd
  have hqd := hqc.kept bd
  have Bd := andThen Bc bd
  clear c0 c1 c2 c3 c4 c5 c6 c7 c8 c9 c10 c11 e0 e1 e2 e3 e4 e5 e6 e7 e8 e9 e10 e11 cv cw
  obtain ⟨c0, c1, c2, c3, c4, c5, c6, c7, c8, c9, c10, c11⟩ := hrd.cells
  obtain ⟨e0, e1, e2, e3, e4, e5, e6, e7, e8, e9, e10, e11⟩ := hqd.cells
  go_wp2_with fail
  refine (HS3.out _ (HB.out _ Bd).1 (HB.out _ Bd).2).mono ?_
  rintro e we ⟨rfl, be⟩
  have Be := andThen Bd be
  clear c0 c1 c2 c3 c4 c5 c6 c7 c8 c9 c10 c11 e0 e1 e2 e3 e4 e5 e6 e7 e8 e9 e10 e11
  go_wp2
  go_ret
  exact ⟨rfl, Be⟩
theorem lback_any (to : Int) (r q : Rec) (d dq : Value) (w : World) (h : Bs w d r.l) (hq : Bs w dq q.l) (hT : LTabs w) (hnm : r.nm.size ≤ 1048576) (hqm : q.nm.size ≤ 1048576) (hf : r.x.fit) (hqf : q.x.fit) :
    Calls Tryd.prog 7 #[rv r.x r.nm d, rv q.x q.nm dq, .int .i64 to] w fun e w' => e = .returned (.bool true) ∧ Below w.heap.size w w' := by
  by_cases hc : chkR r = 0
  · by_cases hv : to < r.x.v
    · exact lback_e2 to r q d dq w h hq hT hnm hf hc hv
    · by_cases h3 : 3 < to
      · exact lback_e3 to r q d dq w h hq hT hnm hf hc hv h3
      · by_cases hu : (upP to q).1 = 0
        · by_cases hne : q.x.v = r.x.v
          · cases heq : eqR (carP to r) (upP to q).2 with
            | true => exact lback_g4 to r q d dq w h hq hT hnm hqm hf hqf h.good hq.good hc hv h3 hu hne heq
            | false => exact lback_g3 to r q d dq w h hq hT hnm hqm hf hqf h.good hc hv h3 hu hne heq
          · exact lback_g2 to r q d dq w h hq hT hnm hqm hf hqf h.good hc hv h3 hu hne
        · exact lback_g1 to r q d dq w h hq hT hnm hqm hf hqf h.good hc hv h3 hu
  · exact lback_e1 to r q d dq w h hq hT hnm hf hc
end Go.Proofs.YtfkpdmmgjgchjaaDoor
