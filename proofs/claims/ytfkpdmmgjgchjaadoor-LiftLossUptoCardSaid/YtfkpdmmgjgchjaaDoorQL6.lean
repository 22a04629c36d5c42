import Derived.Test.YtfkpdmmgjgchjaaDoorQL5
/-
  LiftLoss: the law's walk.
-/
namespace Go.Proofs.YtfkpdmmgjgchjaaDoor
open Go Go.RowKit
open Wb

set_option maxRecDepth 100000 in
set_option maxHeartbeats 4000000 in
theorem lloss_e1 (to : Int) (r q : Rec) (d dq : Value) (w : World) (h : Bs w d r.l) (hq : Bs w dq q.l) (hT : LTabs w) (hnm : r.nm.size ≤ 1048576) (hf : r.x.fit) (hc : chkR r ≠ 0) :
    Calls Tryd.prog 8 #[rv r.x r.nm d, rv q.x q.nm dq, .int .i64 to] w fun e w' => e = .returned (.bool true) ∧ Below w.heap.size w w' := by
  have HX : Hid (∀ o1 o2, ((w.alloc o1).alloc o2).heap[w.heap.size]? = some o1 ∧ ((w.alloc o1).alloc o2).heap[w.heap.size + 1]? = some o2 ∧ Below w.heap.size w ((w.alloc o1).alloc o2)) := fun o1 o2 => heap2 w o1 o2
  have HST : Hid (∀ w', Below w.heap.size w w' → Calls Tryd.prog 24 #[] w' fun e w'' => e = .returned (.bool true) ∧ Below w'.heap.size w' w'') := fun w' hb => lstarted_any w' (hT.kept hb)
  have HDN : Hid (∀ w', Below w.heap.size w w' → Calls Tryd.prog 26 #[rv r.x r.nm d, .int .i64 to] w' fun e w'' => ∃ ao, ∃ cap : Nat, e = .returned (.tuple #[rv (downP to r).2.x (downP to r).2.nm (.slice ao (downP to r).2.l.length cap), .int .i64 (downP to r).1]) ∧ Bs w'' (.slice ao (downP to r).2.l.length cap) (downP to r).2.l ∧ Below w'.heap.size w' w'') := fun w' hb => down_any to r d w' (h.kept hb) (hT.kept hb) hnm hf
  have HRC : Hid (∀ w', Below w.heap.size w w' → Calls Tryd.prog 13 #[rv r.x r.nm d] w' fun e w'' => e = .returned (.int .i64 (chkR r)) ∧ Below w'.heap.size w' w'') := fun w' hb => refcheck_any r.x r.nm d r.l w' (h.kept hb) (hT.kept hb).tabs.rlets (hT.kept hb).tabs.rows hf.c (by omega)
  have hbad : (downP to r).1 ≠ 0 := down_bad (fun hh => hc hh.1)
  have d1 : (chkR r != 0) = true := by rw [bne_iff_ne]; exact hc
  clear hc
  generalize chkR r = z at *
  obtain ⟨ao, cap, rfl, _⟩ := h.shape
  obtain ⟨aq, cq, rfl, _⟩ := hq.shape
  clear h hq hT
  have dz : ((downP to r).1 != 0) = true := by rw [bne_iff_ne]; exact hbad
  clear hbad
  generalize (downP to r).1 = uz at *
  generalize (downP to r).2 = A at *
  unfold rv at *
  go_enter Tryd.func8, Tryd.ntmps8
  go_wp2_with fail
  refine (HDN.out _ (HX.out _ _).2.2).mono ?_
  rintro e w2 ⟨aa, ca, rfl, _, b2⟩
  have HK : Hid (Box (w2.alloc (.cells #[.int .i64 A.x.v, .int .i64 A.x.k, .int .i64 A.x.s, .int .i64 A.x.p, .int .i64 A.x.t, .int .i64 A.x.a, .int .i64 A.x.l, .int .i64 A.x.c, .int .i64 A.x.n, .int .i64 A.x.i, .string A.nm, .slice aa A.l.length ca] 24)) w.heap.size r.x r.nm (.slice ao r.l.length cap) ∧ Below w.heap.size w (w2.alloc (.cells #[.int .i64 A.x.v, .int .i64 A.x.k, .int .i64 A.x.s, .int .i64 A.x.p, .int .i64 A.x.t, .int .i64 A.x.a, .int .i64 A.x.l, .int .i64 A.x.c, .int .i64 A.x.n, .int .i64 A.x.i, .string A.nm, .slice aa A.l.length ca] 24))) := ⟨Box.kept (Box.kept (HX.out _ _).1 b2) (up0 _ _), up (andThen (HX.out _ _).2.2 b2) _⟩
  clear b2 HX HDN
  go_wp2_with fail
  refine (HST.out _ HK.out.2).mono ?_
  rintro e w4 ⟨rfl, b4⟩
  have hx4 := HK.out.1.kept b4
  have B4 := andThen HK.out.2 b4
  clear HK b4 HST
  obtain ⟨c0, c1, c2, c3, c4, c5, c6, c7, c8, c9, c10, c11⟩ := hx4.cells
  go_wp2_with fail
  refine (HRC.out _ B4).mono ?_
  rintro e w5 ⟨rfl, b5⟩
  have hx5 := hx4.kept b5
  have B5 := andThen B4 b5
  clear c0 c1 c2 c3 c4 c5 c6 c7 c8 c9 c10 c11 hx4 B4 b5 HRC
  clear hx5
  go_wp2_with fail
  refine (lnum_any _ _).mono ?_
  rintro e w6 ⟨rfl, rfl⟩
  go_wp2
  go_ret
  exact ⟨rfl, B5⟩
set_option maxRecDepth 100000 in
set_option maxHeartbeats 4000000 in
theorem lloss_e2 (to : Int) (r q : Rec) (d dq : Value) (w : World) (h : Bs w d r.l) (hq : Bs w dq q.l) (hT : LTabs w) (hnm : r.nm.size ≤ 1048576) (hf : r.x.fit) (hc : chkR r = 0) (hv : to < 1) :
    Calls Tryd.prog 8 #[rv r.x r.nm d, rv q.x q.nm dq, .int .i64 to] w fun e w' => e = .returned (.bool true) ∧ Below w.heap.size w w' := by
  have HX : Hid (∀ o1 o2, ((w.alloc o1).alloc o2).heap[w.heap.size]? = some o1 ∧ ((w.alloc o1).alloc o2).heap[w.heap.size + 1]? = some o2 ∧ Below w.heap.size w ((w.alloc o1).alloc o2)) := fun o1 o2 => heap2 w o1 o2
  have HST : Hid (∀ w', Below w.heap.size w w' → Calls Tryd.prog 24 #[] w' fun e w'' => e = .returned (.bool true) ∧ Below w'.heap.size w' w'') := fun w' hb => lstarted_any w' (hT.kept hb)
  have HDN : Hid (∀ w', Below w.heap.size w w' → Calls Tryd.prog 26 #[rv r.x r.nm d, .int .i64 to] w' fun e w'' => ∃ ao, ∃ cap : Nat, e = .returned (.tuple #[rv (downP to r).2.x (downP to r).2.nm (.slice ao (downP to r).2.l.length cap), .int .i64 (downP to r).1]) ∧ Bs w'' (.slice ao (downP to r).2.l.length cap) (downP to r).2.l ∧ Below w'.heap.size w' w'') := fun w' hb => down_any to r d w' (h.kept hb) (hT.kept hb) hnm hf
  have HRC : Hid (∀ w', Below w.heap.size w w' → Calls Tryd.prog 13 #[rv r.x r.nm d] w' fun e w'' => e = .returned (.int .i64 (chkR r)) ∧ Below w'.heap.size w' w'') := fun w' hb => refcheck_any r.x r.nm d r.l w' (h.kept hb) (hT.kept hb).tabs.rlets (hT.kept hb).tabs.rows hf.c (by omega)
  have hbad : (downP to r).1 ≠ 0 := down_bad (fun hh => by omega)
  rw [hc] at HRC
  clear hc
  obtain ⟨ao, cap, rfl, _⟩ := h.shape
  obtain ⟨aq, cq, rfl, _⟩ := hq.shape
  clear h hq hT
  have dz : ((downP to r).1 != 0) = true := by rw [bne_iff_ne]; exact hbad
  clear hbad
  generalize (downP to r).1 = uz at *
  generalize (downP to r).2 = A at *
  unfold rv at *
  go_enter Tryd.func8, Tryd.ntmps8
  go_wp2_with fail
  refine (HDN.out _ (HX.out _ _).2.2).mono ?_
  rintro e w2 ⟨aa, ca, rfl, _, b2⟩
  have HK : Hid (Box (w2.alloc (.cells #[.int .i64 A.x.v, .int .i64 A.x.k, .int .i64 A.x.s, .int .i64 A.x.p, .int .i64 A.x.t, .int .i64 A.x.a, .int .i64 A.x.l, .int .i64 A.x.c, .int .i64 A.x.n, .int .i64 A.x.i, .string A.nm, .slice aa A.l.length ca] 24)) w.heap.size r.x r.nm (.slice ao r.l.length cap) ∧ Below w.heap.size w (w2.alloc (.cells #[.int .i64 A.x.v, .int .i64 A.x.k, .int .i64 A.x.s, .int .i64 A.x.p, .int .i64 A.x.t, .int .i64 A.x.a, .int .i64 A.x.l, .int .i64 A.x.c, .int .i64 A.x.n, .int .i64 A.x.i, .string A.nm, .slice aa A.l.length ca] 24))) := ⟨Box.kept (Box.kept (HX.out _ _).1 b2) (up0 _ _), up (andThen (HX.out _ _).2.2 b2) _⟩
  clear b2 HX HDN
  go_wp2_with fail
  refine (HST.out _ HK.out.2).mono ?_
  rintro e w4 ⟨rfl, b4⟩
  have hx4 := HK.out.1.kept b4
  have B4 := andThen HK.out.2 b4
  clear HK b4 HST
  obtain ⟨c0, c1, c2, c3, c4, c5, c6, c7, c8, c9, c10, c11⟩ := hx4.cells
  go_wp2_with fail
  refine (HRC.out _ B4).mono ?_
  rintro e w5 ⟨rfl, b5⟩
  have hx5 := hx4.kept b5
  have B5 := andThen B4 b5
  clear c0 c1 c2 c3 c4 c5 c6 c7 c8 c9 c10 c11 hx4 B4 b5 HRC
  clear hx5
  go_wp2_with fail
  refine (lnum_any _ _).mono ?_
  rintro e w6 ⟨rfl, rfl⟩
  go_wp2
  go_ret
  exact ⟨rfl, B5⟩
set_option maxRecDepth 100000 in
set_option maxHeartbeats 4000000 in
theorem lloss_e3 (to : Int) (r q : Rec) (d dq : Value) (w : World) (h : Bs w d r.l) (hq : Bs w dq q.l) (hT : LTabs w) (hnm : r.nm.size ≤ 1048576) (hf : r.x.fit) (hc : chkR r = 0) (hv : ¬ to < 1) (h3 : r.x.v < to) :
    Calls Tryd.prog 8 #[rv r.x r.nm d, rv q.x q.nm dq, .int .i64 to] w fun e w' => e = .returned (.bool true) ∧ Below w.heap.size w w' := by
  have HX : Hid (∀ o1 o2, ((w.alloc o1).alloc o2).heap[w.heap.size]? = some o1 ∧ ((w.alloc o1).alloc o2).heap[w.heap.size + 1]? = some o2 ∧ Below w.heap.size w ((w.alloc o1).alloc o2)) := fun o1 o2 => heap2 w o1 o2
  have HST : Hid (∀ w', Below w.heap.size w w' → Calls Tryd.prog 24 #[] w' fun e w'' => e = .returned (.bool true) ∧ Below w'.heap.size w' w'') := fun w' hb => lstarted_any w' (hT.kept hb)
  have HDN : Hid (∀ w', Below w.heap.size w w' → Calls Tryd.prog 26 #[rv r.x r.nm d, .int .i64 to] w' fun e w'' => ∃ ao, ∃ cap : Nat, e = .returned (.tuple #[rv (downP to r).2.x (downP to r).2.nm (.slice ao (downP to r).2.l.length cap), .int .i64 (downP to r).1]) ∧ Bs w'' (.slice ao (downP to r).2.l.length cap) (downP to r).2.l ∧ Below w'.heap.size w' w'') := fun w' hb => down_any to r d w' (h.kept hb) (hT.kept hb) hnm hf
  have HRC : Hid (∀ w', Below w.heap.size w w' → Calls Tryd.prog 13 #[rv r.x r.nm d] w' fun e w'' => e = .returned (.int .i64 (chkR r)) ∧ Below w'.heap.size w' w'') := fun w' hb => refcheck_any r.x r.nm d r.l w' (h.kept hb) (hT.kept hb).tabs.rlets (hT.kept hb).tabs.rows hf.c (by omega)
  have hbad : (downP to r).1 ≠ 0 := down_bad (fun hh => by omega)
  rw [hc] at HRC
  clear hc
  obtain ⟨ao, cap, rfl, _⟩ := h.shape
  obtain ⟨aq, cq, rfl, _⟩ := hq.shape
  clear h hq hT
  have dz : ((downP to r).1 != 0) = true := by rw [bne_iff_ne]; exact hbad
  clear hbad
  generalize (downP to r).1 = uz at *
  generalize (downP to r).2 = A at *
  unfold rv at *
  go_enter Tryd.func8, Tryd.ntmps8
  go_wp2_with fail
  refine (HDN.out _ (HX.out _ _).2.2).mono ?_
  rintro e w2 ⟨aa, ca, rfl, _, b2⟩
  have HK : Hid (Box (w2.alloc (.cells #[.int .i64 A.x.v, .int .i64 A.x.k, .int .i64 A.x.s, .int .i64 A.x.p, .int .i64 A.x.t, .int .i64 A.x.a, .int .i64 A.x.l, .int .i64 A.x.c, .int .i64 A.x.n, .int .i64 A.x.i, .string A.nm, .slice aa A.l.length ca] 24)) w.heap.size r.x r.nm (.slice ao r.l.length cap) ∧ Below w.heap.size w (w2.alloc (.cells #[.int .i64 A.x.v, .int .i64 A.x.k, .int .i64 A.x.s, .int .i64 A.x.p, .int .i64 A.x.t, .int .i64 A.x.a, .int .i64 A.x.l, .int .i64 A.x.c, .int .i64 A.x.n, .int .i64 A.x.i, .string A.nm, .slice aa A.l.length ca] 24))) := ⟨Box.kept (Box.kept (HX.out _ _).1 b2) (up0 _ _), up (andThen (HX.out _ _).2.2 b2) _⟩
  clear b2 HX HDN
  go_wp2_with fail
  refine (HST.out _ HK.out.2).mono ?_
  rintro e w4 ⟨rfl, b4⟩
  have hx4 := HK.out.1.kept b4
  have B4 := andThen HK.out.2 b4
  clear HK b4 HST
  obtain ⟨c0, c1, c2, c3, c4, c5, c6, c7, c8, c9, c10, c11⟩ := hx4.cells
  go_wp2_with fail
  refine (HRC.out _ B4).mono ?_
  rintro e w5 ⟨rfl, b5⟩
  have hx5 := hx4.kept b5
  have B5 := andThen B4 b5
  clear c0 c1 c2 c3 c4 c5 c6 c7 c8 c9 c10 c11 hx4 B4 b5 HRC
  have cv := hx5.cells.1
  clear hx5
  go_wp2_with fail
  refine (lnum_any _ _).mono ?_
  rintro e w6 ⟨rfl, rfl⟩
  go_wp2
  go_ret
  exact ⟨rfl, B5⟩
set_option maxRecDepth 100000 in
set_option maxHeartbeats 4000000 in
theorem lloss_ok (to : Int) (r q : Rec) (d dq : Value) (w : World) (h : Bs w d r.l) (hq : Bs w dq q.l) (hT : LTabs w) (hnm : r.nm.size ≤ 1048576) (hf : r.x.fit) (hc : chkR r = 0) (hv : ¬ to < 1) (h3 : ¬ r.x.v < to) (hd : (downP to r).1 = 0) :
    Calls Tryd.prog 8 #[rv r.x r.nm d, rv q.x q.nm dq, .int .i64 to] w fun e w' => e = .returned (.bool true) ∧ Below w.heap.size w w' := by
  have HX : Hid (∀ o1 o2, ((w.alloc o1).alloc o2).heap[w.heap.size]? = some o1 ∧ ((w.alloc o1).alloc o2).heap[w.heap.size + 1]? = some o2 ∧ Below w.heap.size w ((w.alloc o1).alloc o2)) := fun o1 o2 => heap2 w o1 o2
  have HST : Hid (∀ w', Below w.heap.size w w' → Calls Tryd.prog 24 #[] w' fun e w'' => e = .returned (.bool true) ∧ Below w'.heap.size w' w'') := fun w' hb => lstarted_any w' (hT.kept hb)
  have hz := down_zero hd
  have hvv := (chk_exp r.x r.nm r.l).1 hc
  have hk2 := down_ok2 r to hc (by omega) (by omega) hz.2.2.2.2.1
  have hug : upP r.x.v (carP to r) = (0, r) := by
    rw [up_good hk2.1 (by omega) (by omega) (by rw [hk2.2]; omega), hz.2.2.2.2.1]
  have hdg : downP to r = (0, carP to r) := down_good hc (by omega) (by omega) (by omega) hz.2.2.2.2.1
  have hAf : (carP to r).x.fit := carL_fit _ _ hf
  have hAs := small_of _ hAf hk2.1
  have HDN : Hid (∀ w', Below w.heap.size w w' → Calls Tryd.prog 26 #[rv r.x r.nm d, .int .i64 to] w' fun e w'' => ∃ ao, ∃ cap : Nat, e = .returned (.tuple #[rv (downP to r).2.x (downP to r).2.nm (.slice ao (downP to r).2.l.length cap), .int .i64 (downP to r).1]) ∧ Bs w'' (.slice ao (downP to r).2.l.length cap) (downP to r).2.l ∧ Below w'.heap.size w' w'') := fun w' hb => down_any to r d w' (h.kept hb) (hT.kept hb) hnm hf
  rw [hdg] at HDN
  have HRC : Hid (∀ w', Below w.heap.size w w' → Calls Tryd.prog 13 #[rv r.x r.nm d] w' fun e w'' => e = .returned (.int .i64 (chkR r)) ∧ Below w'.heap.size w' w'') := fun w' hb => refcheck_any r.x r.nm d r.l w' (h.kept hb) (hT.kept hb).tabs.rlets (hT.kept hb).tabs.rows hf.c (by omega)
  rw [hc] at HRC
  have HRA : Hid (∀ w' aa (ca : Nat), Below w.heap.size w w' → Bs w' (.slice aa (carP to r).l.length ca) (carP to r).l → Calls Tryd.prog 13 #[rv (carP to r).x (carP to r).nm (.slice aa (carP to r).l.length ca)] w' fun e w'' => e = .returned (.int .i64 0) ∧ Below w'.heap.size w' w'') := fun w' aa ca hb hbs => by
    have := refcheck_any (carP to r).x (carP to r).nm _ (carP to r).l w' hbs (hT.kept hb).tabs.rlets (hT.kept hb).tabs.rows hAf.c (by have := hAs.1; omega)
    rw [show chk (carP to r).x (carP to r).nm (carP to r).l = 0 from hk2.1] at this
    exact this
  have HUP : Hid (∀ w' aa (ca : Nat), Below w.heap.size w w' → Bs w' (.slice aa (carP to r).l.length ca) (carP to r).l → Calls Tryd.prog 23 #[rv (carP to r).x (carP to r).nm (.slice aa (carP to r).l.length ca), .int .i64 r.x.v] w' fun e w'' => ∃ ao, ∃ cap : Nat, e = .returned (.tuple #[rv r.x r.nm (.slice ao r.l.length cap), .int .i64 0]) ∧ Bs w'' (.slice ao r.l.length cap) r.l ∧ Below w'.heap.size w' w'') := fun w' aa ca hb hbs => by
    have := up_any r.x.v (carP to r) _ w' hbs (hT.kept hb) (by have := hAs.1; omega) hAf
    rw [hug] at this
    exact this
  have HB : Hid (∀ w', Below w.heap.size w w' → Bs w' d r.l) := fun w' hb => h.kept hb
  have HSM : Hid (∀ (a b : Rec) (v1 v2 : Value) w', Bs w' v1 a.l → Bs w' v2 b.l → Calls Tryd.prog 14 #[rv a.x a.nm v1, rv b.x b.nm v2] w' fun e w'' => e = .returned (.bool (eqR a b)) ∧ Below w'.heap.size w' w'') := fun a b v1 v2 w' h1 h2 => refsame_any a.x b.x a.nm b.nm v1 v2 a.l b.l w' h1 h2
  have dv : ((carP to r).x.v == to) = true := by rw [hk2.2]; simp
  obtain ⟨ao, cap, rfl, _⟩ := h.shape
  obtain ⟨aq, cq, rfl, _⟩ := hq.shape
  have HS1 : Hid (∀ w' ab (cb : Nat), Bs w' (.slice ab r.l.length cb) r.l → Bs w' (.slice ao r.l.length cap) r.l → Calls Tryd.prog 14 #[rv r.x r.nm (.slice ab r.l.length cb), rv r.x r.nm (.slice ao r.l.length cap)] w' fun e w'' => e = .returned (.bool true) ∧ Below w'.heap.size w' w'') := fun w' ab cb h1 h2 => (HSM.out r r _ _ w' h1 h2).mono fun e w'' ⟨he, hk⟩ => ⟨by rw [he, (eqR_iff r r).2 rfl], hk⟩
  clear h hq hT hz hk2 hug hdg hAf hAs hc hvv hf hd HSM
  generalize carP to r = A at *
  unfold rv at *
  go_enter Tryd.func8, Tryd.ntmps8
  go_wp2_with fail
  refine (HDN.out _ (HX.out _ _).2.2).mono ?_
  rintro e w2 ⟨aa, ca, rfl, hba, b2⟩
  have HK : Hid (Box (w2.alloc (.cells #[.int .i64 A.x.v, .int .i64 A.x.k, .int .i64 A.x.s, .int .i64 A.x.p, .int .i64 A.x.t, .int .i64 A.x.a, .int .i64 A.x.l, .int .i64 A.x.c, .int .i64 A.x.n, .int .i64 A.x.i, .string A.nm, .slice aa A.l.length ca] 24)) w.heap.size r.x r.nm (.slice ao r.l.length cap) ∧ Box (w2.alloc (.cells #[.int .i64 A.x.v, .int .i64 A.x.k, .int .i64 A.x.s, .int .i64 A.x.p, .int .i64 A.x.t, .int .i64 A.x.a, .int .i64 A.x.l, .int .i64 A.x.c, .int .i64 A.x.n, .int .i64 A.x.i, .string A.nm, .slice aa A.l.length ca] 24)) (w.heap.size + 1) q.x q.nm (.slice aq q.l.length cq) ∧ Box (w2.alloc (.cells #[.int .i64 A.x.v, .int .i64 A.x.k, .int .i64 A.x.s, .int .i64 A.x.p, .int .i64 A.x.t, .int .i64 A.x.a, .int .i64 A.x.l, .int .i64 A.x.c, .int .i64 A.x.n, .int .i64 A.x.i, .string A.nm, .slice aa A.l.length ca] 24)) w2.heap.size A.x A.nm (.slice aa A.l.length ca) ∧ Bs (w2.alloc (.cells #[.int .i64 A.x.v, .int .i64 A.x.k, .int .i64 A.x.s, .int .i64 A.x.p, .int .i64 A.x.t, .int .i64 A.x.a, .int .i64 A.x.l, .int .i64 A.x.c, .int .i64 A.x.n, .int .i64 A.x.i, .string A.nm, .slice aa A.l.length ca] 24)) (.slice aa A.l.length ca) A.l ∧ Below w.heap.size w (w2.alloc (.cells #[.int .i64 A.x.v, .int .i64 A.x.k, .int .i64 A.x.s, .int .i64 A.x.p, .int .i64 A.x.t, .int .i64 A.x.a, .int .i64 A.x.l, .int .i64 A.x.c, .int .i64 A.x.n, .int .i64 A.x.i, .string A.nm, .slice aa A.l.length ca] 24))) := ⟨Box.kept (Box.kept (HX.out _ _).1 b2) (up0 _ _), Box.kept (Box.kept (HX.out _ _).2.1 b2) (up0 _ _), Array.getElem?_push_size, hba.alloc _, up (andThen (HX.out _ _).2.2 b2) _⟩
  clear b2 HX HDN hba
  go_wp2_with fail
  refine (HST.out _ HK.out.2.2.2.2).mono ?_
  rintro e w4 ⟨rfl, b4⟩
  have HK4 : Box w4 w.heap.size r.x r.nm (.slice ao r.l.length cap) ∧ Box w4 (w.heap.size + 1) q.x q.nm (.slice aq q.l.length cq) ∧ Box w4 w2.heap.size A.x A.nm (.slice aa A.l.length ca) ∧ Bs w4 (.slice aa A.l.length ca) A.l ∧ Below w.heap.size w w4 := ⟨HK.out.1.kept b4, HK.out.2.1.kept b4, HK.out.2.2.1.kept b4, HK.out.2.2.2.1.kept b4, andThen HK.out.2.2.2.2 b4⟩
  clear HK b4 HST
  generalize w2.heap.size = ga at HK4 ⊢
  obtain ⟨hr4, hq4, ha4, hba4, B4⟩ := HK4
  obtain ⟨c0, c1, c2, c3, c4, c5, c6, c7, c8, c9, c10, c11⟩ := hr4.cells
  go_wp2_with fail
  refine (HRC.out _ B4).mono ?_
  rintro e w5 ⟨rfl, b5⟩
  have hr5 := hr4.kept b5
  have hq5 := hq4.kept b5
  have ha5 := ha4.kept b5
  have hba5 := hba4.kept b5
  have B5 := andThen B4 b5
  clear c0 c1 c2 c3 c4 c5 c6 c7 c8 c9 c10 c11 hr4 hq4 ha4 hba4 B4 b5 HRC
  obtain ⟨c0, c1, c2, c3, c4, c5, c6, c7, c8, c9, c10, c11⟩ := hr5.cells
  go_wp2_with fail
  refine (lnum_any 0 _).mono ?_
  rintro e w6 ⟨rfl, rfl⟩
  obtain ⟨e0, e1, e2, e3, e4, e5, e6, e7, e8, e9, e10, e11⟩ := ha5.cells
  go_wp2_with fail
  refine (HUP.out _ _ _ B5 hba5).mono ?_
  rintro e w8 ⟨ab, cb, rfl, hbb, b8⟩
  have HK8 : Hid (Box (w8.alloc (.cells #[.int .i64 r.x.v, .int .i64 r.x.k, .int .i64 r.x.s, .int .i64 r.x.p, .int .i64 r.x.t, .int .i64 r.x.a, .int .i64 r.x.l, .int .i64 r.x.c, .int .i64 r.x.n, .int .i64 r.x.i, .string r.nm, .slice ab r.l.length cb] 24)) w.heap.size r.x r.nm (.slice ao r.l.length cap) ∧ Box (w8.alloc (.cells #[.int .i64 r.x.v, .int .i64 r.x.k, .int .i64 r.x.s, .int .i64 r.x.p, .int .i64 r.x.t, .int .i64 r.x.a, .int .i64 r.x.l, .int .i64 r.x.c, .int .i64 r.x.n, .int .i64 r.x.i, .string r.nm, .slice ab r.l.length cb] 24)) ga A.x A.nm (.slice aa A.l.length ca) ∧ Bs (w8.alloc (.cells #[.int .i64 r.x.v, .int .i64 r.x.k, .int .i64 r.x.s, .int .i64 r.x.p, .int .i64 r.x.t, .int .i64 r.x.a, .int .i64 r.x.l, .int .i64 r.x.c, .int .i64 r.x.n, .int .i64 r.x.i, .string r.nm, .slice ab r.l.length cb] 24)) (.slice aa A.l.length ca) A.l ∧ Below w.heap.size w (w8.alloc (.cells #[.int .i64 r.x.v, .int .i64 r.x.k, .int .i64 r.x.s, .int .i64 r.x.p, .int .i64 r.x.t, .int .i64 r.x.a, .int .i64 r.x.l, .int .i64 r.x.c, .int .i64 r.x.n, .int .i64 r.x.i, .string r.nm, .slice ab r.l.length cb] 24)) ∧ Box (w8.alloc (.cells #[.int .i64 r.x.v, .int .i64 r.x.k, .int .i64 r.x.s, .int .i64 r.x.p, .int .i64 r.x.t, .int .i64 r.x.a, .int .i64 r.x.l, .int .i64 r.x.c, .int .i64 r.x.n, .int .i64 r.x.i, .string r.nm, .slice ab r.l.length cb] 24)) w8.heap.size r.x r.nm (.slice ab r.l.length cb) ∧ Bs (w8.alloc (.cells #[.int .i64 r.x.v, .int .i64 r.x.k, .int .i64 r.x.s, .int .i64 r.x.p, .int .i64 r.x.t, .int .i64 r.x.a, .int .i64 r.x.l, .int .i64 r.x.c, .int .i64 r.x.n, .int .i64 r.x.i, .string r.nm, .slice ab r.l.length cb] 24)) (.slice ab r.l.length cb) r.l) := ⟨(hr5.kept b8).kept (up0 _ _), (ha5.kept b8).kept (up0 _ _), (hba5.kept b8).alloc _, up (andThen B5 b8) _, Array.getElem?_push_size, hbb.alloc _⟩
  clear c0 c1 c2 c3 c4 c5 c6 c7 c8 c9 c10 c11 e0 e1 e2 e3 e4 e5 e6 e7 e8 e9 e10 e11 hr5 hq5 ha5 hba5 B5 b8 HUP hbb
  obtain ⟨e0, e1, e2, e3, e4, e5, e6, e7, e8, e9, e10, e11⟩ := HK8.out.2.1.cells
  go_wp2_with fail
  refine (HRA.out _ _ _ HK8.out.2.2.2.1 HK8.out.2.2.1).mono ?_
  rintro e w9 ⟨rfl, b9⟩
  have HK9 : Box w9 w.heap.size r.x r.nm (.slice ao r.l.length cap) ∧ Below w.heap.size w w9 ∧ Box w9 w8.heap.size r.x r.nm (.slice ab r.l.length cb) ∧ Bs w9 (.slice ab r.l.length cb) r.l := ⟨HK8.out.1.kept b9, andThen HK8.out.2.2.2.1 b9, HK8.out.2.2.2.2.1.kept b9, HK8.out.2.2.2.2.2.kept b9⟩
  clear e0 e1 e2 e3 e4 e5 e6 e7 e8 e9 e10 e11 HK8 b9 HRA
  generalize w8.heap.size = gb at HK9 ⊢
  obtain ⟨hr9, B9, hb9, hbb9⟩ := HK9
  go_wp2_with fail
  refine (lnum_any 0 _).mono ?_
  rintro e wz ⟨rfl, rfl⟩
  obtain ⟨c0, c1, c2, c3, c4, c5, c6, c7, c8, c9, c10, c11⟩ := hr9.cells
  obtain ⟨e0, e1, e2, e3, e4, e5, e6, e7, e8, e9, e10, e11⟩ := hb9.cells
  go_wp2_with fail
  refine (HS1.out _ _ _ hbb9 (HB.out _ B9)).mono ?_
  rintro e wa ⟨rfl, ba⟩
  have Ba := andThen B9 ba
  clear c0 c1 c2 c3 c4 c5 c6 c7 c8 c9 c10 c11 e0 e1 e2 e3 e4 e5 e6 e7 e8 e9 e10 e11 hr9 B9 hb9 hbb9 ba
  go_wp2
  go_ret
  exact ⟨rfl, Ba⟩
set_option maxRecDepth 100000 in
set_option maxHeartbeats 4000000 in
theorem lloss_l1 (to : Int) (r q : Rec) (d dq : Value) (w : World) (h : Bs w d r.l) (hq : Bs w dq q.l) (hT : LTabs w) (hnm : r.nm.size ≤ 1048576) (hqm : q.nm.size ≤ 1048576) (hf : r.x.fit) (hqf : q.x.fit) (hc : chkR r = 0) (hv : ¬ to < 1) (hd : (downP to r).1 = 40) (hlt : to < r.x.v) (hne : q.x.v ≠ to) :
    Calls Tryd.prog 8 #[rv r.x r.nm d, rv q.x q.nm dq, .int .i64 to] w fun e w' => e = .returned (.bool true) ∧ Below w.heap.size w w' := by
  have HX : Hid (∀ o1 o2, ((w.alloc o1).alloc o2).heap[w.heap.size]? = some o1 ∧ ((w.alloc o1).alloc o2).heap[w.heap.size + 1]? = some o2 ∧ Below w.heap.size w ((w.alloc o1).alloc o2)) := fun o1 o2 => heap2 w o1 o2
  have HST : Hid (∀ w', Below w.heap.size w w' → Calls Tryd.prog 24 #[] w' fun e w'' => e = .returned (.bool true) ∧ Below w'.heap.size w' w'') := fun w' hb => lstarted_any w' (hT.kept hb)
  have HDN : Hid (∀ w', Below w.heap.size w w' → Calls Tryd.prog 26 #[rv r.x r.nm d, .int .i64 to] w' fun e w'' => ∃ ao, ∃ cap : Nat, e = .returned (.tuple #[rv (downP to r).2.x (downP to r).2.nm (.slice ao (downP to r).2.l.length cap), .int .i64 (downP to r).1]) ∧ Bs w'' (.slice ao (downP to r).2.l.length cap) (downP to r).2.l ∧ Below w'.heap.size w' w'') := fun w' hb => down_any to r d w' (h.kept hb) (hT.kept hb) hnm hf
  rw [hd] at HDN
  have HRC : Hid (∀ w', Below w.heap.size w w' → Calls Tryd.prog 13 #[rv r.x r.nm d] w' fun e w'' => e = .returned (.int .i64 (chkR r)) ∧ Below w'.heap.size w' w'') := fun w' hb => refcheck_any r.x r.nm d r.l w' (h.kept hb) (hT.kept hb).tabs.rlets (hT.kept hb).tabs.rows hf.c (by omega)
  rw [hc] at HRC
  have HUQ : Hid (∀ w', Below w.heap.size w w' → Calls Tryd.prog 23 #[rv q.x q.nm dq, .int .i64 r.x.v] w' fun e w'' => ∃ ao, ∃ cap : Nat, e = .returned (.tuple #[rv (upP r.x.v q).2.x (upP r.x.v q).2.nm (.slice ao (upP r.x.v q).2.l.length cap), .int .i64 (upP r.x.v q).1]) ∧ Bs w'' (.slice ao (upP r.x.v q).2.l.length cap) (upP r.x.v q).2.l ∧ Below w'.heap.size w' w'') := fun w' hb => up_any r.x.v q dq w' (hq.kept hb) (hT.kept hb) hqm hqf
  obtain ⟨ao, cap, rfl, _⟩ := h.shape
  obtain ⟨aq, cq, rfl, _⟩ := hq.shape
  clear h hq hT hd hc hf hqf
  generalize (downP to r).2 = A at *
  have dq : (q.x.v != to) = true := by rw [bne_iff_ne]; exact hne
  clear hne
  generalize (upP r.x.v q).1 = uz at *
  generalize (upP r.x.v q).2 = U at *
  unfold rv at *
  go_enter Tryd.func8, Tryd.ntmps8
  go_wp2_with fail
  refine (HDN.out _ (HX.out _ _).2.2).mono ?_
  rintro e w2 ⟨aa, ca, rfl, hba, b2⟩
  have HK : Hid (Box (w2.alloc (.cells #[.int .i64 A.x.v, .int .i64 A.x.k, .int .i64 A.x.s, .int .i64 A.x.p, .int .i64 A.x.t, .int .i64 A.x.a, .int .i64 A.x.l, .int .i64 A.x.c, .int .i64 A.x.n, .int .i64 A.x.i, .string A.nm, .slice aa A.l.length ca] 24)) w.heap.size r.x r.nm (.slice ao r.l.length cap) ∧ Box (w2.alloc (.cells #[.int .i64 A.x.v, .int .i64 A.x.k, .int .i64 A.x.s, .int .i64 A.x.p, .int .i64 A.x.t, .int .i64 A.x.a, .int .i64 A.x.l, .int .i64 A.x.c, .int .i64 A.x.n, .int .i64 A.x.i, .string A.nm, .slice aa A.l.length ca] 24)) (w.heap.size + 1) q.x q.nm (.slice aq q.l.length cq) ∧ Box (w2.alloc (.cells #[.int .i64 A.x.v, .int .i64 A.x.k, .int .i64 A.x.s, .int .i64 A.x.p, .int .i64 A.x.t, .int .i64 A.x.a, .int .i64 A.x.l, .int .i64 A.x.c, .int .i64 A.x.n, .int .i64 A.x.i, .string A.nm, .slice aa A.l.length ca] 24)) w2.heap.size A.x A.nm (.slice aa A.l.length ca) ∧ Bs (w2.alloc (.cells #[.int .i64 A.x.v, .int .i64 A.x.k, .int .i64 A.x.s, .int .i64 A.x.p, .int .i64 A.x.t, .int .i64 A.x.a, .int .i64 A.x.l, .int .i64 A.x.c, .int .i64 A.x.n, .int .i64 A.x.i, .string A.nm, .slice aa A.l.length ca] 24)) (.slice aa A.l.length ca) A.l ∧ Below w.heap.size w (w2.alloc (.cells #[.int .i64 A.x.v, .int .i64 A.x.k, .int .i64 A.x.s, .int .i64 A.x.p, .int .i64 A.x.t, .int .i64 A.x.a, .int .i64 A.x.l, .int .i64 A.x.c, .int .i64 A.x.n, .int .i64 A.x.i, .string A.nm, .slice aa A.l.length ca] 24))) := ⟨Box.kept (Box.kept (HX.out _ _).1 b2) (up0 _ _), Box.kept (Box.kept (HX.out _ _).2.1 b2) (up0 _ _), Array.getElem?_push_size, hba.alloc _, up (andThen (HX.out _ _).2.2 b2) _⟩
  clear b2 HX HDN hba
  go_wp2_with fail
  refine (HST.out _ HK.out.2.2.2.2).mono ?_
  rintro e w4 ⟨rfl, b4⟩
  have HK4 : Box w4 w.heap.size r.x r.nm (.slice ao r.l.length cap) ∧ Box w4 (w.heap.size + 1) q.x q.nm (.slice aq q.l.length cq) ∧ Box w4 w2.heap.size A.x A.nm (.slice aa A.l.length ca) ∧ Bs w4 (.slice aa A.l.length ca) A.l ∧ Below w.heap.size w w4 := ⟨HK.out.1.kept b4, HK.out.2.1.kept b4, HK.out.2.2.1.kept b4, HK.out.2.2.2.1.kept b4, andThen HK.out.2.2.2.2 b4⟩
  clear HK b4 HST
  generalize w2.heap.size = ga at HK4 ⊢
  obtain ⟨hr4, hq4, ha4, hba4, B4⟩ := HK4
  obtain ⟨c0, c1, c2, c3, c4, c5, c6, c7, c8, c9, c10, c11⟩ := hr4.cells
  go_wp2_with fail
  refine (HRC.out _ B4).mono ?_
  rintro e w5 ⟨rfl, b5⟩
  have hr5 := hr4.kept b5
  have hq5 := hq4.kept b5
  have ha5 := ha4.kept b5
  have hba5 := hba4.kept b5
  have B5 := andThen B4 b5
  clear c0 c1 c2 c3 c4 c5 c6 c7 c8 c9 c10 c11 hr4 hq4 ha4 hba4 B4 b5 HRC
  obtain ⟨c0, c1, c2, c3, c4, c5, c6, c7, c8, c9, c10, c11⟩ := hr5.cells
  go_wp2_with fail
  refine (lnum_any 40 _).mono ?_
  rintro e w6 ⟨rfl, rfl⟩
  obtain ⟨e0, e1, e2, e3, e4, e5, e6, e7, e8, e9, e10, e11⟩ := hq5.cells
  go_wp2_with fail
  refine (HUQ.out _ B5).mono ?_
  rintro e wb ⟨au, cu, rfl, hbu, bb⟩
  have HKB : Hid (Box (wb.alloc (.cells #[.int .i64 U.x.v, .int .i64 U.x.k, .int .i64 U.x.s, .int .i64 U.x.p, .int .i64 U.x.t, .int .i64 U.x.a, .int .i64 U.x.l, .int .i64 U.x.c, .int .i64 U.x.n, .int .i64 U.x.i, .string U.nm, .slice au U.l.length cu] 24)) w.heap.size r.x r.nm (.slice ao r.l.length cap) ∧ Box (wb.alloc (.cells #[.int .i64 U.x.v, .int .i64 U.x.k, .int .i64 U.x.s, .int .i64 U.x.p, .int .i64 U.x.t, .int .i64 U.x.a, .int .i64 U.x.l, .int .i64 U.x.c, .int .i64 U.x.n, .int .i64 U.x.i, .string U.nm, .slice au U.l.length cu] 24)) (w.heap.size + 1) q.x q.nm (.slice aq q.l.length cq) ∧ Below w.heap.size w (wb.alloc (.cells #[.int .i64 U.x.v, .int .i64 U.x.k, .int .i64 U.x.s, .int .i64 U.x.p, .int .i64 U.x.t, .int .i64 U.x.a, .int .i64 U.x.l, .int .i64 U.x.c, .int .i64 U.x.n, .int .i64 U.x.i, .string U.nm, .slice au U.l.length cu] 24)) ∧ Box (wb.alloc (.cells #[.int .i64 U.x.v, .int .i64 U.x.k, .int .i64 U.x.s, .int .i64 U.x.p, .int .i64 U.x.t, .int .i64 U.x.a, .int .i64 U.x.l, .int .i64 U.x.c, .int .i64 U.x.n, .int .i64 U.x.i, .string U.nm, .slice au U.l.length cu] 24)) wb.heap.size U.x U.nm (.slice au U.l.length cu) ∧ Bs (wb.alloc (.cells #[.int .i64 U.x.v, .int .i64 U.x.k, .int .i64 U.x.s, .int .i64 U.x.p, .int .i64 U.x.t, .int .i64 U.x.a, .int .i64 U.x.l, .int .i64 U.x.c, .int .i64 U.x.n, .int .i64 U.x.i, .string U.nm, .slice au U.l.length cu] 24)) (.slice au U.l.length cu) U.l) := ⟨(hr5.kept bb).kept (up0 _ _), (hq5.kept bb).kept (up0 _ _), up (andThen B5 bb) _, Array.getElem?_push_size, hbu.alloc _⟩
  clear c0 c1 c2 c3 c4 c5 c6 c7 c8 c9 c10 c11 e0 e1 e2 e3 e4 e5 e6 e7 e8 e9 e10 e11 hr5 hq5 ha5 hba5 B5 bb HUQ hbu
  go_wp2_with fail
  refine (lnum_any 40 _).mono ?_
  rintro e wc ⟨rfl, rfl⟩
  have HKB' := HKB.out
  clear HKB
  generalize wb.alloc (.cells #[.int .i64 U.x.v, .int .i64 U.x.k, .int .i64 U.x.s, .int .i64 U.x.p, .int .i64 U.x.t, .int .i64 U.x.a, .int .i64 U.x.l, .int .i64 U.x.c, .int .i64 U.x.n, .int .i64 U.x.i, .string U.nm, .slice au U.l.length cu] 24) = WC at HKB' ⊢
  generalize wb.heap.size = gu at HKB' ⊢
  obtain ⟨hrc, hqc, Bc, huc, hbuc⟩ := HKB'
  have cv := hrc.cells.1
  have cw := hqc.cells.1
  clear hrc hqc huc hbuc
  go_wp2
  go_ret
  exact ⟨rfl, Bc⟩
set_option maxRecDepth 100000 in
set_option maxHeartbeats 4000000 in
theorem lloss_l2 (to : Int) (r q : Rec) (d dq : Value) (w : World) (h : Bs w d r.l) (hq : Bs w dq q.l) (hT : LTabs w) (hnm : r.nm.size ≤ 1048576) (hqm : q.nm.size ≤ 1048576) (hf : r.x.fit) (hqf : q.x.fit) (hc : chkR r = 0) (hv : ¬ to < 1) (hd : (downP to r).1 = 40) (hlt : to < r.x.v) (hne : q.x.v = to) (hu : (upP r.x.v q).1 ≠ 0) :
    Calls Tryd.prog 8 #[rv r.x r.nm d, rv q.x q.nm dq, .int .i64 to] w fun e w' => e = .returned (.bool true) ∧ Below w.heap.size w w' := by
  have HX : Hid (∀ o1 o2, ((w.alloc o1).alloc o2).heap[w.heap.size]? = some o1 ∧ ((w.alloc o1).alloc o2).heap[w.heap.size + 1]? = some o2 ∧ Below w.heap.size w ((w.alloc o1).alloc o2)) := fun o1 o2 => heap2 w o1 o2
  have HST : Hid (∀ w', Below w.heap.size w w' → Calls Tryd.prog 24 #[] w' fun e w'' => e = .returned (.bool true) ∧ Below w'.heap.size w' w'') := fun w' hb => lstarted_any w' (hT.kept hb)
  have HDN : Hid (∀ w', Below w.heap.size w w' → Calls Tryd.prog 26 #[rv r.x r.nm d, .int .i64 to] w' fun e w'' => ∃ ao, ∃ cap : Nat, e = .returned (.tuple #[rv (downP to r).2.x (downP to r).2.nm (.slice ao (downP to r).2.l.length cap), .int .i64 (downP to r).1]) ∧ Bs w'' (.slice ao (downP to r).2.l.length cap) (downP to r).2.l ∧ Below w'.heap.size w' w'') := fun w' hb => down_any to r d w' (h.kept hb) (hT.kept hb) hnm hf
  rw [hd] at HDN
  have HRC : Hid (∀ w', Below w.heap.size w w' → Calls Tryd.prog 13 #[rv r.x r.nm d] w' fun e w'' => e = .returned (.int .i64 (chkR r)) ∧ Below w'.heap.size w' w'') := fun w' hb => refcheck_any r.x r.nm d r.l w' (h.kept hb) (hT.kept hb).tabs.rlets (hT.kept hb).tabs.rows hf.c (by omega)
  rw [hc] at HRC
  have HUQ : Hid (∀ w', Below w.heap.size w w' → Calls Tryd.prog 23 #[rv q.x q.nm dq, .int .i64 r.x.v] w' fun e w'' => ∃ ao, ∃ cap : Nat, e = .returned (.tuple #[rv (upP r.x.v q).2.x (upP r.x.v q).2.nm (.slice ao (upP r.x.v q).2.l.length cap), .int .i64 (upP r.x.v q).1]) ∧ Bs w'' (.slice ao (upP r.x.v q).2.l.length cap) (upP r.x.v q).2.l ∧ Below w'.heap.size w' w'') := fun w' hb => up_any r.x.v q dq w' (hq.kept hb) (hT.kept hb) hqm hqf
  obtain ⟨ao, cap, rfl, _⟩ := h.shape
  obtain ⟨aq, cq, rfl, _⟩ := hq.shape
  clear h hq hT hd hc hf hqf
  generalize (downP to r).2 = A at *
  have dq : (q.x.v != to) = false := by rw [hne]; simp
  have dz : ((upP r.x.v q).1 != 0) = true := by rw [bne_iff_ne]; exact hu
  clear hne hu
  generalize (upP r.x.v q).1 = uz at *
  generalize (upP r.x.v q).2 = U at *
  unfold rv at *
  go_enter Tryd.func8, Tryd.ntmps8
  go_wp2_with fail
  refine (HDN.out _ (HX.out _ _).2.2).mono ?_
  rintro e w2 ⟨aa, ca, rfl, hba, b2⟩
  have HK : Hid (Box (w2.alloc (.cells #[.int .i64 A.x.v, .int .i64 A.x.k, .int .i64 A.x.s, .int .i64 A.x.p, .int .i64 A.x.t, .int .i64 A.x.a, .int .i64 A.x.l, .int .i64 A.x.c, .int .i64 A.x.n, .int .i64 A.x.i, .string A.nm, .slice aa A.l.length ca] 24)) w.heap.size r.x r.nm (.slice ao r.l.length cap) ∧ Box (w2.alloc (.cells #[.int .i64 A.x.v, .int .i64 A.x.k, .int .i64 A.x.s, .int .i64 A.x.p, .int .i64 A.x.t, .int .i64 A.x.a, .int .i64 A.x.l, .int .i64 A.x.c, .int .i64 A.x.n, .int .i64 A.x.i, .string A.nm, .slice aa A.l.length ca] 24)) (w.heap.size + 1) q.x q.nm (.slice aq q.l.length cq) ∧ Box (w2.alloc (.cells #[.int .i64 A.x.v, .int .i64 A.x.k, .int .i64 A.x.s, .int .i64 A.x.p, .int .i64 A.x.t, .int .i64 A.x.a, .int .i64 A.x.l, .int .i64 A.x.c, .int .i64 A.x.n, .int .i64 A.x.i, .string A.nm, .slice aa A.l.length ca] 24)) w2.heap.size A.x A.nm (.slice aa A.l.length ca) ∧ Bs (w2.alloc (.cells #[.int .i64 A.x.v, .int .i64 A.x.k, .int .i64 A.x.s, .int .i64 A.x.p, .int .i64 A.x.t, .int .i64 A.x.a, .int .i64 A.x.l, .int .i64 A.x.c, .int .i64 A.x.n, .int .i64 A.x.i, .string A.nm, .slice aa A.l.length ca] 24)) (.slice aa A.l.length ca) A.l ∧ Below w.heap.size w (w2.alloc (.cells #[.int .i64 A.x.v, .int .i64 A.x.k, .int .i64 A.x.s, .int .i64 A.x.p, .int .i64 A.x.t, .int .i64 A.x.a, .int .i64 A.x.l, .int .i64 A.x.c, .int .i64 A.x.n, .int .i64 A.x.i, .string A.nm, .slice aa A.l.length ca] 24))) := ⟨Box.kept (Box.kept (HX.out _ _).1 b2) (up0 _ _), Box.kept (Box.kept (HX.out _ _).2.1 b2) (up0 _ _), Array.getElem?_push_size, hba.alloc _, up (andThen (HX.out _ _).2.2 b2) _⟩
  clear b2 HX HDN hba
  go_wp2_with fail
  refine (HST.out _ HK.out.2.2.2.2).mono ?_
  rintro e w4 ⟨rfl, b4⟩
  have HK4 : Box w4 w.heap.size r.x r.nm (.slice ao r.l.length cap) ∧ Box w4 (w.heap.size + 1) q.x q.nm (.slice aq q.l.length cq) ∧ Box w4 w2.heap.size A.x A.nm (.slice aa A.l.length ca) ∧ Bs w4 (.slice aa A.l.length ca) A.l ∧ Below w.heap.size w w4 := ⟨HK.out.1.kept b4, HK.out.2.1.kept b4, HK.out.2.2.1.kept b4, HK.out.2.2.2.1.kept b4, andThen HK.out.2.2.2.2 b4⟩
  clear HK b4 HST
  generalize w2.heap.size = ga at HK4 ⊢
  obtain ⟨hr4, hq4, ha4, hba4, B4⟩ := HK4
  obtain ⟨c0, c1, c2, c3, c4, c5, c6, c7, c8, c9, c10, c11⟩ := hr4.cells
  go_wp2_with fail
  refine (HRC.out _ B4).mono ?_
  rintro e w5 ⟨rfl, b5⟩
  have hr5 := hr4.kept b5
  have hq5 := hq4.kept b5
  have ha5 := ha4.kept b5
  have hba5 := hba4.kept b5
  have B5 := andThen B4 b5
  clear c0 c1 c2 c3 c4 c5 c6 c7 c8 c9 c10 c11 hr4 hq4 ha4 hba4 B4 b5 HRC
  obtain ⟨c0, c1, c2, c3, c4, c5, c6, c7, c8, c9, c10, c11⟩ := hr5.cells
  go_wp2_with fail
  refine (lnum_any 40 _).mono ?_
  rintro e w6 ⟨rfl, rfl⟩
  obtain ⟨e0, e1, e2, e3, e4, e5, e6, e7, e8, e9, e10, e11⟩ := hq5.cells
  go_wp2_with fail
  refine (HUQ.out _ B5).mono ?_
  rintro e wb ⟨au, cu, rfl, hbu, bb⟩
  have HKB : Hid (Box (wb.alloc (.cells #[.int .i64 U.x.v, .int .i64 U.x.k, .int .i64 U.x.s, .int .i64 U.x.p, .int .i64 U.x.t, .int .i64 U.x.a, .int .i64 U.x.l, .int .i64 U.x.c, .int .i64 U.x.n, .int .i64 U.x.i, .string U.nm, .slice au U.l.length cu] 24)) w.heap.size r.x r.nm (.slice ao r.l.length cap) ∧ Box (wb.alloc (.cells #[.int .i64 U.x.v, .int .i64 U.x.k, .int .i64 U.x.s, .int .i64 U.x.p, .int .i64 U.x.t, .int .i64 U.x.a, .int .i64 U.x.l, .int .i64 U.x.c, .int .i64 U.x.n, .int .i64 U.x.i, .string U.nm, .slice au U.l.length cu] 24)) (w.heap.size + 1) q.x q.nm (.slice aq q.l.length cq) ∧ Below w.heap.size w (wb.alloc (.cells #[.int .i64 U.x.v, .int .i64 U.x.k, .int .i64 U.x.s, .int .i64 U.x.p, .int .i64 U.x.t, .int .i64 U.x.a, .int .i64 U.x.l, .int .i64 U.x.c, .int .i64 U.x.n, .int .i64 U.x.i, .string U.nm, .slice au U.l.length cu] 24)) ∧ Box (wb.alloc (.cells #[.int .i64 U.x.v, .int .i64 U.x.k, .int .i64 U.x.s, .int .i64 U.x.p, .int .i64 U.x.t, .int .i64 U.x.a, .int .i64 U.x.l, .int .i64 U.x.c, .int .i64 U.x.n, .int .i64 U.x.i, .string U.nm, .slice au U.l.length cu] 24)) wb.heap.size U.x U.nm (.slice au U.l.length cu) ∧ Bs (wb.alloc (.cells #[.int .i64 U.x.v, .int .i64 U.x.k, .int .i64 U.x.s, .int .i64 U.x.p, .int .i64 U.x.t, .int .i64 U.x.a, .int .i64 U.x.l, .int .i64 U.x.c, .int .i64 U.x.n, .int .i64 U.x.i, .string U.nm, .slice au U.l.length cu] 24)) (.slice au U.l.length cu) U.l) := ⟨(hr5.kept bb).kept (up0 _ _), (hq5.kept bb).kept (up0 _ _), up (andThen B5 bb) _, Array.getElem?_push_size, hbu.alloc _⟩
  clear c0 c1 c2 c3 c4 c5 c6 c7 c8 c9 c10 c11 e0 e1 e2 e3 e4 e5 e6 e7 e8 e9 e10 e11 hr5 hq5 ha5 hba5 B5 bb HUQ hbu
  go_wp2_with fail
  refine (lnum_any 40 _).mono ?_
  rintro e wc ⟨rfl, rfl⟩
  have HKB' := HKB.out
  clear HKB
  generalize wb.alloc (.cells #[.int .i64 U.x.v, .int .i64 U.x.k, .int .i64 U.x.s, .int .i64 U.x.p, .int .i64 U.x.t, .int .i64 U.x.a, .int .i64 U.x.l, .int .i64 U.x.c, .int .i64 U.x.n, .int .i64 U.x.i, .string U.nm, .slice au U.l.length cu] 24) = WC at HKB' ⊢
  generalize wb.heap.size = gu at HKB' ⊢
  obtain ⟨hrc, hqc, Bc, huc, hbuc⟩ := HKB'
  have cv := hrc.cells.1
  have cw := hqc.cells.1
  clear hrc hqc huc hbuc
  go_wp2_with fail
  refine (lnum_any _ _).mono ?_
  rintro e wd ⟨rfl, rfl⟩
  go_wp2
  go_ret
  exact ⟨rfl, Bc⟩
set_option maxRecDepth 100000 in
set_option maxHeartbeats 4000000 in
theorem lloss_l3 (to : Int) (r q : Rec) (d dq : Value) (w : World) (h : Bs w d r.l) (hq : Bs w dq q.l) (hT : LTabs w) (hnm : r.nm.size ≤ 1048576) (hqm : q.nm.size ≤ 1048576) (hf : r.x.fit) (hqf : q.x.fit) (hc : chkR r = 0) (hv : ¬ to < 1) (hd : (downP to r).1 = 40) (hlt : to < r.x.v) (hne : q.x.v = to) (hu : (upP r.x.v q).1 = 0) (heq : eqR (upP r.x.v q).2 r = false) :
    Calls Tryd.prog 8 #[rv r.x r.nm d, rv q.x q.nm dq, .int .i64 to] w fun e w' => e = .returned (.bool true) ∧ Below w.heap.size w w' := by
  have HX : Hid (∀ o1 o2, ((w.alloc o1).alloc o2).heap[w.heap.size]? = some o1 ∧ ((w.alloc o1).alloc o2).heap[w.heap.size + 1]? = some o2 ∧ Below w.heap.size w ((w.alloc o1).alloc o2)) := fun o1 o2 => heap2 w o1 o2
  have HST : Hid (∀ w', Below w.heap.size w w' → Calls Tryd.prog 24 #[] w' fun e w'' => e = .returned (.bool true) ∧ Below w'.heap.size w' w'') := fun w' hb => lstarted_any w' (hT.kept hb)
  have HDN : Hid (∀ w', Below w.heap.size w w' → Calls Tryd.prog 26 #[rv r.x r.nm d, .int .i64 to] w' fun e w'' => ∃ ao, ∃ cap : Nat, e = .returned (.tuple #[rv (downP to r).2.x (downP to r).2.nm (.slice ao (downP to r).2.l.length cap), .int .i64 (downP to r).1]) ∧ Bs w'' (.slice ao (downP to r).2.l.length cap) (downP to r).2.l ∧ Below w'.heap.size w' w'') := fun w' hb => down_any to r d w' (h.kept hb) (hT.kept hb) hnm hf
  rw [hd] at HDN
  have HRC : Hid (∀ w', Below w.heap.size w w' → Calls Tryd.prog 13 #[rv r.x r.nm d] w' fun e w'' => e = .returned (.int .i64 (chkR r)) ∧ Below w'.heap.size w' w'') := fun w' hb => refcheck_any r.x r.nm d r.l w' (h.kept hb) (hT.kept hb).tabs.rlets (hT.kept hb).tabs.rows hf.c (by omega)
  rw [hc] at HRC
  have HUQ : Hid (∀ w', Below w.heap.size w w' → Calls Tryd.prog 23 #[rv q.x q.nm dq, .int .i64 r.x.v] w' fun e w'' => ∃ ao, ∃ cap : Nat, e = .returned (.tuple #[rv (upP r.x.v q).2.x (upP r.x.v q).2.nm (.slice ao (upP r.x.v q).2.l.length cap), .int .i64 (upP r.x.v q).1]) ∧ Bs w'' (.slice ao (upP r.x.v q).2.l.length cap) (upP r.x.v q).2.l ∧ Below w'.heap.size w' w'') := fun w' hb => up_any r.x.v q dq w' (hq.kept hb) (hT.kept hb) hqm hqf
  have HB : Hid (∀ w', Below w.heap.size w w' → Bs w' d r.l) := fun w' hb => h.kept hb
  have HSM : Hid (∀ (a b : Rec) (v1 v2 : Value) w', Bs w' v1 a.l → Bs w' v2 b.l → Calls Tryd.prog 14 #[rv a.x a.nm v1, rv b.x b.nm v2] w' fun e w'' => e = .returned (.bool (eqR a b)) ∧ Below w'.heap.size w' w'') := fun a b v1 v2 w' h1 h2 => refsame_any a.x b.x a.nm b.nm v1 v2 a.l b.l w' h1 h2
  obtain ⟨ao, cap, rfl, _⟩ := h.shape
  obtain ⟨aq, cq, rfl, _⟩ := hq.shape
  clear h hq hT hd hc hf hqf
  generalize (downP to r).2 = A at *
  have dq : (q.x.v != to) = false := by rw [hne]; simp
  rw [hu] at HUQ
  clear hne hu
  generalize (upP r.x.v q).2 = U at *
  have HS2 : Hid (∀ w' a2 (c2 : Nat), Bs w' (.slice a2 U.l.length c2) U.l → Bs w' (.slice ao r.l.length cap) r.l → Calls Tryd.prog 14 #[rv U.x U.nm (.slice a2 U.l.length c2), rv r.x r.nm (.slice ao r.l.length cap)] w' fun e w'' => e = .returned (.bool false) ∧ Below w'.heap.size w' w'') := fun w' a2 c2 h1 h2 => (HSM.out U r _ _ w' h1 h2).mono fun e w'' ⟨he, hk⟩ => ⟨by rw [he, heq], hk⟩
  clear heq HSM
  unfold rv at *
  go_enter Tryd.func8, Tryd.ntmps8
  go_wp2_with fail
  refine (HDN.out _ (HX.out _ _).2.2).mono ?_
  rintro e w2 ⟨aa, ca, rfl, hba, b2⟩
  have HK : Hid (Box (w2.alloc (.cells #[.int .i64 A.x.v, .int .i64 A.x.k, .int .i64 A.x.s, .int .i64 A.x.p, .int .i64 A.x.t, .int .i64 A.x.a, .int .i64 A.x.l, .int .i64 A.x.c, .int .i64 A.x.n, .int .i64 A.x.i, .string A.nm, .slice aa A.l.length ca] 24)) w.heap.size r.x r.nm (.slice ao r.l.length cap) ∧ Box (w2.alloc (.cells #[.int .i64 A.x.v, .int .i64 A.x.k, .int .i64 A.x.s, .int .i64 A.x.p, .int .i64 A.x.t, .int .i64 A.x.a, .int .i64 A.x.l, .int .i64 A.x.c, .int .i64 A.x.n, .int .i64 A.x.i, .string A.nm, .slice aa A.l.length ca] 24)) (w.heap.size + 1) q.x q.nm (.slice aq q.l.length cq) ∧ Box (w2.alloc (.cells #[.int .i64 A.x.v, .int .i64 A.x.k, .int .i64 A.x.s, .int .i64 A.x.p, .int .i64 A.x.t, .int .i64 A.x.a, .int .i64 A.x.l, .int .i64 A.x.c, .int .i64 A.x.n, .int .i64 A.x.i, .string A.nm, .slice aa A.l.length ca] 24)) w2.heap.size A.x A.nm (.slice aa A.l.length ca) ∧ Bs (w2.alloc (.cells #[.int .i64 A.x.v, .int .i64 A.x.k, .int .i64 A.x.s, .int .i64 A.x.p, .int .i64 A.x.t, .int .i64 A.x.a, .int .i64 A.x.l, .int .i64 A.x.c, .int .i64 A.x.n, .int .i64 A.x.i, .string A.nm, .slice aa A.l.length ca] 24)) (.slice aa A.l.length ca) A.l ∧ Below w.heap.size w (w2.alloc (.cells #[.int .i64 A.x.v, .int .i64 A.x.k, .int .i64 A.x.s, .int .i64 A.x.p, .int .i64 A.x.t, .int .i64 A.x.a, .int .i64 A.x.l, .int .i64 A.x.c, .int .i64 A.x.n, .int .i64 A.x.i, .string A.nm, .slice aa A.l.length ca] 24))) := ⟨Box.kept (Box.kept (HX.out _ _).1 b2) (up0 _ _), Box.kept (Box.kept (HX.out _ _).2.1 b2) (up0 _ _), Array.getElem?_push_size, hba.alloc _, up (andThen (HX.out _ _).2.2 b2) _⟩
  clear b2 HX HDN hba
  go_wp2_with fail
  refine (HST.out _ HK.out.2.2.2.2).mono ?_
  rintro e w4 ⟨rfl, b4⟩
  have HK4 : Box w4 w.heap.size r.x r.nm (.slice ao r.l.length cap) ∧ Box w4 (w.heap.size + 1) q.x q.nm (.slice aq q.l.length cq) ∧ Box w4 w2.heap.size A.x A.nm (.slice aa A.l.length ca) ∧ Bs w4 (.slice aa A.l.length ca) A.l ∧ Below w.heap.size w w4 := ⟨HK.out.1.kept b4, HK.out.2.1.kept b4, HK.out.2.2.1.kept b4, HK.out.2.2.2.1.kept b4, andThen HK.out.2.2.2.2 b4⟩
  clear HK b4 HST
  generalize w2.heap.size = ga at HK4 ⊢
  obtain ⟨hr4, hq4, ha4, hba4, B4⟩ := HK4
  obtain ⟨c0, c1, c2, c3, c4, c5, c6, c7, c8, c9, c10, c11⟩ := hr4.cells
  go_wp2_with fail
  refine (HRC.out _ B4).mono ?_
  rintro e w5 ⟨rfl, b5⟩
  have hr5 := hr4.kept b5
  have hq5 := hq4.kept b5
  have ha5 := ha4.kept b5
  have hba5 := hba4.kept b5
  have B5 := andThen B4 b5
  clear c0 c1 c2 c3 c4 c5 c6 c7 c8 c9 c10 c11 hr4 hq4 ha4 hba4 B4 b5 HRC
  obtain ⟨c0, c1, c2, c3, c4, c5, c6, c7, c8, c9, c10, c11⟩ := hr5.cells
  go_wp2_with fail
  refine (lnum_any 40 _).mono ?_
  rintro e w6 ⟨rfl, rfl⟩
  obtain ⟨e0, e1, e2, e3, e4, e5, e6, e7, e8, e9, e10, e11⟩ := hq5.cells
  go_wp2_with fail
  refine (HUQ.out _ B5).mono ?_
  rintro e wb ⟨au, cu, rfl, hbu, bb⟩
  have HKB : Hid (Box (wb.alloc (.cells #[.int .i64 U.x.v, .int .i64 U.x.k, .int .i64 U.x.s, .int .i64 U.x.p, .int .i64 U.x.t, .int .i64 U.x.a, .int .i64 U.x.l, .int .i64 U.x.c, .int .i64 U.x.n, .int .i64 U.x.i, .string U.nm, .slice au U.l.length cu] 24)) w.heap.size r.x r.nm (.slice ao r.l.length cap) ∧ Box (wb.alloc (.cells #[.int .i64 U.x.v, .int .i64 U.x.k, .int .i64 U.x.s, .int .i64 U.x.p, .int .i64 U.x.t, .int .i64 U.x.a, .int .i64 U.x.l, .int .i64 U.x.c, .int .i64 U.x.n, .int .i64 U.x.i, .string U.nm, .slice au U.l.length cu] 24)) (w.heap.size + 1) q.x q.nm (.slice aq q.l.length cq) ∧ Below w.heap.size w (wb.alloc (.cells #[.int .i64 U.x.v, .int .i64 U.x.k, .int .i64 U.x.s, .int .i64 U.x.p, .int .i64 U.x.t, .int .i64 U.x.a, .int .i64 U.x.l, .int .i64 U.x.c, .int .i64 U.x.n, .int .i64 U.x.i, .string U.nm, .slice au U.l.length cu] 24)) ∧ Box (wb.alloc (.cells #[.int .i64 U.x.v, .int .i64 U.x.k, .int .i64 U.x.s, .int .i64 U.x.p, .int .i64 U.x.t, .int .i64 U.x.a, .int .i64 U.x.l, .int .i64 U.x.c, .int .i64 U.x.n, .int .i64 U.x.i, .string U.nm, .slice au U.l.length cu] 24)) wb.heap.size U.x U.nm (.slice au U.l.length cu) ∧ Bs (wb.alloc (.cells #[.int .i64 U.x.v, .int .i64 U.x.k, .int .i64 U.x.s, .int .i64 U.x.p, .int .i64 U.x.t, .int .i64 U.x.a, .int .i64 U.x.l, .int .i64 U.x.c, .int .i64 U.x.n, .int .i64 U.x.i, .string U.nm, .slice au U.l.length cu] 24)) (.slice au U.l.length cu) U.l) := ⟨(hr5.kept bb).kept (up0 _ _), (hq5.kept bb).kept (up0 _ _), up (andThen B5 bb) _, Array.getElem?_push_size, hbu.alloc _⟩
  clear c0 c1 c2 c3 c4 c5 c6 c7 c8 c9 c10 c11 e0 e1 e2 e3 e4 e5 e6 e7 e8 e9 e10 e11 hr5 hq5 ha5 hba5 B5 bb HUQ hbu
  go_wp2_with fail
  refine (lnum_any 40 _).mono ?_
  rintro e wc ⟨rfl, rfl⟩
  have HKB' := HKB.out
  clear HKB
  generalize wb.alloc (.cells #[.int .i64 U.x.v, .int .i64 U.x.k, .int .i64 U.x.s, .int .i64 U.x.p, .int .i64 U.x.t, .int .i64 U.x.a, .int .i64 U.x.l, .int .i64 U.x.c, .int .i64 U.x.n, .int .i64 U.x.i, .string U.nm, .slice au U.l.length cu] 24) = WC at HKB' ⊢
  generalize wb.heap.size = gu at HKB' ⊢
  obtain ⟨hrc, hqc, Bc, huc, hbuc⟩ := HKB'
  have cv := hrc.cells.1
  have cw := hqc.cells.1
  go_wp2_with fail
  refine (lnum_any 0 _).mono ?_
  rintro e wd ⟨rfl, rfl⟩
  clear cv
  obtain ⟨c0, c1, c2, c3, c4, c5, c6, c7, c8, c9, c10, c11⟩ := hrc.cells
  obtain ⟨e0, e1, e2, e3, e4, e5, e6, e7, e8, e9, e10, e11⟩ := huc.cells
  go_wp2_with fail
  refine (HS2.out _ _ _ hbuc (HB.out _ Bc)).mono ?_
  rintro e we ⟨rfl, be⟩
  have Be := andThen Bc be
  clear c0 c1 c2 c3 c4 c5 c6 c7 c8 c9 c10 c11 e0 e1 e2 e3 e4 e5 e6 e7 e8 e9 e10 e11
  go_wp2
  go_ret
  exact ⟨rfl, Be⟩
theorem lloss_any (to : Int) (r q : Rec) (d dq : Value) (w : World) (h : Bs w d r.l) (hq : Bs w dq q.l) (hT : LTabs w) (hnm : r.nm.size ≤ 1048576) (hqm : q.nm.size ≤ 1048576) (hf : r.x.fit) (hqf : q.x.fit) :
    Calls Tryd.prog 8 #[rv r.x r.nm d, rv q.x q.nm dq, .int .i64 to] w fun e w' => e = .returned (.bool true) ∧ Below w.heap.size w w' := by
  by_cases hc : chkR r = 0
  · by_cases hv : to < 1
    · exact lloss_e2 to r q d dq w h hq hT hnm hf hc hv
    · by_cases h3 : r.x.v < to
      · exact lloss_e3 to r q d dq w h hq hT hnm hf hc hv h3
      · have hvv := (chk_exp r.x r.nm r.l).1 hc
        by_cases he : carP r.x.v (carP to r) = r
        · have hd : (downP to r).1 = 0 := by rw [down_good hc (by omega) (by omega) (by omega) he]
          exact lloss_ok to r q d dq w h hq hT hnm hf hc hv h3 hd
        · have hd : (downP to r).1 = 40 := by rw [down_lossy hc (by omega) (by omega) (by omega) he]
          have hlt : to < r.x.v := by
            by_cases h4 : to = r.x.v
            · exfalso
              apply he
              have e1 : carP r.x.v r = r := by
                obtain h1 | h1 | h1 : r.x.v = 1 ∨ r.x.v = 2 ∨ r.x.v = 3 := by omega
                · rw [h1, car11 r h1]
                · rw [h1, car22 r h1]
                · rw [h1, car33 r h1]
              rw [h4, e1, e1]
            · omega
          by_cases hne : q.x.v = to
          · by_cases hu : (upP r.x.v q).1 = 0
            · have heq : eqR (upP r.x.v q).2 r = false := by
                rw [← Bool.not_eq_true, eqR_iff]
                intro hh
                have hz := up_zero hu
                rw [hz.2.2.2.2] at hh
                have h9 := (up_back q r.x.v hq.good hz.1 hz.2.2.2.1 (by omega)).2.2.2.2
                apply he
                have h10 : carP to r = q := by
                  conv => lhs; rw [← hh, ← hne]
                  exact h9
                rw [h10, hh]
              exact lloss_l3 to r q d dq w h hq hT hnm hqm hf hqf hc hv hd hlt hne hu heq
            · exact lloss_l2 to r q d dq w h hq hT hnm hqm hf hqf hc hv hd hlt hne hu
          · exact lloss_l1 to r q d dq w h hq hT hnm hqm hf hqf hc hv hd hlt hne
  · exact lloss_e1 to r q d dq w h hq hT hnm hf hc
end Go.Proofs.YtfkpdmmgjgchjaaDoor
