import Derived.Test.YtfkpdmmgjgchjabDoorQC1
/-
  Package lift: Least; LiftChain: the law's walk.
-/
namespace Go.Proofs.YtfkpdmmgjgchjabDoor
open Go Go.RowKit
open Wb

set_option maxRecDepth 100000 in
set_option maxHeartbeats 1000000 in
theorem least_e (r : Rec) (d : Value) (w : World) (h : Bs w d r.l) (hT : LTabs w) (hnm : r.nm.size ≤ 1048576) (hc : chkR r ≠ 0) :
    Calls Tryd.prog 6 #[rv r.x r.nm d] w fun e w' => e = .returned (.tuple #[.int .i64 0, .int .i64 (chkR r)]) ∧ Below w.heap.size w w' := by
  have HX : Hid (∀ o, Below w.heap.size w (w.alloc o)) := fun o => up0 w o
  have HCK : Hid (∀ w', Below w.heap.size w w' → Calls Tryd.prog 14 #[rv r.x r.nm d] w' fun e w'' => e = .returned (.int .i64 (chkR r)) ∧ Below w'.heap.size w' w'') := fun w' hb' => check_any r.x r.nm d r.l w' (h.kept hb') (hT.kept hb').tabs.lets (hT.kept hb').tabs.tags (by omega)
  obtain ⟨ao, cap, rfl, _⟩ := h.shape
  have d1 : (chkR r != 0) = true := by rw [bne_iff_ne]; exact hc
  clear h hT hc
  generalize chkR r = z at *
  unfold rv at *
  go_enter Tryd.func6, Tryd.ntmps6
  go_wp2_with fail
  refine (HCK.out _ (HX.out _)).mono ?_
  rintro e w1 ⟨rfl, b1⟩
  have B1 := andThen (HX.out _) b1
  clear b1
  go_wp2
  go_ret2
  exact ⟨rfl, B1⟩
set_option maxRecDepth 100000 in
set_option maxHeartbeats 4000000 in
theorem least_ok (r : Rec) (d : Value) (w : World) (h : Bs w d r.l) (hT : LTabs w) (hnm : r.nm.size ≤ 1048576) (hf : r.x.fit) (hc : chkR r = 0) :
    Calls Tryd.prog 6 #[rv r.x r.nm d] w fun e w' => e = .returned (.tuple #[.int .i64 (leastP r), .int .i64 0]) ∧ Below w.heap.size w w' := by
  have HX : Hid (∀ o, (w.alloc o).heap[w.heap.size]? = some o ∧ Below w.heap.size w (w.alloc o)) := fun o => ⟨Array.getElem?_push_size, up0 w o⟩
  have HCK : Hid (∀ w', Below w.heap.size w w' → Calls Tryd.prog 14 #[rv r.x r.nm d] w' fun e w'' => e = .returned (.int .i64 0) ∧ Below w'.heap.size w' w'') := fun w' hb' => by
    have := check_any r.x r.nm d r.l w' (h.kept hb') (hT.kept hb').tabs.lets (hT.kept hb').tabs.tags (by omega)
    rw [show chk r.x r.nm r.l = 0 from hc] at this
    exact this
  have HDN : Hid (∀ (v : Int) w', Below w.heap.size w w' → Calls Tryd.prog 8 #[rv r.x r.nm d, .int .i64 v] w' fun e w'' => ∃ ao, ∃ cap : Nat, e = .returned (.tuple #[rv (downP v r).2.x (downP v r).2.nm (.slice ao (downP v r).2.l.length cap), .int .i64 (downP v r).1]) ∧ Below w'.heap.size w' w'') := fun v w' hb' => (down_any v r d w' (h.kept hb') (hT.kept hb') hnm hf).mono fun e w'' ⟨ao, cap, he, _, hk⟩ => ⟨ao, cap, he, hk⟩
  have hvv := ((chk_exp r.x r.nm r.l).1 hc).1
  obtain ⟨A, hA⟩ : ∃ A, leastP r = A := ⟨_, rfl⟩
  have HA : Hid (leastF r 3 1 = A) := hA
  rw [hA]
  obtain ⟨ao, cap, rfl, _⟩ := h.shape
  clear h hT hc hA
  unfold rv at *
  go_enter Tryd.func6, Tryd.ntmps6
  go_wp2_with fail
  refine (HCK.out _ (HX.out _).2).mono ?_
  rintro e w1 ⟨rfl, b1⟩
  have hbx : Box w1 w.heap.size r.x r.nm (.slice ao r.l.length cap) := Box.kept (HX.out _).1 b1
  have B1 := andThen (HX.out _).2 b1
  clear b1 HX HCK
  go_wp2
  go_loopw [5] (fun i wr => ∃ k : Nat, 1 ≤ k ∧ k ≤ 3 ∧ i = .int .i64 (k : Int) ∧ leastF r (4 - k) (k : Int) = A ∧ Box wr w.heap.size r.x r.nm (.slice ao r.l.length cap) ∧ Below w.heap.size w wr) (fun i _ => 4 - (intOf i).toNat)
  case atStart => exact ⟨1, by omega, by omega, rfl, HA.out, hbx, B1⟩
  case round =>
    obtain ⟨k, hk1, hk3, rfl, hlk, hbk, hbel⟩ := hrel
    have HLK : Hid (leastF r (4 - k) (k : Int) = A) := hlk
    clear hlk HA hbx B1
    by_cases hlt : (k : Int) < r.x.v
    · have HS : Hid ((if (downP (k : Int) r).1 = 0 then (k : Int) else leastF r (4 - (k + 1)) ((k + 1 : Nat) : Int)) = A) := by
        show _ = _
        rw [← HLK.out, show 4 - k = (4 - (k + 1)) + 1 by omega]
        show _ = (if (k : Int) < r.x.v then (if (downP (k : Int) r).1 = 0 then (k : Int) else leastF r (4 - (k + 1)) ((k : Int) + 1)) else (k : Int))
        rw [if_pos hlt]
        rfl
      have HD1 : Hid (∀ w', Below w.heap.size w w' → Calls Tryd.prog 8 #[.agg #[.int .i64 r.x.v, .int .i64 r.x.k, .int .i64 r.x.s, .int .i64 r.x.p, .int .i64 r.x.t, .int .i64 r.x.a, .int .i64 r.x.l, .int .i64 r.x.c, .int .i64 r.x.n, .int .i64 r.x.i, .string r.nm, .slice ao r.l.length cap], .int .i64 (k : Int)] w' fun e w'' => ∃ ao, ∃ cap : Nat, e = .returned (.tuple #[.agg (#[.int .i64 (downP (k : Int) r).2.x.v, .int .i64 (downP (k : Int) r).2.x.k, .int .i64 (downP (k : Int) r).2.x.s, .int .i64 (downP (k : Int) r).2.x.p, .int .i64 (downP (k : Int) r).2.x.t, .int .i64 (downP (k : Int) r).2.x.a, .int .i64 (downP (k : Int) r).2.x.l, .int .i64 (downP (k : Int) r).2.x.c, .int .i64 (downP (k : Int) r).2.x.n, .int .i64 (downP (k : Int) r).2.x.i, .string (downP (k : Int) r).2.nm, .slice ao (downP (k : Int) r).2.l.length cap]), .int .i64 (downP (k : Int) r).1]) ∧ Below w'.heap.size w' w'') := fun w' hb => HDN.out (k : Int) w' hb
      clear HLK HDN
      generalize (downP (k : Int) r).2 = D at *
      obtain ⟨c0, c1, c2, c3, c4, c5, c6, c7, c8, c9, c10, c11⟩ := hbk.cells
      by_cases hz : (downP (k : Int) r).1 = 0
      · have HE : Hid ((k : Int) = A) := by show _ = _; rw [← HS.out, if_pos hz]
        rw [hz] at HD1
        clear hz HS
        go_wp2_with fail
        refine (HD1.out _ hbel).mono ?_
        rintro e w2 ⟨ao2, cap2, rfl, b2⟩
        have B2 : Hid (∀ o, Below w.heap.size w (w2.alloc o)) := fun o => up (andThen hbel b2) o
        clear c0 c1 c2 c3 c4 c5 c6 c7 c8 c9 c10 c11 b2 hbk hbel
        go_wp2
        go_ret2
        exact ⟨by rw [← HE.out]; rfl, B2.out _⟩
      · have HE : Hid (leastF r (4 - (k + 1)) ((k + 1 : Nat) : Int) = A) := by show _ = _; rw [← HS.out, if_neg hz]
        have dz : ((downP (k : Int) r).1 == 0) = false := by rw [beq_eq_false_iff_ne]; exact hz
        clear hz HS
        generalize (downP (k : Int) r).1 = ez at *
        go_wp2_with fail
        refine (HD1.out _ hbel).mono ?_
        rintro e w2 ⟨ao2, cap2, rfl, b2⟩
        have B2 : Hid (∀ o, Below w.heap.size w (w2.alloc o) ∧ Box (w2.alloc o) w.heap.size r.x r.nm (.slice ao r.l.length cap)) := fun o => ⟨up (andThen hbel b2) o, (hbk.kept b2).kept (up0 _ _)⟩
        clear c0 c1 c2 c3 c4 c5 c6 c7 c8 c9 c10 c11 b2 hbk hbel
        go_wp2
        go_roundw
        case rel => exact ⟨k + 1, by omega, by omega, by go_num, HE.out, (B2.out _).2, (B2.out _).1⟩
        case measure => simp [intOf]; omega
    · have HE : Hid ((k : Int) = A) := by
        show _ = _
        rw [← HLK.out, show 4 - k = (3 - k) + 1 by omega]
        show _ = (if (k : Int) < r.x.v then _ else (k : Int))
        rw [if_neg hlt]
      have c0 := hbk.cells.1
      clear HLK HDN hbk
      go_wp2
      go_ret2
      exact ⟨by rw [← HE.out]; rfl, hbel⟩
set_option maxRecDepth 100000 in
set_option maxHeartbeats 8000000 in
theorem lchain_e (r : Rec) (d : Value) (w : World) (h : Bs w d r.l) (hT : LTabs w) (hnm : r.nm.size ≤ 1048576) (hf : r.x.fit) (hc : chkR r ≠ 0) :
    Calls Tryd.prog 3 #[rv r.x r.nm d] w fun e w' => e = .returned (.bool true) ∧ Below w.heap.size w w' := by
  have HX : Hid (∀ o, (w.alloc o).heap[w.heap.size]? = some o ∧ Below w.heap.size w (w.alloc o)) := fun o => ⟨Array.getElem?_push_size, up0 w o⟩
  have HST : Hid (∀ w', Below w.heap.size w w' → Calls Tryd.prog 4 #[] w' fun e w'' => e = .returned (.bool true) ∧ Below w'.heap.size w' w'') := fun w' hb => lstarted_any w' (hT.kept hb)
  have HRC : Hid (∀ w', Below w.heap.size w w' → Calls Tryd.prog 5 #[rv r.x r.nm d] w' fun e w'' => e = .returned (.int .i64 (chkR r)) ∧ Below w'.heap.size w' w'') := fun w' hb => refcheck_any r.x r.nm d r.l w' (h.kept hb) (hT.kept hb).tabs.rlets (hT.kept hb).tabs.rows hf.c (by omega)
  have HLE : Hid (∀ w', Below w.heap.size w w' → Calls Tryd.prog 6 #[rv r.x r.nm d] w' fun e w'' => e = .returned (.tuple #[.int .i64 0, .int .i64 (chkR r)]) ∧ Below w'.heap.size w' w'') := fun w' hb => least_e r d w' (h.kept hb) (hT.kept hb) hnm hc
  obtain ⟨ao, cap, rfl, _⟩ := h.shape
  have d1 : (chkR r != 0) = true := by rw [bne_iff_ne]; exact hc
  have d2 : (chkR r == 0) = false := by rw [beq_eq_false_iff_ne]; exact hc
  clear h hT hc
  generalize chkR r = z at *
  unfold rv at *
  go_enter Tryd.func3, Tryd.ntmps3
  go_wp2_with fail
  refine (HST.out _ (HX.out _).2).mono ?_
  rintro e w1 ⟨rfl, b1⟩
  have hx1 : Box w1 w.heap.size r.x r.nm (.slice ao r.l.length cap) := Box.kept (HX.out _).1 b1
  have B1 := andThen (HX.out _).2 b1
  clear b1 HX HST
  obtain ⟨c0, c1, c2, c3, c4, c5, c6, c7, c8, c9, c10, c11⟩ := hx1.cells
  go_wp2_with fail
  refine (HRC.out _ B1).mono ?_
  rintro e w2 ⟨rfl, b2⟩
  have hx2 := hx1.kept b2
  have B2 := andThen B1 b2
  clear c0 c1 c2 c3 c4 c5 c6 c7 c8 c9 c10 c11 b2 hx1 B1 HRC
  obtain ⟨c0, c1, c2, c3, c4, c5, c6, c7, c8, c9, c10, c11⟩ := hx2.cells
  go_wp2_with fail
  refine (HLE.out _ B2).mono ?_
  rintro e w3 ⟨rfl, b3⟩
  have hx3 := hx2.kept b3
  have B3 := andThen B2 b3
  clear c0 c1 c2 c3 c4 c5 c6 c7 c8 c9 c10 c11 b3 hx2 B2 HLE
  clear hx3
  go_wp2_with fail
  refine (lnum_any z _).mono ?_
  rintro e w4 ⟨rfl, rfl⟩
  go_wp2
  go_ret
  exact ⟨rfl, B3⟩
set_option maxRecDepth 100000 in
set_option maxHeartbeats 8000000 in
theorem lchain_ok (r : Rec) (d : Value) (w : World) (h : Bs w d r.l) (hT : LTabs w) (hnm : r.nm.size ≤ 1048576) (hf : r.x.fit) (hc : chkR r = 0) :
    Calls Tryd.prog 3 #[rv r.x r.nm d] w fun e w' => e = .returned (.bool true) ∧ Below w.heap.size w w' := by
  have HX : Hid (∀ o, (w.alloc o).heap[w.heap.size]? = some o ∧ Below w.heap.size w (w.alloc o)) := fun o => ⟨Array.getElem?_push_size, up0 w o⟩
  have HST : Hid (∀ w', Below w.heap.size w w' → Calls Tryd.prog 4 #[] w' fun e w'' => e = .returned (.bool true) ∧ Below w'.heap.size w' w'') := fun w' hb => lstarted_any w' (hT.kept hb)
  have HRC : Hid (∀ w', Below w.heap.size w w' → Calls Tryd.prog 5 #[rv r.x r.nm d] w' fun e w'' => e = .returned (.int .i64 (chkR r)) ∧ Below w'.heap.size w' w'') := fun w' hb => refcheck_any r.x r.nm d r.l w' (h.kept hb) (hT.kept hb).tabs.rlets (hT.kept hb).tabs.rows hf.c (by omega)
  rw [hc] at HRC
  have HLE : Hid (∀ w', Below w.heap.size w w' → Calls Tryd.prog 6 #[rv r.x r.nm d] w' fun e w'' => e = .returned (.tuple #[.int .i64 (leastP r), .int .i64 0]) ∧ Below w'.heap.size w' w'') := fun w' hb => least_ok r d w' (h.kept hb) (hT.kept hb) hnm hf hc
  have hls := least_spec r hc
  have HSP : Hid (∀ v, 1 ≤ v → v ≤ r.x.v → ((downP v r).1 = 0 ↔ leastP r ≤ v)) := hls.2.2
  have hvv := ((chk_exp r.x r.nm r.l).1 hc).1
  have HDN : Hid (∀ (v : Int) w', Below w.heap.size w w' → Calls Tryd.prog 8 #[rv r.x r.nm d, .int .i64 v] w' fun e w'' => ∃ ao, ∃ cap : Nat, e = .returned (.tuple #[rv (downP v r).2.x (downP v r).2.nm (.slice ao (downP v r).2.l.length cap), .int .i64 (downP v r).1]) ∧ Bs w'' (.slice ao (downP v r).2.l.length cap) (downP v r).2.l ∧ Below w'.heap.size w' w'') := fun v w' hb' => down_any v r d w' (h.kept hb') (hT.kept hb') hnm hf
  have HCU : Hid (r.x.v = 1 → upP 2 r = (0, cOne r) ∧ upP 3 (cOne r) = (0, cTwo (cOne r)) ∧ upP 3 r = (0, cTwo (cOne r))) := fun hv => chain_up r h.good hc hv
  have HCD : Hid (r.x.v = 3 → ((downP 2 r).1 ≠ 0 → (downP 1 r).1 = (downP 2 r).1) ∧ ((downP 2 r).1 = 0 → downP 1 (downP 2 r).2 = downP 1 r)) := fun hv => chain_down r hc hv
  have HUR : Hid (∀ (v : Int) w', Below w.heap.size w w' → Calls Tryd.prog 9 #[rv r.x r.nm d, .int .i64 v] w' fun e w'' => ∃ ao, ∃ cap : Nat, e = .returned (.tuple #[rv (upP v r).2.x (upP v r).2.nm (.slice ao (upP v r).2.l.length cap), .int .i64 (upP v r).1]) ∧ Bs w'' (.slice ao (upP v r).2.l.length cap) (upP v r).2.l ∧ Below w'.heap.size w' w'') := fun v w' hb' => up_any v r d w' (h.kept hb') (hT.kept hb') hnm hf
  have HUO : Hid (∀ (q : Rec) (v : Int) dq w', q.x.fit → q.small → Below w.heap.size w w' → Bs w' dq q.l → Calls Tryd.prog 9 #[rv q.x q.nm dq, .int .i64 v] w' fun e w'' => ∃ ao, ∃ cap : Nat, e = .returned (.tuple #[rv (upP v q).2.x (upP v q).2.nm (.slice ao (upP v q).2.l.length cap), .int .i64 (upP v q).1]) ∧ Bs w'' (.slice ao (upP v q).2.l.length cap) (upP v q).2.l ∧ Below w'.heap.size w' w'') := fun q v dq w' hqf hqs hb' hbs => up_any v q dq w' hbs (hT.kept hb') (by have := hqs.1; omega) hqf
  have HDO : Hid (∀ (q : Rec) (v : Int) dq w', q.x.fit → q.small → Below w.heap.size w w' → Bs w' dq q.l → Calls Tryd.prog 8 #[rv q.x q.nm dq, .int .i64 v] w' fun e w'' => ∃ ao, ∃ cap : Nat, e = .returned (.tuple #[rv (downP v q).2.x (downP v q).2.nm (.slice ao (downP v q).2.l.length cap), .int .i64 (downP v q).1]) ∧ Bs w'' (.slice ao (downP v q).2.l.length cap) (downP v q).2.l ∧ Below w'.heap.size w' w'') := fun q v dq w' hqf hqs hb' hbs => down_any v q dq w' hbs (hT.kept hb') (by have := hqs.1; omega) hqf
  have HSM : Hid (∀ (a : Rec) (v1 v2 : Value) w', Bs w' v1 a.l → Bs w' v2 a.l → Calls Tryd.prog 10 #[rv a.x a.nm v1, rv a.x a.nm v2] w' fun e w'' => e = .returned (.bool true) ∧ Below w'.heap.size w' w'') := fun a v1 v2 w' h1 h2 => (refsame_any a.x a.x a.nm a.nm v1 v2 a.l a.l w' h1 h2).mono fun e w'' ⟨he, hk⟩ => ⟨by rw [he, recEq_self], hk⟩
  have hrs := small_of r hf hc
  have HOF : Hid ((cOne r).x.fit ∧ (cOne r).small) := ⟨deedP_fit 0 r hf, deedP_small 0 r hrs⟩
  have HDF : Hid ((downP 2 r).2.x.fit ∧ (downP 2 r).2.small) := by
    show _ ∧ _
    unfold downP
    have hzf := zRec_fit
    have hzs : zRec.small := ⟨by decide, by decide⟩
    split
    · exact ⟨hzf, hzs⟩
    · split
      · exact ⟨hzf, hzs⟩
      · split
        · exact ⟨carL_fit _ _ hf, carL_small _ _ hrs⟩
        · exact ⟨hzf, hzs⟩
  obtain ⟨ao, cap, rfl, _⟩ := h.shape
  clear h hT hc hf hrs
  obtain ⟨hl1, hl2, _⟩ := hls
  generalize leastP r = N at *
  unfold rv at *
  go_enter Tryd.func3, Tryd.ntmps3
  go_wp2_with fail
  refine (HST.out _ (HX.out _).2).mono ?_
  rintro e w1 ⟨rfl, b1⟩
  have hx1 : Box w1 w.heap.size r.x r.nm (.slice ao r.l.length cap) := Box.kept (HX.out _).1 b1
  have B1 := andThen (HX.out _).2 b1
  clear b1 HX HST
  obtain ⟨c0, c1, c2, c3, c4, c5, c6, c7, c8, c9, c10, c11⟩ := hx1.cells
  go_wp2_with fail
  refine (HRC.out _ B1).mono ?_
  rintro e w2 ⟨rfl, b2⟩
  have hx2 := hx1.kept b2
  have B2 := andThen B1 b2
  clear c0 c1 c2 c3 c4 c5 c6 c7 c8 c9 c10 c11 b2 hx1 B1 HRC
  obtain ⟨c0, c1, c2, c3, c4, c5, c6, c7, c8, c9, c10, c11⟩ := hx2.cells
  go_wp2_with fail
  refine (HLE.out _ B2).mono ?_
  rintro e w3 ⟨rfl, b3⟩
  have hx3 := hx2.kept b3
  have B3 := andThen B2 b3
  clear c0 c1 c2 c3 c4 c5 c6 c7 c8 c9 c10 c11 b3 hx2 B2 HLE
  have cv := hx3.cells.1
  go_wp2_with fail
  refine (lnum_any 0 _).mono ?_
  rintro e w4 ⟨rfl, rfl⟩
  go_wp2
  clear cv
  go_loopw [7] (fun i wr => ∃ k : Nat, 1 ≤ k ∧ (k : Int) ≤ r.x.v + 1 ∧ i = .int .i64 (k : Int) ∧ Box wr w.heap.size r.x r.nm (.slice ao r.l.length cap) ∧ Below w.heap.size w wr) (fun i _ => 5 - (intOf i).toNat)
  case atStart => exact ⟨1, by omega, by omega, rfl, hx3, B3⟩
  case round =>
    obtain ⟨k, hk1, hk3, rfl, hbk, hbel⟩ := hrel
    clear hx3 B3
    by_cases hlt : (k : Int) ≤ r.x.v
    · have HS : Hid ((downP (k : Int) r).1 = 0 ↔ N ≤ (k : Int)) := HSP.out (k : Int) (by omega) hlt
      have HD1 : Hid (∀ w', Below w.heap.size w w' → Calls Tryd.prog 8 #[.agg #[.int .i64 r.x.v, .int .i64 r.x.k, .int .i64 r.x.s, .int .i64 r.x.p, .int .i64 r.x.t, .int .i64 r.x.a, .int .i64 r.x.l, .int .i64 r.x.c, .int .i64 r.x.n, .int .i64 r.x.i, .string r.nm, .slice ao r.l.length cap], .int .i64 (k : Int)] w' fun e w'' => ∃ ao, ∃ cap : Nat, e = .returned (.tuple #[.agg (#[.int .i64 (downP (k : Int) r).2.x.v, .int .i64 (downP (k : Int) r).2.x.k, .int .i64 (downP (k : Int) r).2.x.s, .int .i64 (downP (k : Int) r).2.x.p, .int .i64 (downP (k : Int) r).2.x.t, .int .i64 (downP (k : Int) r).2.x.a, .int .i64 (downP (k : Int) r).2.x.l, .int .i64 (downP (k : Int) r).2.x.c, .int .i64 (downP (k : Int) r).2.x.n, .int .i64 (downP (k : Int) r).2.x.i, .string (downP (k : Int) r).2.nm, .slice ao (downP (k : Int) r).2.l.length cap]), .int .i64 (downP (k : Int) r).1]) ∧ Below w'.heap.size w' w'') := fun w' hb => (HDN.out (k : Int) w' hb).mono fun e w'' ⟨ao, cap, he, _, hk⟩ => ⟨ao, cap, he, hk⟩
      clear HSP HDN HCU HCD HUR HUO HDO HSM HOF HDF
      generalize (downP (k : Int) r).2 = D at *
      obtain ⟨c0, c1, c2, c3, c4, c5, c6, c7, c8, c9, c10, c11⟩ := hbk.cells
      by_cases hz : (downP (k : Int) r).1 = 0
      · have hN : N ≤ (k : Int) := HS.out.1 hz
        rw [hz] at HD1
        clear hz HS
        go_wp2_with fail
        refine (HD1.out _ hbel).mono ?_
        rintro e w5 ⟨ao2, cap2, rfl, b5⟩
        have B5 : Hid (∀ o, Below w.heap.size w (w5.alloc o) ∧ Box (w5.alloc o) w.heap.size r.x r.nm (.slice ao r.l.length cap)) := fun o => ⟨up (andThen hbel b5) o, (hbk.kept b5).kept (up0 _ _)⟩
        clear c0 c1 c2 c3 c4 c5 c6 c7 c8 c9 c10 c11 b5 hbk hbel
        go_wp2_with fail
        refine (lnum_any 0 _).mono ?_
        rintro e w6 ⟨rfl, rfl⟩
        go_wp2
        go_roundw
        case rel => exact ⟨k + 1, by omega, by omega, by go_num, (B5.out _).2, (B5.out _).1⟩
        case measure => simp [intOf]; omega
      · have hN : ¬ N ≤ (k : Int) := fun hh => hz (HS.out.2 hh)
        have dz : ((downP (k : Int) r).1 == 0) = false := by rw [beq_eq_false_iff_ne]; exact hz
        clear hz HS
        generalize (downP (k : Int) r).1 = ez at *
        go_wp2_with fail
        refine (HD1.out _ hbel).mono ?_
        rintro e w5 ⟨ao2, cap2, rfl, b5⟩
        have B5 : Hid (∀ o, Below w.heap.size w (w5.alloc o) ∧ Box (w5.alloc o) w.heap.size r.x r.nm (.slice ao r.l.length cap)) := fun o => ⟨up (andThen hbel b5) o, (hbk.kept b5).kept (up0 _ _)⟩
        clear c0 c1 c2 c3 c4 c5 c6 c7 c8 c9 c10 c11 b5 hbk hbel
        go_wp2_with fail
        refine (lnum_any _ _).mono ?_
        rintro e w6 ⟨rfl, rfl⟩
        go_wp2
        go_roundw
        case rel => exact ⟨k + 1, by omega, by omega, by go_num, (B5.out _).2, (B5.out _).1⟩
        case measure => simp [intOf]; omega
    · clear HSP
      by_cases hv1 : r.x.v = 1
      · obtain ⟨hu2, hu3, hu33⟩ := HCU.out hv1
        have e1 : (r.x.v == 1) = true := by rw [hv1]; rfl
        have HU2 : Hid (∀ w', Below w.heap.size w w' → Calls Tryd.prog 9 #[.agg #[.int .i64 r.x.v, .int .i64 r.x.k, .int .i64 r.x.s, .int .i64 r.x.p, .int .i64 r.x.t, .int .i64 r.x.a, .int .i64 r.x.l, .int .i64 r.x.c, .int .i64 r.x.n, .int .i64 r.x.i, .string r.nm, .slice ao r.l.length cap], .int .i64 2] w' fun e w'' => ∃ ao, ∃ cap : Nat, e = .returned (.tuple #[.agg (#[.int .i64 (cOne r).x.v, .int .i64 (cOne r).x.k, .int .i64 (cOne r).x.s, .int .i64 (cOne r).x.p, .int .i64 (cOne r).x.t, .int .i64 (cOne r).x.a, .int .i64 (cOne r).x.l, .int .i64 (cOne r).x.c, .int .i64 (cOne r).x.n, .int .i64 (cOne r).x.i, .string (cOne r).nm, .slice ao (cOne r).l.length cap]), .int .i64 0]) ∧ Bs w'' (.slice ao (cOne r).l.length cap) (cOne r).l ∧ Below w'.heap.size w' w'') := by have := HUR.out 2; rw [hu2] at this; exact this
        have HU33 : Hid (∀ w', Below w.heap.size w w' → Calls Tryd.prog 9 #[.agg #[.int .i64 r.x.v, .int .i64 r.x.k, .int .i64 r.x.s, .int .i64 r.x.p, .int .i64 r.x.t, .int .i64 r.x.a, .int .i64 r.x.l, .int .i64 r.x.c, .int .i64 r.x.n, .int .i64 r.x.i, .string r.nm, .slice ao r.l.length cap], .int .i64 3] w' fun e w'' => ∃ ao, ∃ cap : Nat, e = .returned (.tuple #[.agg (#[.int .i64 (cTwo (cOne r)).x.v, .int .i64 (cTwo (cOne r)).x.k, .int .i64 (cTwo (cOne r)).x.s, .int .i64 (cTwo (cOne r)).x.p, .int .i64 (cTwo (cOne r)).x.t, .int .i64 (cTwo (cOne r)).x.a, .int .i64 (cTwo (cOne r)).x.l, .int .i64 (cTwo (cOne r)).x.c, .int .i64 (cTwo (cOne r)).x.n, .int .i64 (cTwo (cOne r)).x.i, .string (cTwo (cOne r)).nm, .slice ao (cTwo (cOne r)).l.length cap]), .int .i64 0]) ∧ Bs w'' (.slice ao (cTwo (cOne r)).l.length cap) (cTwo (cOne r)).l ∧ Below w'.heap.size w' w'') := by have := HUR.out 3; rw [hu33] at this; exact this
        have HU3 : Hid (∀ aq (cq : Nat) w', Below w.heap.size w w' → Bs w' (.slice aq (cOne r).l.length cq) (cOne r).l → Calls Tryd.prog 9 #[.agg (#[.int .i64 (cOne r).x.v, .int .i64 (cOne r).x.k, .int .i64 (cOne r).x.s, .int .i64 (cOne r).x.p, .int .i64 (cOne r).x.t, .int .i64 (cOne r).x.a, .int .i64 (cOne r).x.l, .int .i64 (cOne r).x.c, .int .i64 (cOne r).x.n, .int .i64 (cOne r).x.i, .string (cOne r).nm, .slice aq (cOne r).l.length cq]), .int .i64 3] w' fun e w'' => ∃ ao, ∃ cap : Nat, e = .returned (.tuple #[.agg (#[.int .i64 (cTwo (cOne r)).x.v, .int .i64 (cTwo (cOne r)).x.k, .int .i64 (cTwo (cOne r)).x.s, .int .i64 (cTwo (cOne r)).x.p, .int .i64 (cTwo (cOne r)).x.t, .int .i64 (cTwo (cOne r)).x.a, .int .i64 (cTwo (cOne r)).x.l, .int .i64 (cTwo (cOne r)).x.c, .int .i64 (cTwo (cOne r)).x.n, .int .i64 (cTwo (cOne r)).x.i, .string (cTwo (cOne r)).nm, .slice ao (cTwo (cOne r)).l.length cap]), .int .i64 0]) ∧ Bs w'' (.slice ao (cTwo (cOne r)).l.length cap) (cTwo (cOne r)).l ∧ Below w'.heap.size w' w'') := fun aq cq w' hb hbs => by have := HUO.out (cOne r) 3 _ w' HOF.out.1 HOF.out.2 hb hbs; rw [hu3] at this; exact this
        have HSS : Hid (∀ (v1 v2 : Value) w', Bs w' v1 (cTwo (cOne r)).l → Bs w' v2 (cTwo (cOne r)).l → Calls Tryd.prog 10 #[rv (cTwo (cOne r)).x (cTwo (cOne r)).nm v1, rv (cTwo (cOne r)).x (cTwo (cOne r)).nm v2] w' fun e w'' => e = .returned (.bool true) ∧ Below w'.heap.size w' w'') := fun v1 v2 w' a b => HSM.out _ v1 v2 w' a b
        unfold rv at HSS
        clear HCU HCD HUR HUO HDO HSM HOF HDF HDN hu2 hu3 hu33 hv1
        generalize cTwo (cOne r) = T at *
        generalize cOne r = O at *
        obtain ⟨c0, c1, c2, c3, c4, c5, c6, c7, c8, c9, c10, c11⟩ := hbk.cells
        go_wp2_with fail
        refine (HU2.out _ hbel).mono ?_
        rintro e w5 ⟨a5, cp5, rfl, hb5, b5⟩
        have HK5 : Hid (Box (w5.alloc (.cells #[.int .i64 O.x.v, .int .i64 O.x.k, .int .i64 O.x.s, .int .i64 O.x.p, .int .i64 O.x.t, .int .i64 O.x.a, .int .i64 O.x.l, .int .i64 O.x.c, .int .i64 O.x.n, .int .i64 O.x.i, .string O.nm, .slice a5 O.l.length cp5] 24)) w.heap.size r.x r.nm (.slice ao r.l.length cap) ∧ Box (w5.alloc (.cells #[.int .i64 O.x.v, .int .i64 O.x.k, .int .i64 O.x.s, .int .i64 O.x.p, .int .i64 O.x.t, .int .i64 O.x.a, .int .i64 O.x.l, .int .i64 O.x.c, .int .i64 O.x.n, .int .i64 O.x.i, .string O.nm, .slice a5 O.l.length cp5] 24)) w5.heap.size O.x O.nm (.slice a5 O.l.length cp5) ∧ Bs (w5.alloc (.cells #[.int .i64 O.x.v, .int .i64 O.x.k, .int .i64 O.x.s, .int .i64 O.x.p, .int .i64 O.x.t, .int .i64 O.x.a, .int .i64 O.x.l, .int .i64 O.x.c, .int .i64 O.x.n, .int .i64 O.x.i, .string O.nm, .slice a5 O.l.length cp5] 24)) (.slice a5 O.l.length cp5) O.l ∧ Below w.heap.size w (w5.alloc (.cells #[.int .i64 O.x.v, .int .i64 O.x.k, .int .i64 O.x.s, .int .i64 O.x.p, .int .i64 O.x.t, .int .i64 O.x.a, .int .i64 O.x.l, .int .i64 O.x.c, .int .i64 O.x.n, .int .i64 O.x.i, .string O.nm, .slice a5 O.l.length cp5] 24))) := ⟨(hbk.kept b5).kept (up0 _ _), Array.getElem?_push_size, hb5.alloc _, up (andThen hbel b5) _⟩
        clear c0 c1 c2 c3 c4 c5 c6 c7 c8 c9 c10 c11 b5 hb5 hbk hbel HU2
        obtain ⟨c0, c1, c2, c3, c4, c5, c6, c7, c8, c9, c10, c11⟩ := HK5.out.2.1.cells
        go_wp2_with fail
        refine (HU3.out _ _ _ HK5.out.2.2.2 HK5.out.2.2.1).mono ?_
        rintro e w6 ⟨a6, cp6, rfl, hb6, b6⟩
        have HK6 : Hid (Box (w6.alloc (.cells #[.int .i64 T.x.v, .int .i64 T.x.k, .int .i64 T.x.s, .int .i64 T.x.p, .int .i64 T.x.t, .int .i64 T.x.a, .int .i64 T.x.l, .int .i64 T.x.c, .int .i64 T.x.n, .int .i64 T.x.i, .string T.nm, .slice a6 T.l.length cp6] 24)) w.heap.size r.x r.nm (.slice ao r.l.length cap) ∧ Box (w6.alloc (.cells #[.int .i64 T.x.v, .int .i64 T.x.k, .int .i64 T.x.s, .int .i64 T.x.p, .int .i64 T.x.t, .int .i64 T.x.a, .int .i64 T.x.l, .int .i64 T.x.c, .int .i64 T.x.n, .int .i64 T.x.i, .string T.nm, .slice a6 T.l.length cp6] 24)) w6.heap.size T.x T.nm (.slice a6 T.l.length cp6) ∧ Bs (w6.alloc (.cells #[.int .i64 T.x.v, .int .i64 T.x.k, .int .i64 T.x.s, .int .i64 T.x.p, .int .i64 T.x.t, .int .i64 T.x.a, .int .i64 T.x.l, .int .i64 T.x.c, .int .i64 T.x.n, .int .i64 T.x.i, .string T.nm, .slice a6 T.l.length cp6] 24)) (.slice a6 T.l.length cp6) T.l ∧ Below w.heap.size w (w6.alloc (.cells #[.int .i64 T.x.v, .int .i64 T.x.k, .int .i64 T.x.s, .int .i64 T.x.p, .int .i64 T.x.t, .int .i64 T.x.a, .int .i64 T.x.l, .int .i64 T.x.c, .int .i64 T.x.n, .int .i64 T.x.i, .string T.nm, .slice a6 T.l.length cp6] 24))) := ⟨(HK5.out.1.kept b6).kept (up0 _ _), Array.getElem?_push_size, hb6.alloc _, up (andThen HK5.out.2.2.2 b6) _⟩
        clear c0 c1 c2 c3 c4 c5 c6 c7 c8 c9 c10 c11 b6 hb6 HK5 HU3
        obtain ⟨c0, c1, c2, c3, c4, c5, c6, c7, c8, c9, c10, c11⟩ := HK6.out.1.cells
        go_wp2_with fail
        refine (HU33.out _ HK6.out.2.2.2).mono ?_
        rintro e w7 ⟨a7, cp7, rfl, hb7, b7⟩
        have HK7 : Hid (Box (w7.alloc (.cells #[.int .i64 T.x.v, .int .i64 T.x.k, .int .i64 T.x.s, .int .i64 T.x.p, .int .i64 T.x.t, .int .i64 T.x.a, .int .i64 T.x.l, .int .i64 T.x.c, .int .i64 T.x.n, .int .i64 T.x.i, .string T.nm, .slice a7 T.l.length cp7] 24)) w6.heap.size T.x T.nm (.slice a6 T.l.length cp6) ∧ Bs (w7.alloc (.cells #[.int .i64 T.x.v, .int .i64 T.x.k, .int .i64 T.x.s, .int .i64 T.x.p, .int .i64 T.x.t, .int .i64 T.x.a, .int .i64 T.x.l, .int .i64 T.x.c, .int .i64 T.x.n, .int .i64 T.x.i, .string T.nm, .slice a7 T.l.length cp7] 24)) (.slice a6 T.l.length cp6) T.l ∧ Box (w7.alloc (.cells #[.int .i64 T.x.v, .int .i64 T.x.k, .int .i64 T.x.s, .int .i64 T.x.p, .int .i64 T.x.t, .int .i64 T.x.a, .int .i64 T.x.l, .int .i64 T.x.c, .int .i64 T.x.n, .int .i64 T.x.i, .string T.nm, .slice a7 T.l.length cp7] 24)) w7.heap.size T.x T.nm (.slice a7 T.l.length cp7) ∧ Bs (w7.alloc (.cells #[.int .i64 T.x.v, .int .i64 T.x.k, .int .i64 T.x.s, .int .i64 T.x.p, .int .i64 T.x.t, .int .i64 T.x.a, .int .i64 T.x.l, .int .i64 T.x.c, .int .i64 T.x.n, .int .i64 T.x.i, .string T.nm, .slice a7 T.l.length cp7] 24)) (.slice a7 T.l.length cp7) T.l ∧ Below w.heap.size w (w7.alloc (.cells #[.int .i64 T.x.v, .int .i64 T.x.k, .int .i64 T.x.s, .int .i64 T.x.p, .int .i64 T.x.t, .int .i64 T.x.a, .int .i64 T.x.l, .int .i64 T.x.c, .int .i64 T.x.n, .int .i64 T.x.i, .string T.nm, .slice a7 T.l.length cp7] 24))) := ⟨(HK6.out.2.1.kept b7).kept (up0 _ _), (HK6.out.2.2.1.kept b7).alloc _, Array.getElem?_push_size, hb7.alloc _, up (andThen HK6.out.2.2.2 b7) _⟩
        clear c0 c1 c2 c3 c4 c5 c6 c7 c8 c9 c10 c11 b7 hb7 HK6 HU33
        go_wp2_with fail
        refine (lnum_any 0 _).mono ?_
        rintro e w8 ⟨rfl, rfl⟩
        go_wp2_with fail
        refine (lnum_any 0 _).mono ?_
        rintro e w8 ⟨rfl, rfl⟩
        go_wp2_with fail
        refine (lnum_any 0 _).mono ?_
        rintro e w8 ⟨rfl, rfl⟩
        obtain ⟨c0, c1, c2, c3, c4, c5, c6, c7, c8, c9, c10, c11⟩ := HK7.out.1.cells
        obtain ⟨e0, e1, e2, e3, e4, e5, e6, e7, e8, e9, e10, e11⟩ := HK7.out.2.2.1.cells
        go_wp2_with fail
        refine (HSS.out _ _ _ HK7.out.2.1 HK7.out.2.2.2.1).mono ?_
        rintro e w9 ⟨rfl, b9⟩
        have B9 := andThen HK7.out.2.2.2.2 b9
        clear c0 c1 c2 c3 c4 c5 c6 c7 c8 c9 c10 c11 e0 e1 e2 e3 e4 e5 e6 e7 e8 e9 e10 e11 b9 HK7
        go_wp2
        go_ret
        exact ⟨rfl, B9⟩
      · have e1 : (r.x.v == 1) = false := by rw [beq_eq_false_iff_ne]; exact hv1
        by_cases hv3 : r.x.v = 3
        · have e3 : (r.x.v == 3) = true := by rw [hv3]; rfl
          obtain ⟨hcd1, hcd2⟩ := HCD.out hv3
          have HD2 : Hid (∀ w', Below w.heap.size w w' → Calls Tryd.prog 8 #[.agg #[.int .i64 r.x.v, .int .i64 r.x.k, .int .i64 r.x.s, .int .i64 r.x.p, .int .i64 r.x.t, .int .i64 r.x.a, .int .i64 r.x.l, .int .i64 r.x.c, .int .i64 r.x.n, .int .i64 r.x.i, .string r.nm, .slice ao r.l.length cap], .int .i64 2] w' fun e w'' => ∃ ao, ∃ cap : Nat, e = .returned (.tuple #[.agg (#[.int .i64 (downP 2 r).2.x.v, .int .i64 (downP 2 r).2.x.k, .int .i64 (downP 2 r).2.x.s, .int .i64 (downP 2 r).2.x.p, .int .i64 (downP 2 r).2.x.t, .int .i64 (downP 2 r).2.x.a, .int .i64 (downP 2 r).2.x.l, .int .i64 (downP 2 r).2.x.c, .int .i64 (downP 2 r).2.x.n, .int .i64 (downP 2 r).2.x.i, .string (downP 2 r).2.nm, .slice ao (downP 2 r).2.l.length cap]), .int .i64 (downP 2 r).1]) ∧ Bs w'' (.slice ao (downP 2 r).2.l.length cap) (downP 2 r).2.l ∧ Below w'.heap.size w' w'') := fun w' hb => HDN.out 2 w' hb
          have HD1 : Hid (∀ w', Below w.heap.size w w' → Calls Tryd.prog 8 #[.agg #[.int .i64 r.x.v, .int .i64 r.x.k, .int .i64 r.x.s, .int .i64 r.x.p, .int .i64 r.x.t, .int .i64 r.x.a, .int .i64 r.x.l, .int .i64 r.x.c, .int .i64 r.x.n, .int .i64 r.x.i, .string r.nm, .slice ao r.l.length cap], .int .i64 1] w' fun e w'' => ∃ ao, ∃ cap : Nat, e = .returned (.tuple #[.agg (#[.int .i64 (downP 1 r).2.x.v, .int .i64 (downP 1 r).2.x.k, .int .i64 (downP 1 r).2.x.s, .int .i64 (downP 1 r).2.x.p, .int .i64 (downP 1 r).2.x.t, .int .i64 (downP 1 r).2.x.a, .int .i64 (downP 1 r).2.x.l, .int .i64 (downP 1 r).2.x.c, .int .i64 (downP 1 r).2.x.n, .int .i64 (downP 1 r).2.x.i, .string (downP 1 r).2.nm, .slice ao (downP 1 r).2.l.length cap]), .int .i64 (downP 1 r).1]) ∧ Bs w'' (.slice ao (downP 1 r).2.l.length cap) (downP 1 r).2.l ∧ Below w'.heap.size w' w'') := fun w' hb => HDN.out 1 w' hb
          by_cases h2 : (downP 2 r).1 = 0
          · have HD3 : Hid (∀ aq (cq : Nat) w', Below w.heap.size w w' → Bs w' (.slice aq (downP 2 r).2.l.length cq) (downP 2 r).2.l → Calls Tryd.prog 8 #[.agg (#[.int .i64 (downP 2 r).2.x.v, .int .i64 (downP 2 r).2.x.k, .int .i64 (downP 2 r).2.x.s, .int .i64 (downP 2 r).2.x.p, .int .i64 (downP 2 r).2.x.t, .int .i64 (downP 2 r).2.x.a, .int .i64 (downP 2 r).2.x.l, .int .i64 (downP 2 r).2.x.c, .int .i64 (downP 2 r).2.x.n, .int .i64 (downP 2 r).2.x.i, .string (downP 2 r).2.nm, .slice aq (downP 2 r).2.l.length cq]), .int .i64 1] w' fun e w'' => ∃ ao, ∃ cap : Nat, e = .returned (.tuple #[.agg (#[.int .i64 (downP 1 r).2.x.v, .int .i64 (downP 1 r).2.x.k, .int .i64 (downP 1 r).2.x.s, .int .i64 (downP 1 r).2.x.p, .int .i64 (downP 1 r).2.x.t, .int .i64 (downP 1 r).2.x.a, .int .i64 (downP 1 r).2.x.l, .int .i64 (downP 1 r).2.x.c, .int .i64 (downP 1 r).2.x.n, .int .i64 (downP 1 r).2.x.i, .string (downP 1 r).2.nm, .slice ao (downP 1 r).2.l.length cap]), .int .i64 (downP 1 r).1]) ∧ Bs w'' (.slice ao (downP 1 r).2.l.length cap) (downP 1 r).2.l ∧ Below w'.heap.size w' w'') := fun aq cq w' hb hbs => by have := HDO.out (downP 2 r).2 1 _ w' HDF.out.1 HDF.out.2 hb hbs; rw [hcd2 h2] at this; exact this
            have HSS : Hid (∀ (v1 v2 : Value) w', Bs w' v1 (downP 1 r).2.l → Bs w' v2 (downP 1 r).2.l → Calls Tryd.prog 10 #[rv (downP 1 r).2.x (downP 1 r).2.nm v1, rv (downP 1 r).2.x (downP 1 r).2.nm v2] w' fun e w'' => e = .returned (.bool true) ∧ Below w'.heap.size w' w'') := fun v1 v2 w' a b => HSM.out _ v1 v2 w' a b
            unfold rv at HSS
            rw [h2] at HD2
            clear HCU HCD HUR HUO HDO HSM HOF HDF HDN hcd1 hcd2 h2 hv3 hv1
            generalize (downP 2 r).2 = O at *
            generalize (downP 1 r).2 = T at *
            generalize (downP 1 r).1 = ez at *
            have dz : (ez == ez) = true := beq_self_eq_true _
            obtain ⟨c0, c1, c2, c3, c4, c5, c6, c7, c8, c9, c10, c11⟩ := hbk.cells
            go_wp2_with fail
            refine (HD2.out _ hbel).mono ?_
            rintro e w5 ⟨a5, cp5, rfl, hb5, b5⟩
            have HK5 : Hid (Box (w5.alloc (.cells #[.int .i64 O.x.v, .int .i64 O.x.k, .int .i64 O.x.s, .int .i64 O.x.p, .int .i64 O.x.t, .int .i64 O.x.a, .int .i64 O.x.l, .int .i64 O.x.c, .int .i64 O.x.n, .int .i64 O.x.i, .string O.nm, .slice a5 O.l.length cp5] 24)) w.heap.size r.x r.nm (.slice ao r.l.length cap) ∧ Box (w5.alloc (.cells #[.int .i64 O.x.v, .int .i64 O.x.k, .int .i64 O.x.s, .int .i64 O.x.p, .int .i64 O.x.t, .int .i64 O.x.a, .int .i64 O.x.l, .int .i64 O.x.c, .int .i64 O.x.n, .int .i64 O.x.i, .string O.nm, .slice a5 O.l.length cp5] 24)) w5.heap.size O.x O.nm (.slice a5 O.l.length cp5) ∧ Bs (w5.alloc (.cells #[.int .i64 O.x.v, .int .i64 O.x.k, .int .i64 O.x.s, .int .i64 O.x.p, .int .i64 O.x.t, .int .i64 O.x.a, .int .i64 O.x.l, .int .i64 O.x.c, .int .i64 O.x.n, .int .i64 O.x.i, .string O.nm, .slice a5 O.l.length cp5] 24)) (.slice a5 O.l.length cp5) O.l ∧ Below w.heap.size w (w5.alloc (.cells #[.int .i64 O.x.v, .int .i64 O.x.k, .int .i64 O.x.s, .int .i64 O.x.p, .int .i64 O.x.t, .int .i64 O.x.a, .int .i64 O.x.l, .int .i64 O.x.c, .int .i64 O.x.n, .int .i64 O.x.i, .string O.nm, .slice a5 O.l.length cp5] 24))) := ⟨(hbk.kept b5).kept (up0 _ _), Array.getElem?_push_size, hb5.alloc _, up (andThen hbel b5) _⟩
            clear c0 c1 c2 c3 c4 c5 c6 c7 c8 c9 c10 c11 b5 hb5 hbk hbel HD2
            obtain ⟨c0, c1, c2, c3, c4, c5, c6, c7, c8, c9, c10, c11⟩ := HK5.out.1.cells
            go_wp2_with fail
            refine (HD1.out _ HK5.out.2.2.2).mono ?_
            rintro e w6 ⟨a6, cp6, rfl, hb6, b6⟩
            have HK6 : Hid (Box (w6.alloc (.cells #[.int .i64 T.x.v, .int .i64 T.x.k, .int .i64 T.x.s, .int .i64 T.x.p, .int .i64 T.x.t, .int .i64 T.x.a, .int .i64 T.x.l, .int .i64 T.x.c, .int .i64 T.x.n, .int .i64 T.x.i, .string T.nm, .slice a6 T.l.length cp6] 24)) w5.heap.size O.x O.nm (.slice a5 O.l.length cp5) ∧ Bs (w6.alloc (.cells #[.int .i64 T.x.v, .int .i64 T.x.k, .int .i64 T.x.s, .int .i64 T.x.p, .int .i64 T.x.t, .int .i64 T.x.a, .int .i64 T.x.l, .int .i64 T.x.c, .int .i64 T.x.n, .int .i64 T.x.i, .string T.nm, .slice a6 T.l.length cp6] 24)) (.slice a5 O.l.length cp5) O.l ∧ Box (w6.alloc (.cells #[.int .i64 T.x.v, .int .i64 T.x.k, .int .i64 T.x.s, .int .i64 T.x.p, .int .i64 T.x.t, .int .i64 T.x.a, .int .i64 T.x.l, .int .i64 T.x.c, .int .i64 T.x.n, .int .i64 T.x.i, .string T.nm, .slice a6 T.l.length cp6] 24)) w6.heap.size T.x T.nm (.slice a6 T.l.length cp6) ∧ Bs (w6.alloc (.cells #[.int .i64 T.x.v, .int .i64 T.x.k, .int .i64 T.x.s, .int .i64 T.x.p, .int .i64 T.x.t, .int .i64 T.x.a, .int .i64 T.x.l, .int .i64 T.x.c, .int .i64 T.x.n, .int .i64 T.x.i, .string T.nm, .slice a6 T.l.length cp6] 24)) (.slice a6 T.l.length cp6) T.l ∧ Below w.heap.size w (w6.alloc (.cells #[.int .i64 T.x.v, .int .i64 T.x.k, .int .i64 T.x.s, .int .i64 T.x.p, .int .i64 T.x.t, .int .i64 T.x.a, .int .i64 T.x.l, .int .i64 T.x.c, .int .i64 T.x.n, .int .i64 T.x.i, .string T.nm, .slice a6 T.l.length cp6] 24))) := ⟨(HK5.out.2.1.kept b6).kept (up0 _ _), (HK5.out.2.2.1.kept b6).alloc _, Array.getElem?_push_size, hb6.alloc _, up (andThen HK5.out.2.2.2 b6) _⟩
            clear c0 c1 c2 c3 c4 c5 c6 c7 c8 c9 c10 c11 b6 hb6 HK5 HD1
            go_wp2_with fail
            refine (lnum_any 0 _).mono ?_
            rintro e w8 ⟨rfl, rfl⟩
            obtain ⟨c0, c1, c2, c3, c4, c5, c6, c7, c8, c9, c10, c11⟩ := HK6.out.1.cells
            go_wp2_with fail
            refine (HD3.out _ _ _ HK6.out.2.2.2.2 HK6.out.2.1).mono ?_
            rintro e w7 ⟨a7, cp7, rfl, hb7, b7⟩
            have HK7 : Hid (Box (w7.alloc (.cells #[.int .i64 T.x.v, .int .i64 T.x.k, .int .i64 T.x.s, .int .i64 T.x.p, .int .i64 T.x.t, .int .i64 T.x.a, .int .i64 T.x.l, .int .i64 T.x.c, .int .i64 T.x.n, .int .i64 T.x.i, .string T.nm, .slice a7 T.l.length cp7] 24)) w6.heap.size T.x T.nm (.slice a6 T.l.length cp6) ∧ Bs (w7.alloc (.cells #[.int .i64 T.x.v, .int .i64 T.x.k, .int .i64 T.x.s, .int .i64 T.x.p, .int .i64 T.x.t, .int .i64 T.x.a, .int .i64 T.x.l, .int .i64 T.x.c, .int .i64 T.x.n, .int .i64 T.x.i, .string T.nm, .slice a7 T.l.length cp7] 24)) (.slice a6 T.l.length cp6) T.l ∧ Box (w7.alloc (.cells #[.int .i64 T.x.v, .int .i64 T.x.k, .int .i64 T.x.s, .int .i64 T.x.p, .int .i64 T.x.t, .int .i64 T.x.a, .int .i64 T.x.l, .int .i64 T.x.c, .int .i64 T.x.n, .int .i64 T.x.i, .string T.nm, .slice a7 T.l.length cp7] 24)) w7.heap.size T.x T.nm (.slice a7 T.l.length cp7) ∧ Bs (w7.alloc (.cells #[.int .i64 T.x.v, .int .i64 T.x.k, .int .i64 T.x.s, .int .i64 T.x.p, .int .i64 T.x.t, .int .i64 T.x.a, .int .i64 T.x.l, .int .i64 T.x.c, .int .i64 T.x.n, .int .i64 T.x.i, .string T.nm, .slice a7 T.l.length cp7] 24)) (.slice a7 T.l.length cp7) T.l ∧ Below w.heap.size w (w7.alloc (.cells #[.int .i64 T.x.v, .int .i64 T.x.k, .int .i64 T.x.s, .int .i64 T.x.p, .int .i64 T.x.t, .int .i64 T.x.a, .int .i64 T.x.l, .int .i64 T.x.c, .int .i64 T.x.n, .int .i64 T.x.i, .string T.nm, .slice a7 T.l.length cp7] 24))) := ⟨(HK6.out.2.2.1.kept b7).kept (up0 _ _), (HK6.out.2.2.2.1.kept b7).alloc _, Array.getElem?_push_size, hb7.alloc _, up (andThen HK6.out.2.2.2.2 b7) _⟩
            clear c0 c1 c2 c3 c4 c5 c6 c7 c8 c9 c10 c11 b7 hb7 HK6 HD3
            go_wp2_with fail
            refine (lnum_any ez _).mono ?_
            rintro e w8 ⟨rfl, rfl⟩
            go_wp2_with fail
            refine (lnum_any ez _).mono ?_
            rintro e w8 ⟨rfl, rfl⟩
            obtain ⟨c0, c1, c2, c3, c4, c5, c6, c7, c8, c9, c10, c11⟩ := HK7.out.1.cells
            obtain ⟨e0, e1, e2, e3, e4, e5, e6, e7, e8, e9, e10, e11⟩ := HK7.out.2.2.1.cells
            go_wp2_with fail
            refine (HSS.out _ _ _ HK7.out.2.2.2.1 HK7.out.2.1).mono ?_
            rintro e w9 ⟨rfl, b9⟩
            have B9 := andThen HK7.out.2.2.2.2 b9
            clear c0 c1 c2 c3 c4 c5 c6 c7 c8 c9 c10 c11 e0 e1 e2 e3 e4 e5 e6 e7 e8 e9 e10 e11 b9 HK7
            go_wp2
            go_ret
            exact ⟨rfl, B9⟩
          · have hee := hcd1 h2
            have dz : ((downP 2 r).1 != 0) = true := by rw [bne_iff_ne]; exact h2
            rw [hee] at HD1
            clear HCU HCD HUR HUO HDO HSM HOF HDF HDN hcd1 hcd2 h2 hv3 hv1 hee
            generalize (downP 2 r).2 = O at *
            generalize (downP 1 r).2 = T at *
            generalize (downP 2 r).1 = ez at *
            have dzz : (ez == ez) = true := beq_self_eq_true _
            obtain ⟨c0, c1, c2, c3, c4, c5, c6, c7, c8, c9, c10, c11⟩ := hbk.cells
            go_wp2_with fail
            refine (HD2.out _ hbel).mono ?_
            rintro e w5 ⟨a5, cp5, rfl, hb5, b5⟩
            have HK5 : Hid (Box (w5.alloc (.cells #[.int .i64 O.x.v, .int .i64 O.x.k, .int .i64 O.x.s, .int .i64 O.x.p, .int .i64 O.x.t, .int .i64 O.x.a, .int .i64 O.x.l, .int .i64 O.x.c, .int .i64 O.x.n, .int .i64 O.x.i, .string O.nm, .slice a5 O.l.length cp5] 24)) w.heap.size r.x r.nm (.slice ao r.l.length cap) ∧ Below w.heap.size w (w5.alloc (.cells #[.int .i64 O.x.v, .int .i64 O.x.k, .int .i64 O.x.s, .int .i64 O.x.p, .int .i64 O.x.t, .int .i64 O.x.a, .int .i64 O.x.l, .int .i64 O.x.c, .int .i64 O.x.n, .int .i64 O.x.i, .string O.nm, .slice a5 O.l.length cp5] 24))) := ⟨(hbk.kept b5).kept (up0 _ _), up (andThen hbel b5) _⟩
            clear c0 c1 c2 c3 c4 c5 c6 c7 c8 c9 c10 c11 b5 hb5 hbk hbel HD2
            obtain ⟨c0, c1, c2, c3, c4, c5, c6, c7, c8, c9, c10, c11⟩ := HK5.out.1.cells
            go_wp2_with fail
            refine (HD1.out _ HK5.out.2).mono ?_
            rintro e w6 ⟨a6, cp6, rfl, hb6, b6⟩
            have HK6 : Hid (∀ o, Below w.heap.size w (w6.alloc o)) := fun o => up (andThen HK5.out.2 b6) o
            clear c0 c1 c2 c3 c4 c5 c6 c7 c8 c9 c10 c11 b6 hb6 HK5 HD1
            go_wp2_with fail
            refine (lnum_any ez _).mono ?_
            rintro e w8 ⟨rfl, rfl⟩
            go_wp2_with fail
            refine (lnum_any ez _).mono ?_
            rintro e w8 ⟨rfl, rfl⟩
            go_wp2_with fail
            refine (lnum_any ez _).mono ?_
            rintro e w8 ⟨rfl, rfl⟩
            go_wp2
            go_ret
            exact ⟨rfl, HK6.out _⟩
        · have e3 : (r.x.v == 3) = false := by rw [beq_eq_false_iff_ne]; exact hv3
          have c0 := hbk.cells.1
          clear HCU HCD HUR HUO HDO HSM HOF HDF HDN hbk
          go_wp2
          go_ret
          exact ⟨rfl, hbel⟩
theorem lchain_any (r : Rec) (d : Value) (w : World) (h : Bs w d r.l) (hT : LTabs w) (hnm : r.nm.size ≤ 1048576) (hf : r.x.fit) :
    Calls Tryd.prog 3 #[rv r.x r.nm d] w fun e w' => e = .returned (.bool true) ∧ Below w.heap.size w w' := by
  by_cases hc : chkR r = 0
  · exact lchain_ok r d w h hT hnm hf hc
  · exact lchain_e r d w h hT hnm hf hc
end Go.Proofs.YtfkpdmmgjgchjabDoor
