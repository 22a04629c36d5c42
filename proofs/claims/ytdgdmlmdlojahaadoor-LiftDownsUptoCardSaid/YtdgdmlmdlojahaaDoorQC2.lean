import Derived.Test.YtdgdmlmdlojahaaDoorQC1
/-
  Package lift: Least; LiftChain: the law's walk.
-/
namespace Go.Proofs.YtdgdmlmdlojahaaDoor
open Go Go.RowKit
open Wb

set_option maxRecDepth 100000 in
set_option maxHeartbeats 1000000 in
theorem least_e (r : Rec) (d : Value) (w : World) (h : Bs w d r.l) (hT : LTabs w) (hnm : r.nm.size ≤ 1048576) (hc : chkR r ≠ 0) :
    Calls Tryd.prog 38 #[rv r.x r.nm d] w fun e w' => e = .returned (.tuple #[.int .i64 0, .int .i64 (chkR r)]) ∧ Below w.heap.size w w' := by
  have HX : Hid (∀ o, Below w.heap.size w (w.alloc o)) := fun o => up0 w o
  have HCK : Hid (∀ w', Below w.heap.size w w' → Calls Tryd.prog 29 #[rv r.x r.nm d] w' fun e w'' => e = .returned (.int .i64 (chkR r)) ∧ Below w'.heap.size w' w'') := fun w' hb' => check_any r.x r.nm d r.l w' (h.kept hb') (hT.kept hb').tabs.lets (hT.kept hb').tabs.tags (by omega)
  obtain ⟨ao, cap, rfl, _⟩ := h.shape
  have d1 : (chkR r != 0) = true := by rw [bne_iff_ne]; exact hc
  clear h hT hc
  generalize chkR r = z at *
  unfold rv at *
  go_enter Tryd.func38, Tryd.ntmps38
  go_wp2_with fail
  refine (HCK.out _ (HX.out _)).mono ?_
  rintro e w1 ⟨rfl, b1⟩
  have B1 := andThen (HX.out _) b1
  clear b1
  go_wp2
  go_ret2
  exact ⟨rfl, B1⟩
set_option maxRecDepth 100000 in
set_option maxHeartbeats 4000000 in
theorem least_ok (r : Rec) (d : Value) (w : World) (h : Bs w d r.l) (hT : LTabs w) (hnm : r.nm.size ≤ 1048576) (hf : r.x.fit) (hc : chkR r = 0) :
    Calls Tryd.prog 38 #[rv r.x r.nm d] w fun e w' => e = .returned (.tuple #[.int .i64 (leastP r), .int .i64 0]) ∧ Below w.heap.size w w' := by
  have HX : Hid (∀ o, (w.alloc o).heap[w.heap.size]? = some o ∧ Below w.heap.size w (w.alloc o)) := fun o => ⟨Array.getElem?_push_size, up0 w o⟩
  have HCK : Hid (∀ w', Below w.heap.size w w' → Calls Tryd.prog 29 #[rv r.x r.nm d] w' fun e w'' => e = .returned (.int .i64 0) ∧ Below w'.heap.size w' w'') := fun w' hb' => by
    have := check_any r.x r.nm d r.l w' (h.kept hb') (hT.kept hb').tabs.lets (hT.kept hb').tabs.tags (by omega)
    rw [show chk r.x r.nm r.l = 0 from hc] at this
    exact this
  have HDN : Hid (∀ (v : Int) w', Below w.heap.size w w' → Calls Tryd.prog 36 #[rv r.x r.nm d, .int .i64 v] w' fun e w'' => ∃ ao, ∃ cap : Nat, e = .returned (.tuple #[rv (downP v r).2.x (downP v r).2.nm (.slice ao (downP v r).2.l.length cap), .int .i64 (downP v r).1]) ∧ Below w'.heap.size w' w'') := fun v w' hb' => (down_any v r d w' (h.kept hb') (hT.kept hb') hnm hf).mono fun e w'' ⟨ao, cap, he, _, hk⟩ => ⟨ao, cap, he, hk⟩
  have hvv := ((chk_exp r.x r.nm r.l).1 hc).1
  obtain ⟨A, hA⟩ : ∃ A, leastP r = A := ⟨_, rfl⟩
  have HA : Hid (leastF r 3 1 = A) := hA
  rw [hA]
  obtain ⟨ao, cap, rfl, _⟩ := h.shape
  clear h hT hc hA
  unfold rv at *
  go_enter Tryd.func38, Tryd.ntmps38
  go_wp2_with fail
  refine (HCK.out _ (HX.out _).2).mono ?_
  rintro e w1 ⟨rfl, b1⟩
  have hbx : Box w1 w.heap.size r.x r.nm (.slice ao r.l.length cap) := Box.kept (HX.out _).1 b1
  have B1 := andThen (HX.out _).2 b1
  clear b1 HX HCK
  go_wp2
  go_loopw [5] (fun i wr => ∃ k : Nat, 1 ≤ k ∧ k ≤ 3 ∧ i = .int .i64 (k : Int) ∧ leastF r (4 - k) (k : Int) = A ∧ Box wr w.heap.size r.x r.nm (.slice ao r.l.length cap) ∧ Below w.heap.size w wr) (fun i _ => 4 - (intOf i).toNat)
  case atStart => exact ⟨1, by omega, by omega, rfl, HA.out, hbx, B1⟩
  case round =>
    obtain ⟨k, hk1, hk3, rfl, hlk, hbk, hbel⟩ := hrel
    have HLK : Hid (leastF r (4 - k) (k : Int) = A) := hlk
    clear hlk HA hbx B1
    by_cases hlt : (k : Int) < r.x.v
    · have HS : Hid ((if (downP (k : Int) r).1 = 0 then (k : Int) else leastF r (4 - (k + 1)) ((k + 1 : Nat) : Int)) = A) := by
        show _ = _
        rw [← HLK.out, show 4 - k = (4 - (k + 1)) + 1 by omega]
        show _ = (if (k : Int) < r.x.v then (if (downP (k : Int) r).1 = 0 then (k : Int) else leastF r (4 - (k + 1)) ((k : Int) + 1)) else (k : Int))
        rw [if_pos hlt]
        rfl
      have HD1 : Hid (∀ w', Below w.heap.size w w' → Calls Tryd.prog 36 #[.agg #[.int .i64 r.x.v, .int .i64 r.x.k, .int .i64 r.x.s, .int .i64 r.x.p, .int .i64 r.x.t, .int .i64 r.x.a, .int .i64 r.x.l, .int .i64 r.x.c, .int .i64 r.x.n, .int .i64 r.x.i, .string r.nm, .slice ao r.l.length cap], .int .i64 (k : Int)] w' fun e w'' => ∃ ao, ∃ cap : Nat, e = .returned (.tuple #[.agg (#[.int .i64 (downP (k : Int) r).2.x.v, .int .i64 (downP (k : Int) r).2.x.k, .int .i64 (downP (k : Int) r).2.x.s, .int .i64 (downP (k : Int) r).2.x.p, .int .i64 (downP (k : Int) r).2.x.t, .int .i64 (downP (k : Int) r).2.x.a, .int .i64 (downP (k : Int) r).2.x.l, .int .i64 (downP (k : Int) r).2.x.c, .int .i64 (downP (k : Int) r).2.x.n, .int .i64 (downP (k : Int) r).2.x.i, .string (downP (k : Int) r).2.nm, .slice ao (downP (k : Int) r).2.l.length cap]), .int .i64 (downP (k : Int) r).1]) ∧ Below w'.heap.size w' w'') := fun w' hb => HDN.out (k : Int) w' hb
      clear HLK HDN
      generalize (downP (k : Int) r).2 = D at *
      obtain ⟨c0, c1, c2, c3, c4, c5, c6, c7, c8, c9, c10, c11⟩ := hbk.cells
      by_cases hz : (downP (k : Int) r).1 = 0
      · have HE : Hid ((k : Int) = A) := by show _ = _; rw [← HS.out, if_pos hz]
        rw [hz] at HD1
        clear hz HS
        go_wp2_with fail
        refine (HD1.out _ hbel).mono ?_
        rintro e w2 ⟨ao2, cap2, rfl, b2⟩
        have B2 : Hid (∀ o, Below w.heap.size w (w2.alloc o)) := fun o => up (andThen hbel b2) o
        clear c0 c1 c2 c3 c4 c5 c6 c7 c8 c9 c10 c11 b2 hbk hbel
        go_wp2
        go_ret2
        exact ⟨by rw [← HE.out]; rfl, B2.out _⟩
      · have HE : Hid (leastF r (4 - (k + 1)) ((k + 1 : Nat) : Int) = A) := by show _ = _; rw [← HS.out, if_neg hz]
        have dz : ((downP (k : Int) r).1 == 0) = false := by rw [beq_eq_false_iff_ne]; exact hz
        clear hz HS
        generalize (downP (k : Int) r).1 = ez at *
        go_wp2_with fail
        refine (HD1.out _ hbel).mono ?_
        rintro e w2 ⟨ao2, cap2, rfl, b2⟩
        have B2 : Hid (∀ o, Below w.heap.size w (w2.alloc o) ∧ Box (w2.alloc o) w.heap.size r.x r.nm (.slice ao r.l.length cap)) := fun o => ⟨up (andThen hbel b2) o, (hbk.kept b2).kept (up0 _ _)⟩
        clear c0 c1 c2 c3 c4 c5 c6 c7 c8 c9 c10 c11 b2 hbk hbel
        go_wp2
        go_roundw
        case rel => exact ⟨k + 1, by omega, by omega, by go_num, HE.out, (B2.out _).2, (B2.out _).1⟩
        case measure => simp [intOf]; omega
    · have HE : Hid ((k : Int) = A) := by
        show _ = _
        rw [← HLK.out, show 4 - k = (3 - k) + 1 by omega]
        show _ = (if (k : Int) < r.x.v then _ else (k : Int))
        rw [if_neg hlt]
      have c0 := hbk.cells.1
      clear HLK HDN hbk
      go_wp2
      go_ret2
      exact ⟨by rw [← HE.out]; rfl, hbel⟩
end Go.Proofs.YtdgdmlmdlojahaaDoor
