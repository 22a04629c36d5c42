import Derived.RegionTactic
import Derived.ChangeAlike
import Derived.BigRegion
import Derived.Test.YtpikdngccgdhiaaDoorQM2
/-
  Package manifest: parse's walk.
-/
namespace Go.Proofs.YtpikdngccgdhiaaDoor
open Go Go.RowKit
open Wb

theorem rd_new (w : World) (v : Value) (a : Int) (f : Nat) (t : TypeId) : Rd (w.alloc (.cells #[v, .int .i64 a, .int .i64 (f : Int)] t)) w.heap.size v a f := ⟨t, Array.getElem?_push_size⟩
theorem mb_new (w : World) (m : Mf) (v : Value) (t : TypeId) : Mb (w.alloc (.cells #[.int .i64 m.g, .int .i64 m.v, .int .i64 m.x, .int .i64 m.t, v] t)) w.heap.size m v := ⟨t, Array.getElem?_push_size⟩
theorem alloc_old (w : World) (o : Obj) (g : Nat) (h : g < w.heap.size) : (w.alloc o).heap[g]? = w.heap[g]? := by
  show (w.heap.push o)[g]? = _
  rw [Array.getElem?_push]
  rw [if_neg (by omega)]
/-- a manifest stored over another -/
def store5 (w : World) (A : Nat) (m : Mf) (v : Value) : World := ((((w.setCell ⟨A, 0, none⟩ (.int .i64 m.g)).setCell ⟨A, 1, none⟩ (.int .i64 m.v)).setCell ⟨A, 2, none⟩ (.int .i64 m.x)).setCell ⟨A, 3, none⟩ (.int .i64 m.t)).setCell ⟨A, 4, none⟩ v
theorem Mb.store {w : World} {A : Nat} {m : Mf} {v : Value} (h : Mb w A m v) (m' : Mf) (v' : Value) : Mb (store5 w A m' v') A m' v' := by
  obtain ⟨t, h⟩ := h
  refine ⟨t, ?_⟩
  simp only [store5, World.setCell, Array.getElem?_modify, if_true, h]
  rfl
theorem store5_below {B : Nat} {w0 w : World} {A : Nat} (h : Below B w0 w) (hA : B ≤ A) (m : Mf) (v : Value) : Below B w0 (store5 w A m v) := ((((h.setCell (p := ⟨A, 0, none⟩) hA _).setCell (p := ⟨A, 1, none⟩) hA _).setCell (p := ⟨A, 2, none⟩) hA _).setCell (p := ⟨A, 3, none⟩) hA _).setCell (p := ⟨A, 4, none⟩) hA _
theorem store5_block (w : World) (A : Nat) (m : Mf) (v : Value) (g : Nat) (hg : g ≠ A) : (store5 w A m v).heap[g]? = w.heap[g]? := by
  simp only [store5, World.setCell, Array.getElem?_modify, if_neg (Ne.symm hg)]
theorem drew_below {B : Nat} {w0 w : World} (h : Below B w0 w) : Below B w0 w.drew := Below.drew h
/-- what is there while numbers are read -/
structure Pa (w wr : World) (v : Value) (p : Int) (f : Nat) : Prop where
  rd : Rd wr (w.heap.size + 1) v p f
  res : Mb wr w.heap.size zeroM (.slice none 0 0)
  bel : Below w.heap.size w wr
  sz : w.heap.size + 2 ≤ wr.heap.size
theorem Pa.only {w wr w' : World} {v : Value} {p p' : Int} {f f' : Nat} (h : Pa w wr v p f) (hr : Rd w' (w.heap.size + 1) v p' f') (ho : Only (w.heap.size + 1) wr w') : Pa w w' v p' f' :=
  ⟨hr, h.res.block (ho.block _ (by omega)), h.bel.trans (ho.below (by omega)), by rw [ho.size]; exact h.sz⟩
set_option maxRecDepth 100000 in
set_option maxHeartbeats 8000000 in
theorem parse_any (v : Value) (body : List Nat) (w : World) (hb : Bs w v body) (hl : body.length ≤ 2000000) :
    Calls Tryd.prog 31 #[v] w fun e w' => ∃ sv, e = .returned (.tuple #[mfv (prs body).1 sv, .int .i64 ((prs body).2 : Int)]) ∧ SgR w.heap.size w' sv (prs body).1.l ∧ Below w.heap.size w w' := by
  have hin := infoSg3
  have HNX : Hid (∀ w' p f base, Pa w w' v p f → 0 ≤ base → base ≤ 9223372036854775807 → Calls Tryd.prog 51 #[.pointer (some ⟨w.heap.size + 1, 0, none⟩), .int .i64 base] w' fun e w'' => ∃ r p' f', nx body (p, f) base = (r, (p', f')) ∧ e = .returned (.int .i64 r) ∧ Pa w w'' v p' f' ∧ Only (w.heap.size + 1) w' w'' ∧ 0 ≤ r ∧ r ≤ 9223372036854775807) := fun w' p f base hp h0 h1 => by
    refine (next_any (w.heap.size + 1) v body (p, f) base w' hp.rd (hb.kept hp.bel) (by omega) h0 h1).mono ?_
    rintro e w'' ⟨he, hr, ho⟩
    have hv := nx_val body (p, f) base h0 h1
    rcases hn : nx body (p, f) base with ⟨r, p', f'⟩
    rw [hn] at he hr hv
    exact ⟨r, p', f', rfl, he, hp.only hr ho, ho, hv.1, hv.2⟩
  obtain ⟨ab, cb, rfl, _⟩ := hb.shape
  have HP0 : Hid (Pa w ((w.alloc (.cells #[.int .i64 0, .int .i64 0, .int .i64 0, .int .i64 0, .slice none 0 0] 24)).alloc (.cells #[.slice ab body.length cb, .int .i64 1, .int .i64 0] 87)) (.slice ab body.length cb) 1 0) := ⟨by
    have := rd_new (w.alloc (.cells #[.int .i64 0, .int .i64 0, .int .i64 0, .int .i64 0, .slice none 0 0] 24)) (.slice ab body.length cb) 1 0 87
    rw [heap1] at this
    exact this, (mb_new w zeroM (.slice none 0 0) 24).block (alloc_old _ _ _ (by rw [heap1]; omega)), up (up0 _ _) _, by rw [heap1, heap1]; omega⟩
  clear hb
  go_enter Tryd.func31, Tryd.ntmps31
  go_wp2_with fail
  refine (HNX.out _ 1 0 0 HP0.out (by omega) (by omega)).mono ?_
  rintro e w1 ⟨g, p1, f1, hn1, rfl, hp1, _, g0, g1⟩
  clear HP0
  go_wp2_with fail
  refine (HNX.out _ p1 f1 0 hp1 (by omega) (by omega)).mono ?_
  rintro e w2 ⟨vv, p2, f2, hn2, rfl, hp2, _, vv0, vv1⟩
  clear hp1
  go_wp2_with fail
  refine (HNX.out _ p2 f2 0 hp2 (by omega) (by omega)).mono ?_
  rintro e w3 ⟨x, p3, f3, hn3, rfl, hp3, _, x0, x1⟩
  clear hp2
  go_wp2_with fail
  refine (HNX.out _ p3 f3 0 hp3 (by omega) (by omega)).mono ?_
  rintro e w4 ⟨t, p4, f4, hn4, rfl, hp4, _, t0, t1⟩
  clear hp3
  obtain ⟨M, hM⟩ : ∃ M, M = w4.heap.size := ⟨_, rfl⟩
  have HP4 : Hid (Pa w (w4.alloc (.cells #[.int .i64 g, .int .i64 vv, .int .i64 x, .int .i64 t, .slice none 0 0] 24)) (.slice ab body.length cb) p4 f4 ∧ Mb (w4.alloc (.cells #[.int .i64 g, .int .i64 vv, .int .i64 x, .int .i64 t, .slice none 0 0] 24)) M ⟨g, vv, x, t, []⟩ (.slice none 0 0) ∧ w.heap.size + 2 ≤ M ∧ M + 1 ≤ (w4.alloc (.cells #[.int .i64 g, .int .i64 vv, .int .i64 x, .int .i64 t, .slice none 0 0] 24)).heap.size) := by
    have hs := hp4.sz
    refine ⟨⟨hp4.rd.block (alloc_old _ _ _ (by omega)), hp4.res.block (alloc_old _ _ _ (by omega)), up hp4.bel _, by rw [heap1]; omega⟩, ?_, by omega, by rw [heap1]; omega⟩
    rw [hM]
    exact mb_new w4 ⟨g, vv, x, t, []⟩ (.slice none 0 0) 24
  clear hp4
  have HMM : Hid (M = w4.heap.size) := hM
  clear hM
  go_wp2_with fail
  rw [← HMM.out]
  refine (HNX.out _ p4 f4 0 HP4.out.1 (by omega) (by omega)).mono ?_
  rintro e w5 ⟨cnt, p5, f5, hn5, rfl, hp5, ho5, cnt0, cnt1⟩
  obtain ⟨C, hC⟩ : ∃ C : Nat, cnt = (C : Int) := ⟨cnt.toNat, by omega⟩
  subst hC
  have HPR : Hid (prs body = if (pl body C (p5, f5) 0 []).1.2 ≠ 0 then (zeroM, (pl body C (p5, f5) 0 []).1.2) else if (pl body C (p5, f5) 0 []).1.1 ≠ (body.length : Int) then (zeroM, 85) else (⟨g, vv, x, t, (pl body C (p5, f5) 0 []).2⟩, 0)) := by
    show _ = _
    have e1 : n1 body = (g, (p1, f1)) := hn1
    have e2 : n2 body = (vv, (p2, f2)) := by unfold n2; rw [e1]; exact hn2
    have e3 : n3 body = (x, (p3, f3)) := by unfold n3; rw [e2]; exact hn3
    have e4 : n4 body = (t, (p4, f4)) := by unfold n4; rw [e3]; exact hn4
    have e5 : n5 body = ((C : Int), (p5, f5)) := by unfold n5; rw [e4]; exact hn5
    unfold prs
    rw [e1, e2, e3, e4, e5]
    simp only [Int.toNat_natCast]
  have HP5 : Hid (Pa w w5 (.slice ab body.length cb) p5 f5 ∧ Mb w5 M ⟨g, vv, x, t, []⟩ (.slice none 0 0) ∧ M + 1 ≤ w5.heap.size) := ⟨hp5, HP4.out.2.1.block (ho5.block _ (by have := HP4.out.2.2.1; omega)), by rw [ho5.size]; exact HP4.out.2.2.2⟩
  have HM2 : Hid (w.heap.size + 2 ≤ M) := HP4.out.2.2.1
  clear hp5 ho5 HP4 HMM hn1 hn2 hn3 hn4 hn5
  obtain ⟨mh, hmh⟩ : ∃ mh : Mf, mh = ⟨g, vv, x, t, []⟩ := ⟨_, rfl⟩
  rw [← hmh] at HP5
  have HMH : Hid (mh = ⟨g, vv, x, t, []⟩) := hmh
  clear hmh
  go_wp2
  go_loopw [6, 22] (fun bf i wr => ∃ (j : Nat) (p : Int) (f : Nat) (bef : Int) (acc : List Sg) (sv : Value), j ≤ C ∧ i = .int .i64 (j : Int) ∧ bf = .int .i64 bef ∧ 0 ≤ bef ∧ bef ≤ 9223372036854775807 ∧ (acc = [] ∨ (acc.length : Int) ≤ p ∧ p ≤ (body.length : Int)) ∧ pl body (C - j) (p, f) bef acc = pl body C (p5, f5) 0 [] ∧ Pa w wr (.slice ab body.length cb) p f ∧ Mb wr M mh sv ∧ SgR (M + 1) wr sv acc ∧ M + 1 ≤ wr.heap.size) (fun _ i _ => C - (intOf i).toNat)
  case atStart => exact ⟨0, p5, f5, 0, [], _, Nat.zero_le _, rfl, rfl, by omega, by omega, .inl rfl, rfl, HP5.out.1, HP5.out.2.1, SgR.nil _ _, HP5.out.2.2⟩
  case round =>
    obtain ⟨j, p, f, bef, acc, sv, hj, rfl, rfl, hb0, hb1, hacc, hpl, hpa, hmb, hsg, hms⟩ := hrel
    clear HP5
    by_cases hlt : j < C
    · obtain ⟨r, hr⟩ : ∃ r, C - j = r + 1 := ⟨C - j - 1, by omega⟩
      rw [hr] at hpl
      have HX : Hid (Mb wr M mh sv ∧ SgR (M + 1) wr sv acc ∧ M + 1 ≤ wr.heap.size) := ⟨hmb, hsg, hms⟩
      have hjC : (j : Int) < (C : Int) := by omega
      clear hmb hsg hms
      go_wp2_with fail
      refine (HNX.out _ p f bef hpa hb0 hb1).mono ?_
      rintro e wa ⟨b1, pa, fa, ha, rfl, hpa1, oa, b10, b11⟩
      clear hpa
      go_wp2_with fail
      refine (HNX.out _ pa fa 0 hpa1 (by omega) (by omega)).mono ?_
      rintro e wb ⟨b2, pb, fb, hb, rfl, hpa2, ob, b20, b21⟩
      clear hpa1
      go_wp2_with fail
      refine (HNX.out _ pb fb 0 hpa2 (by omega) (by omega)).mono ?_
      rintro e wc ⟨b3, pc, fc, hc, rfl, hpa3, oc, b30, b31⟩
      clear hpa2
      have HPL : Hid (pl body C (p5, f5) 0 [] = if fc ≠ 0 then ((pc, fc), acc) else pl body r (pc, fc) b1 (acc ++ [⟨b1, b2, b3⟩])) := by
        show _ = _
        rw [← hpl, pl]
        simp only [ha, hb, hc]
      have hne : M ≠ w.heap.size + 1 := by have := HM2.out; omega
      have HY : Hid (Pa w wc (.slice ab body.length cb) pc fc ∧ Mb wc M mh sv ∧ SgR (M + 1) wc sv acc ∧ M + 1 ≤ wc.heap.size) := by
        have hbl : ∀ q, q ≠ w.heap.size + 1 → wc.heap[q]? = wr.heap[q]? := fun q hq => ((oc.block q hq).trans (ob.block q hq)).trans (oa.block q hq)
        refine ⟨hpa3, HX.out.1.block (hbl _ hne), HX.out.2.1.block (fun q hq => hbl q ?_), by rw [oc.size, ob.size, oa.size]; exact HX.out.2.2⟩
        have h1 := (World.ownsRow.lt HX.out.2.1 q hq).1
        have h2 := HM2.out
        omega
      have c2 := fun o => ((hpa3.rd.block (alloc_old wc o (w.heap.size + 1) (by have := hpa3.sz; omega))).c2)
      by_cases hfc : fc = 0
      · subst hfc
        have hstep := nx_step body (pb, fb) 0 (by rw [hc])
        have hstep2 := nx_step body (pa, fa) 0 (by rw [hb]; exact nx_fault body (pb, fb) 0 (by rw [hc]))
        have hstep1 := nx_step body (p, f) bef (by rw [ha]; exact nx_fault body (pa, fa) 0 (by rw [hb]; exact nx_fault body (pb, fb) 0 (by rw [hc])))
        rw [hc] at hstep
        rw [hb] at hstep2
        rw [ha] at hstep1
        simp only at hstep hstep1 hstep2
        have HAL : Hid ((acc.length : Int) + 1 ≤ pc ∧ pc ≤ (body.length : Int)) := by
          rcases hacc with h | h
          · rw [h]
            exact ⟨by simp; omega, hstep.2.1⟩
          · exact ⟨by omega, hstep.2.1⟩
        have HPN : Hid (pl body r (pc, 0) b1 (acc ++ [⟨b1, b2, b3⟩]) = pl body C (p5, f5) 0 []) := by
          show _ = _
          rw [HPL.out, if_neg (by simp)]
        have HZ : Hid (∀ o1 o2, Pa w ((wc.alloc o1).alloc o2) (.slice ab body.length cb) pc 0 ∧ Mb ((wc.alloc o1).alloc o2) M mh sv ∧ SgR (M + 1) ((wc.alloc o1).alloc o2) sv acc ∧ M + 1 ≤ ((wc.alloc o1).alloc o2).heap.size) := fun o1 o2 => by
          have hs := HY.out.2.2.2
          have hs2 := HY.out.1.sz
          have hal : ∀ q, q < wc.heap.size → ((wc.alloc o1).alloc o2).heap[q]? = wc.heap[q]? := fun q hq => (alloc_old _ _ _ (by rw [heap1]; omega)).trans (alloc_old _ _ _ hq)
          exact ⟨⟨HY.out.1.rd.block (hal _ (by omega)), HY.out.1.res.block (hal _ (by omega)), up (up HY.out.1.bel _) _, by rw [heap1, heap1]; omega⟩, HY.out.2.1.block (hal _ (by omega)), HY.out.2.2.1.block (fun q hq => hal q (World.ownsRow.lt HY.out.2.2.1 q hq).2), by rw [heap1, heap1]; omega⟩
        have m4 := fun o => ((HY.out.2.1.block (alloc_old wc o M (by have := HY.out.2.2.2; omega))).cells.2.2.2.2)
        have HSV : Hid (∀ q, sv.ownBlock = some q → M + 1 ≤ q ∧ q < wc.heap.size) := fun q hq => World.ownsRow.lt HY.out.2.2.1 q hq
        have HMC : Hid (M < wc.heap.size) := by have := HY.out.2.2.2; show _ < _; omega
        have HRG : Hid (∀ o1 t, ((wc.alloc o1).alloc (.cells #[.int .i64 b1, .int .i64 b2, .int .i64 b3] t)).rangeAt (wc.heap.size + 1) 0 (sgc ⟨b1, b2, b3⟩)) := fun o1 t => by
          have hh : ((wc.alloc o1).alloc (.cells #[.int .i64 b1, .int .i64 b2, .int .i64 b3] t)).heap[(wc.alloc o1).heap.size]? = some (.cells #[.int .i64 b1, .int .i64 b2, .int .i64 b3] t) := Array.getElem?_push_size
          rw [heap1] at hh
          have h2 := World.rangeAt_of_block hh 0 3
          simpa [sgc] using h2
        have hmax : (acc.length + 1) * 24 ≤ 140737488355328 := by have := HAL.out; omega
        obtain ⟨asv, csv, esv⟩ : ∃ asv, ∃ csv : Nat, sv = .slice asv acc.length csv := by
          obtain ⟨asv, csv, e, _⟩ := HY.out.2.2.1.at
          exact ⟨asv, csv, e⟩
        subst esv
        clear HPL HPR hpl ha hb hc oa ob oc HX hpa3 hstep hstep1 hstep2 hacc HY
        go_wp2_with (at_builtin; refine wpList_append_seg _ rfl (.tmp 38) (.tmp 40) 22 rfl (M + 1) hin Tryd.underlying22 _ acc ⟨b1, b2, b3⟩ rfl (HZ.out _ _).2.2.1 (wc.heap.size + 1) rfl (HRG.out _ _) hmax (HZ.out _ _).2.2.2 ?_)
        intro v6 w6 hs6 g6 hat6
        obtain ⟨a6, c6, e6⟩ : ∃ a6, ∃ c6 : Nat, v6 = .slice a6 (acc ++ [(⟨b1, b2, b3⟩ : Sg)]).length c6 := by
          obtain ⟨a6, c6, e, _⟩ := hs6.at
          exact ⟨a6, c6, e⟩
        simp only [List.length_append, List.length_cons, List.length_nil, Nat.zero_add] at e6
        subst e6
        have hkeep : ∀ q, q < wc.heap.size + 2 → (∀ h : (Value.slice asv acc.length csv).ownBlock = some q, False) → ∀ o1 o2, w6.heap[q]? = ((wc.alloc o1).alloc o2).heap[q]? → True := fun _ _ _ _ _ _ => trivial
        have HW6 : Hid (Pa w w6 (.slice ab body.length cb) pc 0 ∧ Mb w6 M mh (.slice asv acc.length csv) ∧ w6.cell? ⟨wc.heap.size, 0, none⟩ = some (.int .i64 b1) ∧ M + 1 ≤ w6.heap.size) := by
          have hz := HZ.out (.cells #[.int .i64 b1, .int .i64 b2, .int .i64 b3] 46) (.cells #[.int .i64 b1, .int .i64 b2, .int .i64 b3] 46)
          have hm := HM2.out
          have hmc := HMC.out
          have hsz : ((wc.alloc (.cells #[.int .i64 b1, .int .i64 b2, .int .i64 b3] 46)).alloc (.cells #[.int .i64 b1, .int .i64 b2, .int .i64 b3] 46)).heap.size = wc.heap.size + 2 := by rw [heap1, heap1]
          have hbl : ∀ q, q < wc.heap.size + 2 → (q ≤ M ∨ wc.heap.size ≤ q) → w6.heap[q]? = ((wc.alloc (.cells #[.int .i64 b1, .int .i64 b2, .int .i64 b3] 46)).alloc (.cells #[.int .i64 b1, .int .i64 b2, .int .i64 b3] 46)).heap[q]? := fun q hq hd => g6.block q (by rw [hsz]; exact hq) (fun e => by
            have := HSV.out q e.symm
            omega)
          refine ⟨⟨hz.1.rd.block (hbl _ (by omega) (by omega)), hz.1.res.block (hbl _ (by omega) (by omega)), hz.1.bel.grown g6 hz.1.bel.size (fun q hq => by have := HSV.out q hq; omega), Nat.le_trans hz.1.sz g6.size⟩, hz.2.1.block (hbl _ (by omega) (by omega)), ?_, Nat.le_trans hz.2.2.2 g6.size⟩
          rw [World.cell?_of_block (a := ⟨wc.heap.size, 0, none⟩) (hbl wc.heap.size (by omega) (.inr (Nat.le_refl _)))]
          exact ((up0 (wc.alloc _) _).cell (p := ⟨wc.heap.size, 0, none⟩) (by show wc.heap.size < (wc.alloc _).heap.size; rw [heap1]; omega)).trans (World.cell?_alloc_new wc _ _ 0)
        have l4 := HW6.out.2.1.cells.2.2.2.2
        have z4 := HW6.out.2.1.frozen 4
        have ls : (w6.setCell ⟨M, 4, none⟩ (.slice a6 (acc.length + 1) c6)).cell? ⟨wc.heap.size, 0, none⟩ = some (.int .i64 b1) := by
          have hmc := HMC.out
          rw [World.cell?_of_block (a := ⟨wc.heap.size, 0, none⟩) ((Only.set M w6 4 _).block wc.heap.size (by omega))]
          exact HW6.out.2.2.1
        have R : Hid (Pa w (w6.setCell ⟨M, 4, none⟩ (.slice a6 (acc.length + 1) c6)) (.slice ab body.length cb) pc 0 ∧ Mb (w6.setCell ⟨M, 4, none⟩ (.slice a6 (acc.length + 1) c6)) M mh (.slice a6 (acc.length + 1) c6) ∧ SgR (M + 1) (w6.setCell ⟨M, 4, none⟩ (.slice a6 (acc.length + 1) c6)) (.slice a6 (acc.length + 1) c6) (acc ++ [⟨b1, b2, b3⟩]) ∧ M + 1 ≤ (w6.setCell ⟨M, 4, none⟩ (.slice a6 (acc.length + 1) c6)).heap.size) := by
          have hm := HM2.out
          have ho := Only.set M w6 4 (.slice a6 (acc.length + 1) c6)
          exact ⟨⟨HW6.out.1.rd.block (ho.block _ (by omega)), HW6.out.1.res.block (ho.block _ (by omega)), HW6.out.1.bel.trans (ho.below (by omega)), by rw [ho.size]; exact HW6.out.1.sz⟩, HW6.out.2.1.put4 _, hs6.block (fun q hq => ho.block q (by have := (World.ownsRow.lt hs6 q hq).1; omega)), by rw [ho.size]; exact HW6.out.2.2.2⟩
        clear hs6 g6 hat6 HW6 HZ HRG HSV m4 c2 hkeep
        go_wp2
        go_roundw
        case rel => exact ⟨j + 1, pc, 0, b1, acc ++ [⟨b1, b2, b3⟩], _, by omega, by go_num, rfl, b10, b11, .inr ⟨by rw [List.length_append]; simp; exact HAL.out.1, HAL.out.2⟩, by rw [show C - (j + 1) = r by omega]; exact HPN.out, R.out.1, R.out.2.1, R.out.2.2.1, R.out.2.2.2⟩
        case measure => simp [intOf]; omega
      · have HPZ : Hid (prs body = (zeroM, fc)) := by
          show _ = _
          rw [HPR.out, HPL.out, if_pos hfc]
          simp only
          rw [if_pos hfc]
        have hfz : ¬ (fc : Int) = 0 := by omega
        have HF : Hid (∀ w', Below w.heap.size w w' → ∃ sv, Ending.returned (.tuple #[mfv zeroM (.slice none 0 0), .int .i64 (fc : Int)]) = .returned (.tuple #[mfv (prs body).1 sv, .int .i64 ((prs body).2 : Int)]) ∧ SgR w.heap.size w' sv (prs body).1.l ∧ Below w.heap.size w w') := fun w' hb => ⟨_, by rw [HPZ.out], by rw [HPZ.out]; exact SgR.nil _ _, hb⟩
        obtain ⟨W, hW⟩ : ∃ W, W = wc.alloc (.cells #[.int .i64 b1, .int .i64 b2, .int .i64 b3] 46) := ⟨_, rfl⟩
        have HWE : Hid (W = wc.alloc (.cells #[.int .i64 b1, .int .i64 b2, .int .i64 b3] 46)) := hW
        have hres : Mb W w.heap.size zeroM (.slice none 0 0) := by rw [hW]; exact HY.out.1.res.block (alloc_old _ _ _ (by have := HY.out.1.sz; omega))
        have hrd : Rd W (w.heap.size + 1) (.slice ab body.length cb) pc fc := by rw [hW]; exact HY.out.1.rd.block (alloc_old _ _ _ (by have := HY.out.1.sz; omega))
        have HBW : Hid (Below w.heap.size w W) := by show Below _ _ _; rw [hW]; exact up HY.out.1.bel _
        have HRES : Hid (Mb W w.heap.size zeroM (.slice none 0 0)) := hres
        have c2' := hrd.c2
        obtain ⟨r0, r1, r2, r3, r4⟩ := hres.cells
        have z0 := hres.frozen 0
        have z1 := hres.frozen 1
        have z2 := hres.frozen 2
        have z3 := hres.frozen 3
        have z4 := hres.frozen 4
        clear HPL HPR hpl ha hb hc oa ob oc HX hfc hW hres hrd HY HPZ
        go_wp2_with fail
        rw [← HWE.out]
        clear c2 HWE
        have HEN : Hid (Mb (store5 W w.heap.size zeroM (.slice none 0 0)).drew w.heap.size zeroM (.slice none 0 0) ∧ Below w.heap.size w (store5 W w.heap.size zeroM (.slice none 0 0)).drew) := ⟨HRES.out.store zeroM _, Below.drew (store5_below HBW.out (Nat.le_refl _) zeroM _)⟩
        go_region
        go_wp2
        obtain ⟨WE, hWE⟩ : ∃ WE, WE = (store5 W w.heap.size zeroM (.slice none 0 0)).drew := ⟨_, rfl⟩
        rw [← hWE] at HEN
        have hWE2 : WE = (((((W.setCell ⟨w.heap.size, 0, none⟩ (.int .i64 0)).setCell ⟨w.heap.size, 1, none⟩ (.int .i64 0)).setCell ⟨w.heap.size, 2, none⟩ (.int .i64 0)).setCell ⟨w.heap.size, 3, none⟩ (.int .i64 0)).setCell ⟨w.heap.size, 4, none⟩ (.slice none 0 0)).drew := hWE
        rw [← hWE2]
        clear hWE hWE2
        obtain ⟨y0, y1, y2, y3, y4⟩ := HEN.out.1.cells
        clear r0 r1 r2 r3 r4 z0 z1 z2 z3 z4
        unfold zeroM at y0 y1 y2 y3
        simp only at y0 y1 y2 y3
        (try simp only [Exit.inBlock, Exit.then])
        refine bodyPost_ret (by simp [results, Tryd.results31, go_sem, y0, y1, y2, y3, y4]; try rfl) rfl ?_
        exact HF.out _ HEN.out.2
    · have hjC : j = C := by omega
      subst hjC
      rw [Nat.sub_self, pl] at hpl
      have HPQ : Hid (prs body = if f ≠ 0 then (zeroM, f) else if p ≠ (body.length : Int) then (zeroM, 85) else (⟨g, vv, x, t, acc⟩, 0)) := by
        show _ = _
        rw [HPR.out, ← hpl]
      have HY : Hid (Pa w wr (.slice ab body.length cb) p f ∧ Mb wr M mh sv ∧ SgR (M + 1) wr sv acc) := ⟨hpa, hmb, hsg⟩
      clear hpl HPR hpa hmb hsg
      by_cases hf : f = 0
      · subst hf
        by_cases hp : p = (body.length : Int)
        · have HPZ : Hid (prs body = (⟨g, vv, x, t, acc⟩, 0)) := by
            show _ = _
            rw [HPQ.out, if_neg (by simp), if_neg (by simp [hp])]
          have HMB : Hid (Mb wr M ⟨g, vv, x, t, []⟩ sv) := by
            have h9 := HY.out.2.1
            rw [HMH.out] at h9
            exact h9
          obtain ⟨asv, csv, esv⟩ : ∃ asv, ∃ csv : Nat, sv = .slice asv acc.length csv := by
            obtain ⟨asv, csv, e, _⟩ := HY.out.2.2.at
            exact ⟨asv, csv, e⟩
          subst esv
          have HSG : Hid (SgR w.heap.size (store5 wr w.heap.size ⟨g, vv, x, t, []⟩ (.slice asv acc.length csv)) (.slice asv acc.length csv) acc) := by
            have h9 := HY.out.2.2
            have hm := HM2.out
            exact (h9.block (fun q hq => store5_block _ _ _ _ q (by have := (World.ownsRow.lt h9 q hq).1; omega))).weak (by omega)
          have hrd := HY.out.1.rd
          have hres := HY.out.1.res
          have HBW : Hid (Below w.heap.size w wr) := HY.out.1.bel
          have HRES : Hid (Mb wr w.heap.size zeroM (.slice none 0 0)) := hres
          have c2' := hrd.c2
          have c1' := hrd.c1
          obtain ⟨r0, r1, r2, r3, r4⟩ := hres.cells
          have z0 := hres.frozen 0
          have z1 := hres.frozen 1
          have z2 := hres.frozen 2
          have z3 := hres.frozen 3
          have z4 := hres.frozen 4
          have HEN : Hid (Mb (store5 wr w.heap.size ⟨g, vv, x, t, []⟩ (.slice asv acc.length csv)) w.heap.size ⟨g, vv, x, t, []⟩ (.slice asv acc.length csv) ∧ (∃ sv, Ending.returned (.tuple #[.agg #[.int .i64 g, .int .i64 vv, .int .i64 x, .int .i64 t, .slice asv acc.length csv], .int .i64 0]) = .returned (.tuple #[mfv (prs body).1 sv, .int .i64 ((prs body).2 : Int)]) ∧ SgR w.heap.size (store5 wr w.heap.size ⟨g, vv, x, t, []⟩ (.slice asv acc.length csv)) sv (prs body).1.l ∧ Below w.heap.size w (store5 wr w.heap.size ⟨g, vv, x, t, []⟩ (.slice asv acc.length csv)))) := ⟨HRES.out.store _ _, _, by rw [HPZ.out]; rfl, by rw [HPZ.out]; exact HSG.out, store5_below HBW.out (Nat.le_refl _) _ _⟩
          obtain ⟨m0, m1, m2, m3, m4⟩ := HMB.out.cells
          simp only at m0 m1 m2 m3 m4
          rw [hp] at c1'
          clear HPZ HPQ HSG HMB HY hrd hres HRES
          go_wp2
          obtain ⟨WE, hWE⟩ : ∃ WE, WE = store5 wr w.heap.size ⟨g, vv, x, t, []⟩ (.slice asv acc.length csv) := ⟨_, rfl⟩
          rw [← hWE] at HEN
          have hWE2 : WE = (((((wr.setCell ⟨w.heap.size, 0, none⟩ (.int .i64 g)).setCell ⟨w.heap.size, 1, none⟩ (.int .i64 vv)).setCell ⟨w.heap.size, 2, none⟩ (.int .i64 x)).setCell ⟨w.heap.size, 3, none⟩ (.int .i64 t)).setCell ⟨w.heap.size, 4, none⟩ (.slice asv acc.length csv)) := hWE
          rw [← hWE2]
          clear hWE hWE2
          obtain ⟨y0, y1, y2, y3, y4⟩ := HEN.out.1.cells
          simp only at y0 y1 y2 y3 y4
          clear r0 r1 r2 r3 r4 z0 z1 z2 z3 z4 m0 m1 m2 m3 m4
          (try simp only [Exit.inBlock, Exit.then])
          refine bodyPost_ret (by simp [results, Tryd.results31, go_sem, y0, y1, y2, y3, y4]; try rfl) rfl ?_
          exact HEN.out.2
        · have HPZ : Hid (prs body = (zeroM, 85)) := by
            show _ = _
            rw [HPQ.out, if_neg (by simp), if_pos hp]
          have HF : Hid (∀ w', Below w.heap.size w w' → ∃ sv, Ending.returned (.tuple #[mfv zeroM (.slice none 0 0), .int .i64 85]) = .returned (.tuple #[mfv (prs body).1 sv, .int .i64 ((prs body).2 : Int)]) ∧ SgR w.heap.size w' sv (prs body).1.l ∧ Below w.heap.size w w') := fun w' hb => ⟨_, by rw [HPZ.out]; rfl, by rw [HPZ.out]; exact SgR.nil _ _, hb⟩
          have hrd := HY.out.1.rd
          have hres := HY.out.1.res
          have HBW : Hid (Below w.heap.size w wr) := HY.out.1.bel
          have HRES : Hid (Mb wr w.heap.size zeroM (.slice none 0 0)) := hres
          have c2' := hrd.c2
          have c1' := hrd.c1
          obtain ⟨r0, r1, r2, r3, r4⟩ := hres.cells
          have z0 := hres.frozen 0
          have z1 := hres.frozen 1
          have z2 := hres.frozen 2
          have z3 := hres.frozen 3
          have z4 := hres.frozen 4
          have HEN : Hid (Mb (store5 wr w.heap.size zeroM (.slice none 0 0)) w.heap.size zeroM (.slice none 0 0) ∧ Below w.heap.size w (store5 wr w.heap.size zeroM (.slice none 0 0))) := ⟨HRES.out.store zeroM _, store5_below HBW.out (Nat.le_refl _) zeroM _⟩
          unfold zeroM at r0 r1 r2 r3
          simp only at r0 r1 r2 r3
          clear HPZ HPQ HY hrd hres HRES
          go_wp2
          obtain ⟨WE, hWE⟩ : ∃ WE, WE = store5 wr w.heap.size zeroM (.slice none 0 0) := ⟨_, rfl⟩
          rw [← hWE] at HEN
          have hWE2 : WE = (((((wr.setCell ⟨w.heap.size, 0, none⟩ (.int .i64 0)).setCell ⟨w.heap.size, 1, none⟩ (.int .i64 0)).setCell ⟨w.heap.size, 2, none⟩ (.int .i64 0)).setCell ⟨w.heap.size, 3, none⟩ (.int .i64 0)).setCell ⟨w.heap.size, 4, none⟩ (.slice none 0 0)) := hWE
          rw [← hWE2]
          clear hWE hWE2
          obtain ⟨y0, y1, y2, y3, y4⟩ := HEN.out.1.cells
          clear r0 r1 r2 r3 r4 z0 z1 z2 z3 z4
          unfold zeroM at y0 y1 y2 y3
          simp only at y0 y1 y2 y3
          (try simp only [Exit.inBlock, Exit.then])
          refine bodyPost_ret (by simp [results, Tryd.results31, go_sem, y0, y1, y2, y3, y4]; try rfl) rfl ?_
          exact HF.out _ HEN.out.2
      · have HPZ : Hid (prs body = (zeroM, f)) := by
          show _ = _
          rw [HPQ.out, if_pos hf]
        have hfz : ¬ (f : Int) = 0 := by omega
        have HF : Hid (∀ w', Below w.heap.size w w' → ∃ sv, Ending.returned (.tuple #[mfv zeroM (.slice none 0 0), .int .i64 (f : Int)]) = .returned (.tuple #[mfv (prs body).1 sv, .int .i64 ((prs body).2 : Int)]) ∧ SgR w.heap.size w' sv (prs body).1.l ∧ Below w.heap.size w w') := fun w' hb => ⟨_, by rw [HPZ.out], by rw [HPZ.out]; exact SgR.nil _ _, hb⟩
        have hrd := HY.out.1.rd
        have hres := HY.out.1.res
        have HBW : Hid (Below w.heap.size w wr) := HY.out.1.bel
        have HRES : Hid (Mb wr w.heap.size zeroM (.slice none 0 0)) := hres
        have c2' := hrd.c2
        have c1' := hrd.c1
        obtain ⟨r0, r1, r2, r3, r4⟩ := hres.cells
        have z0 := hres.frozen 0
        have z1 := hres.frozen 1
        have z2 := hres.frozen 2
        have z3 := hres.frozen 3
        have z4 := hres.frozen 4
        have HEN : Hid (Mb (store5 wr w.heap.size zeroM (.slice none 0 0)).drew w.heap.size zeroM (.slice none 0 0) ∧ Below w.heap.size w (store5 wr w.heap.size zeroM (.slice none 0 0)).drew) := ⟨HRES.out.store zeroM _, Below.drew (store5_below HBW.out (Nat.le_refl _) zeroM _)⟩
        clear HPZ HPQ HY hrd hres HRES hf
        go_wp2_with fail
        go_region
        go_wp2
        obtain ⟨WE, hWE⟩ : ∃ WE, WE = (store5 wr w.heap.size zeroM (.slice none 0 0)).drew := ⟨_, rfl⟩
        rw [← hWE] at HEN
        have hWE2 : WE = (((((wr.setCell ⟨w.heap.size, 0, none⟩ (.int .i64 0)).setCell ⟨w.heap.size, 1, none⟩ (.int .i64 0)).setCell ⟨w.heap.size, 2, none⟩ (.int .i64 0)).setCell ⟨w.heap.size, 3, none⟩ (.int .i64 0)).setCell ⟨w.heap.size, 4, none⟩ (.slice none 0 0)).drew := hWE
        rw [← hWE2]
        clear hWE hWE2
        obtain ⟨y0, y1, y2, y3, y4⟩ := HEN.out.1.cells
        clear r0 r1 r2 r3 r4 z0 z1 z2 z3 z4
        unfold zeroM at y0 y1 y2 y3
        simp only at y0 y1 y2 y3
        (try simp only [Exit.inBlock, Exit.then])
        refine bodyPost_ret (by simp [results, Tryd.results31, go_sem, y0, y1, y2, y3, y4]; try rfl) rfl ?_
        exact HF.out _ HEN.out.2
end Go.Proofs.YtpikdngccgdhiaaDoor
