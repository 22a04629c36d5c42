/-
  WireAgain: the law's walk, a negative size.
-/
import Derived.Test.YtdoclmkldfemhaaDoorAgain3
namespace Go.Proofs.YtdoclmkldfemhaaDoor
open Go Go.RowKit Go.ChangeShapes Go.WideShapes
open Wb

set_option maxRecDepth 100000 in
set_option maxHeartbeats 8000000 in
theorem again_neg (sz : Int) (v : Value) (n : Nat) (w : World) (hT : Tab w) (h : Script w v n) (hs : ¬ 0 ≤ sz.tmod 400) (h1 : -400 < sz.tmod 400) (h2 : sz.tmod 400 < 400) :
    Calls Tryd.prog 3 #[.int .i64 sz, v] w fun e w' => e = .returned (.bool true) ∧ Below w.heap.size w w' := by
  obtain ⟨i0, hi, hz0, hz1, hz2⟩ := info_parts info5
  obtain ⟨ao, cap, rfl, hn, hc⟩ := h
  unfold maxLen at hn
  have HC : Hid (∀ k, k < n → ∃ b off kd u i a m bv pv l ls, ao = some ⟨b, off, none⟩ ∧ OpAt w b (off + k * 7) kd u i a m bv pv l ls) := hc
  have HT : Hid (∀ w', Below w.heap.size w w' → Tab w') := fun w' hb => hT.kept hb
  clear hc hT
  obtain ⟨r, hr⟩ : ∃ r, sz.tmod 400 = r := ⟨_, rfl⟩
  rw [hr] at hs h1 h2
  obtain ⟨N, hN⟩ : ∃ N : Nat, -r = (N : Int) := Int.eq_ofNat_of_zero_le (by omega)
  have hN4 : N < 400 := by omega
  go_enter Tryd.func3, Tryd.ntmps3
  go_wp2_with (at_make; refine wpList_make_full _ rfl _ _ 23 rfl w.heap.size 5 i0 (.int .u8 0) 1 Tryd.underlying23 hi hz0 hz1 _ _ _ _ N rfl rfl (by first | exact hN | omega) (by first | exact hN | omega) (by rw [hz2]; omega) (by unfold maxLen; omega) (Nat.le_refl _) ?_)
  intro w1 hown hgr
  have B1 : Below w.heap.size w w1 := (Below.refl _ w).grown hgr (Nat.le_refl _) (fun k hk => by cases hk)
  have HBUF1 : Hid (Buf w1 w.heap.size (List.replicate N 0)) := buf_made hown
  have HB1 : Hid (Below w.heap.size w w1) := B1
  clear hown hgr B1
  go_wp2
  go_loopw [6] (fun ii wr => ∃ (k : Nat) (l : List Nat), k ≤ n ∧ ii = .int .i64 (k : Int) ∧ l.length = N ∧ Buf wr w.heap.size l ∧ Below w.heap.size w wr) (fun ii _ => n - (intOf ii).toNat)
  case atStart => exact ⟨0, List.replicate N 0, Nat.zero_le _, rfl, List.length_replicate, HBUF1.out, HB1.out⟩
  case round =>
    obtain ⟨k, l0, hk, rfl, hl0, hbuf0, hbel⟩ := hrel
    clear HBUF1 HB1
    by_cases hlt : k < n
    · obtain ⟨b, off, kd, u, i, a, m, bv, pv, lb, ls, rfl, hop⟩ := HC.out k hlt
      have hop' := hop.kept hbel
      have HO : Hid (OpAt w b (off + k * 7) kd u i a m bv pv lb ls) := hop
      obtain ⟨c0, c1, c2, c3, c4, c5, c6, hbb, hpp, _, _, _, _, _, hmw⟩ := hop'
      obtain ⟨aop, capp, rfl, _⟩ := hpp.shape
      have hmm := (bounds_i64 hmw).2
      have HM : Hid (m ≤ 9223372036854775807) := hmm
      clear hop HC hmw hmm hpp
      have HNE : Hid (lb ≠ [] → bv.ownBlock ≠ some w.heap.size) := fun hne e => by
        obtain ⟨ao, cap, e1, _, _, _, hcc⟩ := HO.out.hb.shape
        obtain ⟨b1, off1, e2, hcell⟩ := hcc hne
        have := World.block_lt_of_cell? _ _ (hcell 0 (List.length_pos_iff.2 hne))
        rw [e1, e2] at e
        have e3 : b1 = w.heap.size := Option.some.inj e
        simp only at this
        omega
      obtain ⟨aob, capb, rfl, hlb, hmb, _, _⟩ := hbb.shape
      have HBA : Hid (Bs (wr.alloc (.cells #[.int .i64 kd, .int .u64 u, .int .i64 i, .int .i64 a, .int .i64 m, .slice aob lb.length capb, .slice aop ls.length capp] 27)) (.slice aob lb.length capb) lb) := hbb.kept (up0 _ _)
      clear hbb
      have HBX : Hid (Box (wr.alloc (.cells #[.int .i64 kd, .int .u64 u, .int .i64 i, .int .i64 a, .int .i64 m, .slice aob lb.length capb, .slice aop ls.length capp] 27)) wr.heap.size kd u i a m (.slice aob lb.length capb) (.slice aop ls.length capp)) := Box.new wr kd u i a m _ _
      have HBF : Hid (Buf (wr.alloc (.cells #[.int .i64 kd, .int .u64 u, .int .i64 i, .int .i64 a, .int .i64 m, .slice aob lb.length capb, .slice aop ls.length capp] 27)) w.heap.size l0) := hbuf0.kept (up0 _ _)
      have HBW : Hid (Below w.heap.size w (wr.alloc (.cells #[.int .i64 kd, .int .u64 u, .int .i64 i, .int .i64 a, .int .i64 m, .slice aob lb.length capb, .slice aop ls.length capp] 27))) := up hbel _
      have hgl := hbuf0.lt
      have hsz := hbel.size
      clear hbuf0 hbel
      go_wp2_with fail
      generalize (wr.alloc (.cells #[.int .i64 kd, .int .u64 u, .int .i64 i, .int .i64 a, .int .i64 m, .slice aob lb.length capb, .slice aop ls.length capp] 27)) = wa at *
      clear c0 c1 c2 c3 c4 c5 c6
      have HFB := filledBy_any w.heap.size l0 lb (.slice aob lb.length capb) wa HBF.out (by omega) HBA.out HNE.out
      rw [hl0] at HFB
      refine Calls.mono HFB ?_
      clear HFB HBF HBA HNE
      obtain ⟨L, hL⟩ : ∃ L, fillL N lb = L := ⟨_, rfl⟩
      have HLL : Hid (L.length = N) := by show _ = _; rw [← hL, fillL_len]
      rw [hL]
      clear hL
      rintro e w2 ⟨rfl, hbuf2, hg2⟩
      have HB2 : Hid (Below w.heap.size w w2) := below_grown HBW.out hg2 (Nat.le_refl _)
      have HX2 : Hid (Box w2 wr.heap.size kd u i a m (.slice aob lb.length capb) (.slice aop ls.length capp)) := HBX.out.grown hg2 (by omega)
      have HU2 : Hid (Buf w2 w.heap.size L) := hbuf2
      clear hbuf2 hg2 HBX HBW
      have HP3 : Hid (∀ z : Int, z = (N : Int) → Calls Tryd.prog 10 #[.slice (some ⟨w.heap.size, 0, none⟩) N N, .int .i64 0, .int .i64 z] w2 fun e w' => ∃ v', e = .returned v' ∧ Own w2.heap.size w' v' L ∧ Below w2.heap.size w2 w') := by
        rintro z rfl
        have := rwhole_any (.slice (some ⟨w.heap.size, 0, none⟩) L.length L.length) L w2 (HU2.out.bs (by rw [HLL.out]; unfold maxLen; omega)) (by rw [HLL.out]; omega)
        rw [HLL.out] at this
        exact this
      go_wp2_with fail
      refine (HP3.out _ rfl).mono ?_
      rintro e w3 ⟨v3, rfl, o3, b3⟩
      obtain ⟨ao3, cap3, e3, _⟩ := o3.bs.shape
      have HE3 : Hid (L.length = N) := HLL.out
      rw [HE3.out] at e3
      subst e3
      have hs3 := HX2.out
      have HB3 : Hid (Below w.heap.size w w3) := andThen HB2.out b3
      have HX3 : Hid (Box w3 wr.heap.size kd u i a m (.slice aob lb.length capb) (.slice aop ls.length capp)) := HX2.out.kept b3
      have HU3 : Hid (Buf w3 w.heap.size L) := HU2.out.kept b3
      have HO3 : Hid (Own w2.heap.size w3 (.slice ao3 N cap3) L) := o3
      have hx2 : wr.heap.size < w2.heap.size := (Array.getElem?_eq_some_iff.1 HX2.out).1
      have HXX : Hid (wr.heap.size < w2.heap.size) := hx2
      clear o3 b3 HB2 HX2 HU2 HP3 hs3 hx2
      have HW : Hid (∀ w', Below w3.heap.size w3 w' → Bs w' (.slice (some ⟨w.heap.size, 0, none⟩) N N) L ∧ Bs w' (.slice ao3 N cap3) L ∧ Buf w' w.heap.size L ∧ Below w.heap.size w w' ∧ Tab w' ∧ Box w' wr.heap.size kd u i a m (.slice aob lb.length capb) (.slice aop ls.length capp)) := fun w' hb => by
        have h1 := (HU3.out.kept hb).bs (by rw [HLL.out]; unfold maxLen; omega)
        rw [HLL.out] at h1
        have h2 := HO3.out.bs.kept hb
        exact ⟨h1, h2, HU3.out.kept hb, andThen HB3.out hb, HT.out _ (andThen HB3.out hb), HX3.out.kept hb⟩
      obtain ⟨x0, x1, x2, x3, x4, x5, x6⟩ := HX3.out.cells
      have fx5 := HX3.out.frozen 5
      by_cases k2 : kd = 2
      · subst k2
        have HX5 : Hid (Box (w3.setCell ⟨wr.heap.size, 5, none⟩ (.slice (some ⟨w.heap.size, 0, none⟩) N N)) wr.heap.size 2 u i a m (.slice (some ⟨w.heap.size, 0, none⟩) N N) (.slice aop ls.length capp)) := HX3.out.set5 _
        have HW5 : Hid (∀ w', Below (w3.setCell ⟨wr.heap.size, 5, none⟩ (.slice (some ⟨w.heap.size, 0, none⟩) N N)).heap.size (w3.setCell ⟨wr.heap.size, 5, none⟩ (.slice (some ⟨w.heap.size, 0, none⟩) N N)) w' → Bs w' (.slice (some ⟨w.heap.size, 0, none⟩) N N) L ∧ Bs w' (.slice ao3 N cap3) L ∧ Buf w' w.heap.size L ∧ Below w.heap.size w w') := fun w' hb => by
          have hu5 : Buf (w3.setCell ⟨wr.heap.size, 5, none⟩ (.slice (some ⟨w.heap.size, 0, none⟩) N N)) w.heap.size L := buf_set5 HU3.out (by omega)
          have h1 := (hu5.kept hb).bs (by rw [HLL.out]; unfold maxLen; omega)
          rw [HLL.out] at h1
          have h2 := (own_set5 (x := .slice (some ⟨w.heap.size, 0, none⟩) N N) HO3.out HXX.out).bs.kept hb
          exact ⟨h1, h2, hu5.kept hb, andThen (HB3.out.setCell (p := ⟨wr.heap.size, 5, none⟩) hsz _) hb⟩
        obtain ⟨y0, y1, y2, y3, y4, y5, y6⟩ := HX5.out.cells
        clear HW HX3 HU3 HO3 HB3 HX5
        go_wp2_with fail
        clear x0 x1 x2 x3 x4 x5 x6 fx5 y0 y1 y2 y3 y4 y5 y6
        generalize (w3.setCell ⟨wr.heap.size, 5, none⟩ (.slice (some ⟨w.heap.size, 0, none⟩) N N)) = w5 at *
        refine (numbers_2 u i a m _ _ L _ (HW5.out _ (Below.refl _ _)).1 (by rw [HLL.out]; omega)).mono ?_
        rintro e w6 ⟨rfl, b6⟩
        go_wp2_with fail
        refine (same_ok _ _ L _ (HW5.out _ b6).1 (HW5.out _ b6).2.1).mono ?_
        rintro e w99 ⟨rfl, b99⟩
        have B99 := andThen b6 b99
        have R : Hid (Buf w99 w.heap.size L ∧ Below w.heap.size w w99) := ⟨(HW5.out _ B99).2.2.1, (HW5.out _ B99).2.2.2⟩
        clear b99 B99 HW5
        go_wp2
        go_roundw
        case rel => exact ⟨k + 1, L, by omega, by go_num, HLL.out, R.out.1, R.out.2⟩
        case measure => simp [intOf]; omega
      by_cases k4 : kd = 4
      · subst k4
        have HX5 : Hid (Box (w3.setCell ⟨wr.heap.size, 5, none⟩ (.slice (some ⟨w.heap.size, 0, none⟩) N N)) wr.heap.size 4 u i a m (.slice (some ⟨w.heap.size, 0, none⟩) N N) (.slice aop ls.length capp)) := HX3.out.set5 _
        have HW5 : Hid (∀ w', Below (w3.setCell ⟨wr.heap.size, 5, none⟩ (.slice (some ⟨w.heap.size, 0, none⟩) N N)).heap.size (w3.setCell ⟨wr.heap.size, 5, none⟩ (.slice (some ⟨w.heap.size, 0, none⟩) N N)) w' → Bs w' (.slice (some ⟨w.heap.size, 0, none⟩) N N) L ∧ Bs w' (.slice ao3 N cap3) L ∧ Buf w' w.heap.size L ∧ Below w.heap.size w w') := fun w' hb => by
          have hu5 : Buf (w3.setCell ⟨wr.heap.size, 5, none⟩ (.slice (some ⟨w.heap.size, 0, none⟩) N N)) w.heap.size L := buf_set5 HU3.out (by omega)
          have h1 := (hu5.kept hb).bs (by rw [HLL.out]; unfold maxLen; omega)
          rw [HLL.out] at h1
          have h2 := (own_set5 (x := .slice (some ⟨w.heap.size, 0, none⟩) N N) HO3.out HXX.out).bs.kept hb
          exact ⟨h1, h2, hu5.kept hb, andThen (HB3.out.setCell (p := ⟨wr.heap.size, 5, none⟩) hsz _) hb⟩
        obtain ⟨y0, y1, y2, y3, y4, y5, y6⟩ := HX5.out.cells
        clear HW HX3 HU3 HO3 HB3 HX5
        go_wp2_with fail
        clear x0 x1 x2 x3 x4 x5 x6 fx5 y0 y1 y2 y3 y4 y5 y6
        generalize (w3.setCell ⟨wr.heap.size, 5, none⟩ (.slice (some ⟨w.heap.size, 0, none⟩) N N)) = w5 at *
        refine (numbers_4 u i a m _ _ L _ (HW5.out _ (Below.refl _ _)).1 (by rw [HLL.out]; omega)).mono ?_
        rintro e w6 ⟨rfl, b6⟩
        go_wp2_with fail
        refine (same_ok _ _ L _ (HW5.out _ b6).1 (HW5.out _ b6).2.1).mono ?_
        rintro e w99 ⟨rfl, b99⟩
        have B99 := andThen b6 b99
        have R : Hid (Buf w99 w.heap.size L ∧ Below w.heap.size w w99) := ⟨(HW5.out _ B99).2.2.1, (HW5.out _ B99).2.2.2⟩
        clear b99 B99 HW5
        go_wp2
        go_roundw
        case rel => exact ⟨k + 1, L, by omega, by go_num, HLL.out, R.out.1, R.out.2⟩
        case measure => simp [intOf]; omega
      by_cases k6 : kd = 6
      · subst k6
        have HX5 : Hid (Box (w3.setCell ⟨wr.heap.size, 5, none⟩ (.slice (some ⟨w.heap.size, 0, none⟩) N N)) wr.heap.size 6 u i a m (.slice (some ⟨w.heap.size, 0, none⟩) N N) (.slice aop ls.length capp)) := HX3.out.set5 _
        have HW5 : Hid (∀ w', Below (w3.setCell ⟨wr.heap.size, 5, none⟩ (.slice (some ⟨w.heap.size, 0, none⟩) N N)).heap.size (w3.setCell ⟨wr.heap.size, 5, none⟩ (.slice (some ⟨w.heap.size, 0, none⟩) N N)) w' → Bs w' (.slice (some ⟨w.heap.size, 0, none⟩) N N) L ∧ Bs w' (.slice ao3 N cap3) L ∧ Buf w' w.heap.size L ∧ Below w.heap.size w w') := fun w' hb => by
          have hu5 : Buf (w3.setCell ⟨wr.heap.size, 5, none⟩ (.slice (some ⟨w.heap.size, 0, none⟩) N N)) w.heap.size L := buf_set5 HU3.out (by omega)
          have h1 := (hu5.kept hb).bs (by rw [HLL.out]; unfold maxLen; omega)
          rw [HLL.out] at h1
          have h2 := (own_set5 (x := .slice (some ⟨w.heap.size, 0, none⟩) N N) HO3.out HXX.out).bs.kept hb
          exact ⟨h1, h2, hu5.kept hb, andThen (HB3.out.setCell (p := ⟨wr.heap.size, 5, none⟩) hsz _) hb⟩
        obtain ⟨y0, y1, y2, y3, y4, y5, y6⟩ := HX5.out.cells
        clear HW HX3 HU3 HO3 HB3 HX5
        go_wp2_with fail
        clear x0 x1 x2 x3 x4 x5 x6 fx5 y0 y1 y2 y3 y4 y5 y6
        generalize (w3.setCell ⟨wr.heap.size, 5, none⟩ (.slice (some ⟨w.heap.size, 0, none⟩) N N)) = w5 at *
        refine (stretches_6 u i a m _ _ L _ (HW5.out _ (Below.refl _ _)).1 (by rw [HLL.out]; omega) HM.out).mono ?_
        rintro e w6 ⟨rfl, b6⟩
        go_wp2_with fail
        refine (same_ok _ _ L _ (HW5.out _ b6).1 (HW5.out _ b6).2.1).mono ?_
        rintro e w99 ⟨rfl, b99⟩
        have B99 := andThen b6 b99
        have R : Hid (Buf w99 w.heap.size L ∧ Below w.heap.size w w99) := ⟨(HW5.out _ B99).2.2.1, (HW5.out _ B99).2.2.2⟩
        clear b99 B99 HW5
        go_wp2
        go_roundw
        case rel => exact ⟨k + 1, L, by omega, by go_num, HLL.out, R.out.1, R.out.2⟩
        case measure => simp [intOf]; omega
      by_cases k5 : kd = 5
      · subst k5
        go_wp2_with fail
        clear x0 x1 x2 x3 x4 x5 x6 fx5 HX3 HU3 HO3 HB3
        obtain ⟨Y, hY⟩ : ∃ Y, Wn.uint L.length ++ L = Y := ⟨_, rfl⟩
        have HY : Hid (Wn.uint L.length ++ L = Y) := hY
        clear hY
        refine (bytes_any _ L _ (HW.out _ (Below.refl _ _)).1 (by rw [HLL.out]; omega)).mono ?_
        rw [HY.out]
        rintro e w4 ⟨v4, rfl, o4, b4⟩
        have ho4 := o4.bs
        obtain ⟨ao4, cap4, rfl, _⟩ := o4.bs.shape
        clear o4
        go_wp2_with fail
        refine (rbytes_any _ L _ (HW.out _ b4).2.1 (by rw [HLL.out]; omega)).mono ?_
        rw [HY.out]
        rintro e w5 ⟨v5, rfl, o5, b5⟩
        have B5 := andThen b4 b5
        have ho4' := ho4.kept b5
        have ho5 := o5.bs
        obtain ⟨ao5, cap5, rfl, _⟩ := o5.bs.shape
        clear o5 b4 b5 ho4
        go_wp2_with fail
        refine (same_ok _ _ Y _ ho4' ho5).mono ?_
        rintro e w6 ⟨rfl, b6⟩
        have B6 := andThen B5 b6
        clear b6 B5 ho4' ho5
        go_wp2_with fail
        refine (same_ok _ _ L _ (HW.out _ B6).1 (HW.out _ B6).2.1).mono ?_
        rintro e w99 ⟨rfl, b99⟩
        have B99 := andThen B6 b99
        have R : Hid (Buf w99 w.heap.size L ∧ Below w.heap.size w w99) := ⟨(HW.out _ B99).2.2.1, (HW.out _ B99).2.2.2.1⟩
        clear b99 B99 HW
        go_wp2
        go_roundw
        case rel => exact ⟨k + 1, L, by omega, by go_num, HLL.out, R.out.1, R.out.2⟩
        case measure => simp [intOf]; omega
      by_cases k7 : kd = 7
      · subst k7
        go_wp2_with fail
        clear x0 x1 x2 x3 x4 x5 x6 fx5 HX3 HU3 HO3 HB3
        obtain ⟨C, hC⟩ : ∃ C, Wm.crc L = C := ⟨_, rfl⟩
        have HC2 : Hid (Wm.crc L = C) := hC
        have HC1 : Hid (Wm.crc [L].flatten = C) := by show _ = _; rw [← hC]; simp
        clear hC
        refine (sum_any _ [L] _ (HW.out _ (up0 _ _)).2.2.2.2.1 (ps1 _ _ rfl _ (HW.out _ (Below.refl _ _)).1)).mono ?_
        rw [HC1.out]
        rintro e w4 ⟨rfl, rfl⟩
        go_wp2_with fail
        refine (rsum_any _ L _ (HW.out _ (up0 _ _)).2.1).mono ?_
        rw [HC2.out]
        rintro e w4 ⟨rfl, rfl⟩
        have HH := halves_any w.heap.size L (w3.alloc (.cells #[.slice (some ⟨w.heap.size, 0, none⟩) N N] 23)) (HW.out _ (up0 _ _)).2.2.1 (by rw [HLL.out]; omega)
        rw [HLL.out] at HH
        go_wp2_with fail
        refine Calls.mono HH ?_
        rintro e w5 ⟨v5, rfl, ⟨ls5, hf5, hp5⟩, b5⟩
        have B5 := andThen (up0 w3 _) b5
        have HC5 : Hid (Wm.crc ls5.flatten = C) := by show _ = _; rw [hf5]; exact HC2.out
        obtain ⟨ao5, cap5, rfl, _⟩ := hp5.shape
        clear b5 hf5 HH
        go_wp2_with fail
        refine (sum_any _ ls5 _ (HW.out _ B5).2.2.2.2.1 hp5).mono ?_
        rw [HC5.out]
        rintro e w6 ⟨rfl, rfl⟩
        go_wp2_with fail
        refine (rsum_any _ L _ (HW.out _ B5).2.1).mono ?_
        rw [HC2.out]
        rintro e w6 ⟨rfl, rfl⟩
        clear hp5
        go_wp2_with fail
        refine (same_ok _ _ L _ (HW.out _ B5).1 (HW.out _ B5).2.1).mono ?_
        rintro e w99 ⟨rfl, b99⟩
        have B99 := andThen B5 b99
        have R : Hid (Buf w99 w.heap.size L ∧ Below w.heap.size w w99) := ⟨(HW.out _ B99).2.2.1, (HW.out _ B99).2.2.2.1⟩
        clear b99 B99 HW
        go_wp2
        go_roundw
        case rel => exact ⟨k + 1, L, by omega, by go_num, HLL.out, R.out.1, R.out.2⟩
        case measure => simp [intOf]; omega
      by_cases k9 : kd = 9
      · subst k9
        have HE := rf_le L a
        have HV : Hid (∃ V E F, (rf L a).1 = V ∧ (rf L a).2.1 = E ∧ (rf L a).2.2 = F) := ⟨_, _, _, rfl, rfl, rfl⟩
        obtain ⟨V, E, F, h1', h2', h3'⟩ := HV.out
        rw [h3'] at HE
        have H1 : Hid ((rf L a).1 = V) := h1'
        have H2 : Hid ((rf L a).2.1 = E) := h2'
        have H3 : Hid ((rf L a).2.2 = F) := h3'
        clear HV h1' h2' h3'
        go_wp2_with fail
        clear x0 x1 x2 x3 x4 x5 x6 fx5 HX3 HU3 HO3 HB3
        refine (readFrame_any _ L a _ (HW.out _ (Below.refl _ _)).2.2.2.2.1 (HW.out _ (Below.refl _ _)).1 (by rw [HLL.out]; omega)).mono ?_
        rw [H1.out, H2.out, H3.out]
        rintro e w4 ⟨v4, rfl, o4, b4⟩
        have ho4 := o4.bs
        obtain ⟨ao4, cap4, rfl, _⟩ := o4.bs.shape
        obtain ⟨_, _, _, x3, _, _, _⟩ := (HW.out _ b4).2.2.2.2.2.cells
        clear o4
        go_wp2_with fail
        refine (rrf_any _ L a _ (HW.out _ b4).2.1 (by rw [HLL.out]; omega)).mono ?_
        rw [H1.out, H2.out, H3.out]
        rintro e w5 ⟨v5, rfl, o5, b5⟩
        have B5 := andThen b4 b5
        have ho4' := ho4.kept b5
        have ho5 := o5.bs
        obtain ⟨ao5, cap5, rfl, _⟩ := o5.bs.shape
        clear o5 b4 b5 ho4 x3 H1 H2 H3
        go_wp2_with fail
        refine (same_ok _ _ V _ ho4' ho5).mono ?_
        rintro e w6 ⟨rfl, b6⟩
        have B6 := andThen B5 b6
        clear b6 B5 ho4' ho5
        go_wp2_with fail
        refine (num_any (F : Int) _ (by omega) (by omega)).mono ?_
        rintro e w7 ⟨rfl, rfl⟩
        go_wp2_with fail
        refine (same_ok _ _ L _ (HW.out _ B6).1 (HW.out _ B6).2.1).mono ?_
        rintro e w99 ⟨rfl, b99⟩
        have B99 := andThen B6 b99
        have R : Hid (Buf w99 w.heap.size L ∧ Below w.heap.size w w99) := ⟨(HW.out _ B99).2.2.1, (HW.out _ B99).2.2.2.1⟩
        clear b99 B99 HW
        go_wp2
        go_roundw
        case rel => exact ⟨k + 1, L, by omega, by go_num, HLL.out, R.out.1, R.out.2⟩
        case measure => simp [intOf]; omega
      by_cases k10 : kd = 10
      · subst k10
        have HV : Hid (∃ V E, (rfA L a).1 = V ∧ (rfA L a).2 = E) := ⟨_, _, rfl, rfl⟩
        obtain ⟨V, E, h1', h2'⟩ := HV.out
        have H1 : Hid ((rfA L a).1 = V) := h1'
        have H2 : Hid ((rfA L a).2 = E) := h2'
        clear HV h1' h2'
        go_wp2_with fail
        clear x0 x1 x2 x3 x4 x5 x6 fx5 HX3 HU3 HO3 HB3
        refine (rfs_all _ L a _ (HW.out _ (Below.refl _ _)).2.2.2.2.1 (HW.out _ (Below.refl _ _)).1 (by rw [HLL.out]; omega)).mono ?_
        rw [H1.out, H2.out]
        rintro e w4 ⟨v4, rfl, o4, b4⟩
        have ho4 := o4.ps
        obtain ⟨ao4, cap4, rfl, _⟩ := o4.ps.shape
        obtain ⟨_, _, _, x3, _, _, _⟩ := (HW.out _ b4).2.2.2.2.2.cells
        clear o4
        go_wp2_with fail
        refine (rrfs_all _ L a _ (HW.out _ b4).2.1 (by rw [HLL.out]; omega)).mono ?_
        rw [H1.out, H2.out]
        rintro e w5 ⟨v5, rfl, o5, b5⟩
        have B5 := andThen b4 b5
        have ho4' := ho4.kept b5
        have ho5 := o5.ps
        obtain ⟨ao5, cap5, rfl, _⟩ := o5.ps.shape
        clear o5 b4 b5 ho4 x3 H1 H2
        go_wp2_with fail
        refine (sameAll_ok _ _ V _ ho4' ho5).mono ?_
        rintro e w6 ⟨rfl, b6⟩
        have B6 := andThen B5 b6
        clear b6 B5 ho4' ho5
        go_wp2_with fail
        refine (same_ok _ _ L _ (HW.out _ B6).1 (HW.out _ B6).2.1).mono ?_
        rintro e w99 ⟨rfl, b99⟩
        have B99 := andThen B6 b99
        have R : Hid (Buf w99 w.heap.size L ∧ Below w.heap.size w w99) := ⟨(HW.out _ B99).2.2.1, (HW.out _ B99).2.2.2.1⟩
        clear b99 B99 HW
        go_wp2
        go_roundw
        case rel => exact ⟨k + 1, L, by omega, by go_num, HLL.out, R.out.1, R.out.2⟩
        case measure => simp [intOf]; omega
      by_cases k8 : kd = 8
      · subst k8
        have HF1 : Hid ([L].flatten = L) := by show [L].flatten = L; simp
        by_cases hN0 : N = 0
        · have HN0 : Hid (N = 0) := hN0
          clear hN0
          go_wp2_with fail
          clear x0 x1 x2 x3 x4 x5 x6 fx5 HX3 HU3 HO3 HB3
          refine (frame_bad _ [L] _ (ps1 _ _ rfl _ (HW.out _ (Below.refl _ _)).1) 14 (.inr ⟨by rw [HF1.out, HLL.out]; exact HN0.out, rfl⟩)).mono ?_
          rintro e w4 ⟨rfl, rfl⟩
          have HH := halves_any w.heap.size L (w3.alloc (.cells #[.slice (some ⟨w.heap.size, 0, none⟩) N N] 23)) (HW.out _ (up0 _ _)).2.2.1 (by rw [HLL.out]; omega)
          rw [HLL.out] at HH
          go_wp2_with fail
          refine Calls.mono HH ?_
          rintro e w5 ⟨v5, rfl, ⟨ls5, hf5, hp5⟩, b5⟩
          have B5 := andThen (up0 w3 _) b5
          have HF5 : Hid (ls5.flatten = L) := hf5
          obtain ⟨ao5, cap5, rfl, _⟩ := hp5.shape
          clear b5 hf5 HH
          go_wp2_with fail
          refine (frame_bad _ ls5 _ hp5 14 (.inr ⟨by rw [HF5.out, HLL.out]; exact HN0.out, rfl⟩)).mono ?_
          rintro e w6 ⟨rfl, rfl⟩
          clear hp5
          go_wp2_with fail
          refine (rframe_bad _ L _ (HW.out _ B5).2.1 14 (.inl ⟨HLL.out.trans HN0.out, rfl⟩)).mono ?_
          rintro e w7 ⟨rfl, rfl⟩
          go_wp2_with fail
          refine (same_ok _ _ [] _ (Bs.nil _) (Bs.nil _)).mono ?_
          rintro e w8 ⟨rfl, b8⟩
          have B8 := andThen B5 b8
          clear b8 B5
          go_wp2_with fail
          refine (num_any 14 _ (by omega) (by omega)).mono ?_
          rintro e w9 ⟨rfl, rfl⟩
          go_wp2_with fail
          refine (same_ok _ _ [] _ (Bs.nil _) (Bs.nil _)).mono ?_
          rintro e w10 ⟨rfl, b10⟩
          have B10 := andThen B8 b10
          clear b10 B8
          go_wp2_with fail
          refine (num_any 14 _ (by omega) (by omega)).mono ?_
          rintro e w11 ⟨rfl, rfl⟩
          go_wp2_with fail
          refine (same_ok _ _ L _ (HW.out _ B10).1 (HW.out _ B10).2.1).mono ?_
          rintro e w99 ⟨rfl, b99⟩
          have B99 := andThen B10 b99
          have R : Hid (Buf w99 w.heap.size L ∧ Below w.heap.size w w99) := ⟨(HW.out _ B99).2.2.1, (HW.out _ B99).2.2.2.1⟩
          clear b99 B99 HW
          go_wp2
          go_roundw
          case rel => exact ⟨k + 1, L, by omega, by go_num, HLL.out, R.out.1, R.out.2⟩
          case measure => simp [intOf]; omega
        obtain ⟨FR, hFR⟩ : ∃ FR, fr L = FR := ⟨_, rfl⟩
        have HFR : Hid (fr L = FR) := hFR
        clear hFR
        go_wp2_with fail
        clear x0 x1 x2 x3 x4 x5 x6 fx5 HX3 HU3 HO3 HB3
        refine (frame_ok _ [L] _ (HW.out _ (up0 _ _)).2.2.2.2.1 (ps1 _ _ rfl _ (HW.out _ (Below.refl _ _)).1) (by rw [HF1.out, HLL.out]; omega) (by rw [HF1.out, HLL.out]; omega)).mono ?_
        rw [HF1.out, HFR.out]
        rintro e w4 ⟨v4, rfl, o4, b4⟩
        have B4 := andThen (up0 w3 _) b4
        have ho4 := o4.bs
        obtain ⟨ao4, cap4, rfl, _⟩ := o4.bs.shape
        clear o4 b4
        have HH := halves_any w.heap.size L w4 (HW.out _ B4).2.2.1 (by rw [HLL.out]; omega)
        rw [HLL.out] at HH
        go_wp2_with fail
        refine Calls.mono HH ?_
        rintro e w5 ⟨v5, rfl, ⟨ls5, hf5, hp5⟩, b5⟩
        have B5 := andThen B4 b5
        have ho4a := ho4.kept b5
        have HF5 : Hid (ls5.flatten = L) := hf5
        obtain ⟨ao5, cap5, rfl, _⟩ := hp5.shape
        clear b5 hf5 HH B4 ho4
        go_wp2_with fail
        refine (frame_ok _ ls5 _ (HW.out _ B5).2.2.2.2.1 hp5 (by rw [HF5.out, HLL.out]; omega) (by rw [HF5.out, HLL.out]; omega)).mono ?_
        rw [HF5.out, HFR.out]
        rintro e w6 ⟨v6, rfl, o6, b6⟩
        have B6 := andThen B5 b6
        have ho4b := ho4a.kept b6
        have ho6 := o6.bs
        obtain ⟨ao6, cap6, rfl, _⟩ := o6.bs.shape
        clear o6 b6 B5 ho4a hp5
        go_wp2_with fail
        refine (rframe_ok _ L _ (HW.out _ B6).2.1 (by rw [HLL.out]; omega) (by rw [HLL.out]; omega)).mono ?_
        rw [HFR.out]
        rintro e w7 ⟨v7, rfl, o7, b7⟩
        have B7 := andThen B6 b7
        have ho4 := ho4b.kept b7
        have ho6a := ho6.kept b7
        have ho7 := o7.bs
        obtain ⟨ao7, cap7, rfl, _⟩ := o7.bs.shape
        clear o7 b7 B6 ho4b ho6
        go_wp2_with fail
        refine (same_ok _ _ FR _ ho4 ho7).mono ?_
        rintro e w8 ⟨rfl, b8⟩
        have B8 := andThen B7 b8
        have ho6 := ho6a.kept b8
        have ho7a := ho7.kept b8
        clear b8 B7 ho4 ho6a ho7
        go_wp2_with fail
        refine (num_any 0 _ (by omega) (by omega)).mono ?_
        rintro e w9 ⟨rfl, rfl⟩
        go_wp2_with fail
        refine (same_ok _ _ FR _ ho6 ho7a).mono ?_
        rintro e w10 ⟨rfl, b10⟩
        have B10 := andThen B8 b10
        clear b10 B8 ho6 ho7a
        go_wp2_with fail
        refine (num_any 0 _ (by omega) (by omega)).mono ?_
        rintro e w11 ⟨rfl, rfl⟩
        go_wp2_with fail
        refine (same_ok _ _ L _ (HW.out _ B10).1 (HW.out _ B10).2.1).mono ?_
        rintro e w99 ⟨rfl, b99⟩
        have B99 := andThen B10 b99
        have R : Hid (Buf w99 w.heap.size L ∧ Below w.heap.size w w99) := ⟨(HW.out _ B99).2.2.1, (HW.out _ B99).2.2.2.1⟩
        clear b99 B99 HW
        go_wp2
        go_roundw
        case rel => exact ⟨k + 1, L, by omega, by go_num, HLL.out, R.out.1, R.out.2⟩
        case measure => simp [intOf]; omega
      go_wp2_with fail
      clear x0 x1 x2 x3 x4 x5 x6 fx5 HX3 HU3 HO3 HB3
      refine (same_ok _ _ L _ (HW.out _ (Below.refl _ _)).1 (HW.out _ (Below.refl _ _)).2.1).mono ?_
      rintro e w99 ⟨rfl, b99⟩
      have R : Hid (Buf w99 w.heap.size L ∧ Below w.heap.size w w99) := ⟨(HW.out _ b99).2.2.1, (HW.out _ b99).2.2.2.1⟩
      clear b99 HW
      go_wp2
      go_roundw
      case rel => exact ⟨k + 1, L, by omega, by go_num, HLL.out, R.out.1, R.out.2⟩
      case measure => simp [intOf]; omega
    · go_wp2_with fail
      refine (started_any _).mono ?_
      rintro e w2 ⟨rfl, b2⟩
      have B2 := andThen hbel b2
      clear b2 hbel hbuf0 HC
      go_wp2
      go_ret
      exact ⟨rfl, B2⟩
end Go.Proofs.YtdoclmkldfemhaaDoor
