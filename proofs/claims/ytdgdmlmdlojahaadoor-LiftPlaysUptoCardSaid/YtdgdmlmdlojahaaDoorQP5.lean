import Derived.Deep.Cut
import Derived.Test.YtdgdmlmdlojahaaDoorQU7
/-
  LiftUps and its kin: one step, kind 5.
-/
namespace Go.Proofs.YtdgdmlmdlojahaaDoor
open Go Go.RowKit
open Wb

set_option maxRecDepth 100000 in
set_option maxHeartbeats 16000000 in
theorem plays_5 (to fr : Int) (r : Rec) (d v : Value) (rs : List Rec) (w : World) (h : Bs w d r.l) (hv : RecsAt w v rs) (hT : LTabs w) (hr : r.nm.size ≤ 1048576 ∧ r.x.fit ∧ r.l.length ≤ 1048576) (hg : LGood rs) :
    Calls Tryd.prog 12 #[.agg (opv 5 r d to fr v).toArray] w fun e w' => e = .returned (.bool true) ∧ Below w.heap.size w w' := by
  have hin := infoR12
  have HIR : Hid ((Tryd.prog.info? 28).map (·.size) = some 12) := infoRec
  have HIO : Hid ((Tryd.prog.info? 36).map (·.size) = some 16) := infoOp4
  have HX : Hid (∀ o, (w.alloc o).heap[w.heap.size]? = some o ∧ Below w.heap.size w (w.alloc o)) := fun o => ⟨Array.getElem?_push_size, up0 w o⟩
  have HT : Hid (∀ w', Below w.heap.size w w' → LTabs w') := fun w' hb => hT.kept hb
  have HGR : Hid ((r.nm.size ≤ 1048576 ∧ r.x.fit ∧ r.l.length ≤ 1048576) ∧ LGood rs) := ⟨hr, hg⟩
  have hfew := hg.few
  have HB : Hid (∀ w', Below w.heap.size w w' → Bs w' d r.l) := fun w' hb => h.kept hb
  have HCL : Hid (∀ w', Below w.heap.size w w' → Calls Tryd.prog 18 #[rv r.x r.nm d] w' fun e w'' => ∃ a1, ∃ p1 : Nat, e = .returned (rv r.x r.nm (.slice a1 r.l.length p1)) ∧ Own w'.heap.size w'' (.slice a1 r.l.length p1) r.l ∧ Below w'.heap.size w' w'') := fun w' hb' => (refclone_any r.x r.nm d r.l w' (h.kept hb') (by have := hr.2.2; omega)).mono fun e w'' ⟨d', he, ho, hb''⟩ => by
    obtain ⟨ao', cap', rfl, _⟩ := ho.bs.shape
    exact ⟨ao', cap', he, ho, hb''⟩
  have HCO : Hid (∀ w', Below w.heap.size w w' → Calls Tryd.prog 19 #[v] w' fun e w'' => ∃ ac, ∃ pc : Nat, ∃ ps, e = .returned (.slice ac rs.length pc) ∧ Laid w'.heap.size w'' (.slice ac rs.length pc) (.slice none 0 0) ps [] ∧ ps.map Prod.fst = rs ∧ Below w'.heap.size w' w'') := fun w' hb' => (copies_any v rs w' (hv.kept hb') hg).mono fun e w'' ⟨v', ps, he, hL, hm, hb''⟩ => by
    obtain ⟨ac, pc, rfl, _⟩ := hL.recs.shape
    have : ps.length = rs.length := by rw [← hm, List.length_map]
    rw [this] at he hL
    exact ⟨ac, pc, ps, he, hL, hm, hb''⟩
  have HLA : Hid (∀ w', Below w.heap.size w w' → Calls Tryd.prog 20 #[v] w' fun e w'' => ∃ m u ps qs, e = .returned (.tuple #[m, u]) ∧ Laid w'.heap.size w'' m u ps qs ∧ ps.map Prod.fst = rs ∧ qs.map Prod.fst = rs.map (fun r => roomL r.l) ∧ Below w'.heap.size w' w'') := fun w' hb' => laid_any v rs w' (hv.kept hb') hg
  obtain ⟨ao, cap, rfl, _⟩ := h.shape
  obtain ⟨av, cv, rfl, _⟩ := hv
  have HL1 : Hid (∀ w', Below w.heap.size w w' → Calls Tryd.prog 20 #[.slice (some ⟨w'.heap.size, 0, none⟩) 1 1] (w'.alloc (.cells #[.int .i64 r.x.v, .int .i64 r.x.k, .int .i64 r.x.s, .int .i64 r.x.p, .int .i64 r.x.t, .int .i64 r.x.a, .int .i64 r.x.l, .int .i64 r.x.c, .int .i64 r.x.n, .int .i64 r.x.i, .string r.nm, .slice ao r.l.length cap] 28)) fun e w'' => ∃ gm, ∃ capm : Nat, ∃ u1 am, ∃ pm : Nat, ∃ qs, e = .returned (.tuple #[.slice (some ⟨gm, 0, none⟩) 1 capm, u1]) ∧ Laid (w'.heap.size + 1) w'' (.slice (some ⟨gm, 0, none⟩) 1 capm) u1 [(r, .slice am r.l.length pm)] qs ∧ qs.map Prod.fst = [roomL r.l] ∧ Below w'.heap.size w' w'') := fun w' hb' => (laid_any _ [r] _ (recsAt_one w' r _ _ rfl (HB.out _ hb')) (LGood.one hr)).mono fun e w'' ⟨m, u, ps, qs, he, hL, hm, hq, hb''⟩ => by
    rw [heap_one] at hL
    match ps, hm with
    | [(q, dm)], hm =>
      simp only [List.map_cons, List.map_nil, List.cons.injEq, and_true] at hm
      subst hm
      obtain ⟨am, pm, e5, _⟩ := (hL.recs.2 _ (List.mem_cons_self)).1.shape
      have e6 : dm = .slice am q.l.length pm := e5
      subst e6
      obtain ⟨a9, c9, rfl, _, h9, _⟩ := hL.recs.shape
      obtain ⟨gm, rfl⟩ := h9 0 (by simp)
      exact ⟨gm, c9, u, am, pm, qs, he, hL, hq, andThen (up0 _ _) hb''⟩
  clear h hT hr hg
  unfold opv rv at *
  have HO : Hid (OBox (w.alloc (.cells #[.int .i64 5, .int .i64 r.x.v, .int .i64 r.x.k, .int .i64 r.x.s, .int .i64 r.x.p, .int .i64 r.x.t, .int .i64 r.x.a, .int .i64 r.x.l, .int .i64 r.x.c, .int .i64 r.x.n, .int .i64 r.x.i, .string r.nm, .slice ao r.l.length cap, .int .i64 to, .int .i64 fr, .slice av rs.length cv] 36)) w.heap.size 5 r (.slice ao r.l.length cap) to fr (.slice av rs.length cv)) := (HX.out _).1
  have HO1 : Hid ((w.alloc (.cells #[.int .i64 5, .int .i64 r.x.v, .int .i64 r.x.k, .int .i64 r.x.s, .int .i64 r.x.p, .int .i64 r.x.t, .int .i64 r.x.a, .int .i64 r.x.l, .int .i64 r.x.c, .int .i64 r.x.n, .int .i64 r.x.i, .string r.nm, .slice ao r.l.length cap, .int .i64 to, .int .i64 fr, .slice av rs.length cv] 36)).rangeAt w.heap.size 1 [.int .i64 r.x.v, .int .i64 r.x.k, .int .i64 r.x.s, .int .i64 r.x.p, .int .i64 r.x.t, .int .i64 r.x.a, .int .i64 r.x.l, .int .i64 r.x.c, .int .i64 r.x.n, .int .i64 r.x.i, .string r.nm, .slice ao r.l.length cap]) := HO.out.range
  go_enter Tryd.func12, Tryd.ntmps12
  go_wp2_with (refine wpList_load_mid rfl 28 _ rfl w.heap.size 1 rfl [.int .i64 r.x.v, .int .i64 r.x.k, .int .i64 r.x.s, .int .i64 r.x.p, .int .i64 r.x.t, .int .i64 r.x.a, .int .i64 r.x.l, .int .i64 r.x.c, .int .i64 r.x.n, .int .i64 r.x.i, .string r.nm, .slice ao r.l.length cap] _ HO1.out Tryd.underlying28 rfl HIR.out ?_)
  refine (HCL.out _ (HX.out _).2).mono ?_
  rintro e w1 ⟨a1, p1, rfl, ho1, b1⟩
  have HK : Hid (OBox (w1.alloc (.cells #[.int .i64 r.x.v, .int .i64 r.x.k, .int .i64 r.x.s, .int .i64 r.x.p, .int .i64 r.x.t, .int .i64 r.x.a, .int .i64 r.x.l, .int .i64 r.x.c, .int .i64 r.x.n, .int .i64 r.x.i, .string r.nm, .slice a1 r.l.length p1] 28)) w.heap.size 5 r (.slice ao r.l.length cap) to fr (.slice av rs.length cv) ∧ Box (w1.alloc (.cells #[.int .i64 r.x.v, .int .i64 r.x.k, .int .i64 r.x.s, .int .i64 r.x.p, .int .i64 r.x.t, .int .i64 r.x.a, .int .i64 r.x.l, .int .i64 r.x.c, .int .i64 r.x.n, .int .i64 r.x.i, .string r.nm, .slice a1 r.l.length p1] 28)) w1.heap.size r.x r.nm (.slice a1 r.l.length p1) ∧ Bs (w1.alloc (.cells #[.int .i64 r.x.v, .int .i64 r.x.k, .int .i64 r.x.s, .int .i64 r.x.p, .int .i64 r.x.t, .int .i64 r.x.a, .int .i64 r.x.l, .int .i64 r.x.c, .int .i64 r.x.n, .int .i64 r.x.i, .string r.nm, .slice a1 r.l.length p1] 28)) (.slice a1 r.l.length p1) r.l ∧ (∀ g, g ≤ w.heap.size → Off g (.slice a1 r.l.length p1) r.l) ∧ Below w.heap.size w (w1.alloc (.cells #[.int .i64 r.x.v, .int .i64 r.x.k, .int .i64 r.x.s, .int .i64 r.x.p, .int .i64 r.x.t, .int .i64 r.x.a, .int .i64 r.x.l, .int .i64 r.x.c, .int .i64 r.x.n, .int .i64 r.x.i, .string r.nm, .slice a1 r.l.length p1] 28)) ∧ w.heap.size < w1.heap.size) := by
    have hk := HO.out.kept b1
    exact ⟨hk.kept (up0 _ _), heap_new _ _, ho1.bs.alloc _, fun g hg => off_own ho1 g (Nat.lt_of_le_of_lt hg HO.out.lt), up (andThen (HX.out _).2 b1) _, hk.lt⟩
  clear ho1 b1 HO HO1 HCL HX
  go_upto_region 2 with fail
  have HK' := HK.out
  clear HK
  generalize w1.alloc (.cells #[.int .i64 r.x.v, .int .i64 r.x.k, .int .i64 r.x.s, .int .i64 r.x.p, .int .i64 r.x.t, .int .i64 r.x.a, .int .i64 r.x.l, .int .i64 r.x.c, .int .i64 r.x.n, .int .i64 r.x.i, .string r.nm, .slice a1 r.l.length p1] 28) = W1 at HK' ⊢
  generalize w1.heap.size = g1 at HK' ⊢
  obtain ⟨hO, hbx, hb1, hof1, B1, hg01⟩ := HK'
  obtain ⟨k0, k13, k14, k15⟩ := hO.cells
  go_wp2_with fail
  refine (HCO.out _ B1).mono ?_
  rintro e w2 ⟨ac, pc, psc, rfl, hLc, hmc, b2⟩
  have B2 := andThen B1 b2
  have hO2 := hO.kept b2
  have HO2 : Hid (w2.rangeAt w.heap.size 1 [.int .i64 r.x.v, .int .i64 r.x.k, .int .i64 r.x.s, .int .i64 r.x.p, .int .i64 r.x.t, .int .i64 r.x.a, .int .i64 r.x.l, .int .i64 r.x.c, .int .i64 r.x.n, .int .i64 r.x.i, .string r.nm, .slice ao r.l.length cap]) := hO2.range
  clear k0 k13 k14 k15
  obtain ⟨k0, k13, k14, k15⟩ := hO2.cells
  have HW2 : Hid (Box w2 g1 r.x r.nm (.slice a1 r.l.length p1) ∧ Bs w2 (.slice a1 r.l.length p1) r.l ∧ Laid W1.heap.size w2 (.slice ac rs.length pc) (.slice none 0 0) psc [] ∧ w.heap.size < W1.heap.size) := ⟨hbx.kept b2, hb1.kept b2, hLc, hO.lt⟩
  clear hO hbx hb1 hLc b2 B1 HCO
  go_wp2_with (refine wpList_load_mid rfl 28 _ rfl w.heap.size 1 rfl [.int .i64 r.x.v, .int .i64 r.x.k, .int .i64 r.x.s, .int .i64 r.x.p, .int .i64 r.x.t, .int .i64 r.x.a, .int .i64 r.x.l, .int .i64 r.x.c, .int .i64 r.x.n, .int .i64 r.x.i, .string r.nm, .slice ao r.l.length cap] _ HO2.out Tryd.underlying28 rfl HIR.out ?_)
  refine (HL1.out _ B2).mono ?_
  rintro e w3 ⟨gm, capm, u1, am, pm, qs1, rfl, hL1, hq1, b3⟩
  have B3 := andThen B2 b3
  have hO3 := hO2.kept b3
  clear k0 k13 k14 k15
  obtain ⟨k0, k13, k14, k15⟩ := hO3.cells
  have HW3 : Hid (OBox w3 w.heap.size 5 r (.slice ao r.l.length cap) to fr (.slice av rs.length cv) ∧ Box w3 g1 r.x r.nm (.slice a1 r.l.length p1) ∧ Bs w3 (.slice a1 r.l.length p1) r.l ∧ Laid W1.heap.size w3 (.slice ac rs.length pc) (.slice none 0 0) psc [] ∧ w.heap.size < W1.heap.size ∧ Laid (w2.heap.size + 1) w3 (.slice (some ⟨gm, 0, none⟩) 1 capm) u1 [(r, .slice am r.l.length pm)] qs1 ∧ w.heap.size < w2.heap.size + 1) := ⟨hO3, HW2.out.1.kept b3, HW2.out.2.1.kept b3, HW2.out.2.2.1.kept b3, HW2.out.2.2.2, hL1, Nat.lt_succ_of_lt hO2.lt⟩
  have hs3 : w.heap.size < w3.heap.size := hO3.lt
  clear hO2 hO3 hL1 b3 B2 HL1 HO2 HW2
  go_wp2_with fail
  refine (HLA.out _ B3).mono ?_
  rintro e w4 ⟨m, u, ps, qs, rfl, hL4, hm4, hq4, b4⟩
  have hpl : ps.length = rs.length := by rw [← hm4, List.length_map]
  have HM : Hid (ps.map Prod.fst = rs ∧ qs.map Prod.fst = rs.map (fun r => roomL r.l) ∧ psc.map Prod.fst = rs ∧ qs1.map Prod.fst = [roomL r.l]) := ⟨hm4, hq4, hmc, hq1⟩
  have HL4 : Hid (Laid w3.heap.size w4 m u ps qs ∧ Below w3.heap.size w3 w4) := ⟨hL4, b4⟩
  have HF : Hid (∀ w', Below w3.heap.size w3 w' → (OBox w' w.heap.size 5 r (.slice ao r.l.length cap) to fr (.slice av rs.length cv) ∧ Box w' g1 r.x r.nm (.slice a1 r.l.length p1) ∧ Bs w' (.slice a1 r.l.length p1) r.l ∧ Laid W1.heap.size w' (.slice ac rs.length pc) (.slice none 0 0) psc [] ∧ w.heap.size < W1.heap.size ∧ Laid (w2.heap.size + 1) w' (.slice (some ⟨gm, 0, none⟩) 1 capm) u1 [(r, .slice am r.l.length pm)] qs1 ∧ w.heap.size < w2.heap.size + 1) ∧ Below w.heap.size w w') := fun w' hb => ⟨⟨HW3.out.1.kept hb, HW3.out.2.1.kept hb, HW3.out.2.2.1.kept hb, HW3.out.2.2.2.1.kept hb, HW3.out.2.2.2.2.1, HW3.out.2.2.2.2.2.1.kept hb, HW3.out.2.2.2.2.2.2⟩, andThen B3 hb⟩
  clear hL4 hm4 hq4 hmc hq1 b4 HLA B3 HW3 k0 k13 k14 k15
  go_wp2
  go_loopw [7, 9] (fun mm i wr => ∃ k : Nat, k ≤ 20 ∧ i = .int .i64 (k : Int) ∧ Laid w3.heap.size wr mm u (ps ++ List.replicate k mk) qs ∧ Below w3.heap.size w3 wr) (fun _ i _ => 20 - (intOf i).toNat)
  case atStart => exact ⟨0, Nat.zero_le _, rfl, by show Laid _ _ _ _ (ps ++ []) _; rw [List.append_nil]; exact HL4.out.1, HL4.out.2⟩
  case round =>
    obtain ⟨k, hk, rfl, hLk, hbel⟩ := hrel
    clear HL4
    by_cases hlt : k < 20
    · have HS : Hid (ps ++ List.replicate (k + 1) mk = (ps ++ List.replicate k mk) ++ [mk]) := by show _ = _; rw [List.replicate_succ', List.append_assoc]
      have hLm : (ps ++ List.replicate k mk).length ≤ 1048600 := by rw [List.length_append, List.length_replicate]; omega
      have HLK : Hid (∀ o, Laid w3.heap.size (wr.alloc o) u7 u (ps ++ List.replicate k mk) qs ∧ Below w3.heap.size w3 (wr.alloc o) ∧ w3.heap.size ≤ (wr.alloc o).heap.size) := fun o => ⟨hLk.kept (up0 _ _), up hbel _, (up hbel o).size⟩
      have HR2 : Hid ((wr.alloc (.cells #[.int .i64 (-201), .int .i64 0, .int .i64 0, .int .i64 0, .int .i64 0, .int .i64 0, .int .i64 0, .int .i64 0, .int .i64 0, .int .i64 0, .string ⟨#[]⟩, .slice none 0 0] 28)).rangeAt wr.heap.size 0 (rcl mk)) := new_range wr #[.int .i64 (-201), .int .i64 0, .int .i64 0, .int .i64 0, .int .i64 0, .int .i64 0, .int .i64 0, .int .i64 0, .int .i64 0, .int .i64 0, .string ⟨#[]⟩, .slice none 0 0]
      clear hLk hbel HF HT HB HGR HM
      generalize ps ++ List.replicate k mk = pk at *
      go_wp2_with (at_builtin; refine wpList_append_rec2 _ rfl (.tmp 43) (.tmp 45) 34 rfl w3.heap.size hin Tryd.underlying34 _ pk mk rfl (HLK.out _).1.recs _ rfl HR2.out rfl (Bs.nil _) (fun g _ => off_nil _ _) (by omega) (HLK.out _).2.2 ?_)
      intro v2 w5 hr5 hg5 he5
      have R2 : Hid (Laid w3.heap.size w5 v2 u (ps ++ List.replicate (k + 1) mk) qs ∧ Below w3.heap.size w3 w5) := ⟨by rw [HS.out]; exact (HLK.out _).1.more _ hr5 hg5 (by rw [heap_one]; exact he5) (fun g _ => off_nil _ _) (fun g _ => off_nil _ _), (HLK.out _).2.1.trans (grown_below (HLK.out _).1.recs.1 hg5 (HLK.out _).2.2)⟩
      clear hr5 hg5 he5 HLK HR2 HS
      go_wp2
      go_roundw
      case rel => exact ⟨k + 1, by omega, by go_num, R2.out.1, R2.out.2⟩
      case measure => simp [intOf]; omega
    · obtain rfl : k = 20 := by omega
      have hal : (ps ++ List.replicate 20 mk).length = rs.length + 20 := by rw [List.length_append, List.length_replicate, hpl]
      obtain ⟨aa, capA, rfl, hcA, hga, _⟩ := hLk.recs.shape
      obtain ⟨ga, rfl⟩ := hga 0 (by omega)
      rw [hal] at hLk ⊢
      have hcap : rs.length + 20 ≤ capA := by
        rcases hLk.recs.1.2 with ⟨e, _⟩ | ⟨g', cap', cur, e, _, _, h1, _⟩
        · cases e
        · simp only [Value.slice.injEq] at e
          omega
      unfold maxLen at hcA
      obtain ⟨⟨hO, hbx, hb1, hLc, hWs, hL1, hWt⟩, hBw⟩ := HF.out _ hbel
      have HRM : Hid (wr.rangeAt gm 0 [.int .i64 r.x.v, .int .i64 r.x.k, .int .i64 r.x.s, .int .i64 r.x.p, .int .i64 r.x.t, .int .i64 r.x.a, .int .i64 r.x.l, .int .i64 r.x.c, .int .i64 r.x.n, .int .i64 r.x.i, .string r.nm, .slice am r.l.length pm]) := by
        obtain ⟨a9, c9, e9, _, _, h9⟩ := hL1.recs.shape
        simp only [Value.slice.injEq] at e9
        obtain ⟨rfl, _, rfl⟩ := e9
        have h8 := h9 gm rfl 0 (by simp)
        rw [Nat.zero_mul] at h8
        exact h8
      have HWX : Hid (∃ W, ((((((((((((wr.setCell ⟨w.heap.size, 1, none⟩ (.int .i64 r.x.v)).setCell ⟨w.heap.size, 2, none⟩ (.int .i64 r.x.k)).setCell ⟨w.heap.size, 3, none⟩ (.int .i64 r.x.s)).setCell ⟨w.heap.size, 4, none⟩ (.int .i64 r.x.p)).setCell ⟨w.heap.size, 5, none⟩ (.int .i64 r.x.t)).setCell ⟨w.heap.size, 6, none⟩ (.int .i64 r.x.a)).setCell ⟨w.heap.size, 7, none⟩ (.int .i64 r.x.l)).setCell ⟨w.heap.size, 8, none⟩ (.int .i64 r.x.c)).setCell ⟨w.heap.size, 9, none⟩ (.int .i64 r.x.n)).setCell ⟨w.heap.size, 10, none⟩ (.int .i64 r.x.i)).setCell ⟨w.heap.size, 11, none⟩ (.string r.nm)).setCell ⟨w.heap.size, 12, none⟩ (.slice am r.l.length pm)) = W ∧ W.cell? ⟨w.heap.size, 15, none⟩ = some (.slice av rs.length cv) ∧ W.frozen? ⟨w.heap.size, 15, none⟩ = false ∧ St w (W.setCell ⟨w.heap.size, 15, none⟩ (.slice (some ⟨ga, 0, none⟩) rs.length capA)) w.heap.size g1 5 to fr r rs (.slice am r.l.length pm) (.slice a1 r.l.length p1) (.slice ac rs.length pc) (.slice (some ⟨ga, 0, none⟩) (rs.length + 20) capA) (.slice (some ⟨ga, 0, none⟩) rs.length capA) u1 u) := by
        refine ⟨wr.setCells w.heap.size 1 [.int .i64 r.x.v, .int .i64 r.x.k, .int .i64 r.x.s, .int .i64 r.x.p, .int .i64 r.x.t, .int .i64 r.x.a, .int .i64 r.x.l, .int .i64 r.x.c, .int .i64 r.x.n, .int .i64 r.x.i, .string r.nm, .slice am r.l.length pm], rfl, OBox.cells9 hO, OBox.free9 hO, ?_⟩
        show St w (setop wr w.heap.size r (.slice am r.l.length pm) (.slice (some ⟨ga, 0, none⟩) rs.length capA)) _ _ _ _ _ _ _ _ _ _ _ _ _ _
        have hsame : ∀ B, w.heap.size < B → ∀ g, B ≤ g → (setop wr w.heap.size r (.slice am r.l.length pm) (.slice (some ⟨ga, 0, none⟩) rs.length capA)).heap[g]? = wr.heap[g]? := fun B hB g hg => setop_other g (by omega)
        have hL1' := hL1.same (hsame _ hWt)
        have hLc' := hLc.same (hsame _ hWs)
        have hLk' := hLk.same (hsame _ hs3)
        have hra := hLk'.recs.recsAt
        have hmap : (ps ++ List.replicate 20 mk).map Prod.fst = rs ++ List.replicate 20 markR := by rw [List.map_append, HM.out.1, List.map_replicate]; rfl
        rw [hmap] at hra
        refine ⟨hO.set, (hL1'.recs.2 _ (List.mem_cons_self)).1, (setop_other g1 (by omega)).trans hbx, bs_same (B := w.heap.size + 1) hb1 (hsame _ (Nat.lt_succ_self _)) (fun g hg => hof1 g (by omega)), ?_, hra, hra.cut, ?_, ?_, setop_below hBw (Nat.le_refl _)⟩
        · have := hLc'.recs.recsAt
          rw [HM.out.2.2.1] at this
          exact this
        · have := hL1'.rows.ps
          rw [HM.out.2.2.2] at this
          exact this
        · have := hLk'.rows.ps
          rw [HM.out.2.1] at this
          exact this
      obtain ⟨k0, k1, k2, k3, k4, k5, k6, k7, k8, k9, k10, k11, k12, k13, k14, k15⟩ := hO.all
      have o1 := hO.free 1
      have o2 := hO.free 2
      have o3 := hO.free 3
      have o4 := hO.free 4
      have o5 := hO.free 5
      have o6 := hO.free 6
      have o7 := hO.free 7
      have o8 := hO.free 8
      have o9 := hO.free 9
      have o10 := hO.free 10
      have o11 := hO.free 11
      have o12 := hO.free 12
      have o15 := hO.free 15
      clear hO hbx hb1 hLc hL1 hBw hLk hbel HF HM hga hal hpl hof1
      go_upto_region 10 with (refine wpList_load_mid rfl 28 _ rfl gm 0 rfl [.int .i64 r.x.v, .int .i64 r.x.k, .int .i64 r.x.s, .int .i64 r.x.p, .int .i64 r.x.t, .int .i64 r.x.a, .int .i64 r.x.l, .int .i64 r.x.c, .int .i64 r.x.n, .int .i64 r.x.i, .string r.nm, .slice am r.l.length pm] _ HRM.out Tryd.underlying28 rfl HIR.out ?_)
      obtain ⟨W9, hW, kk15, oo15, hSt⟩ := HWX.out
      rw [hW]
      clear hW HWX HRM k0 k1 k2 k3 k4 k5 k6 k7 k8 k9 k10 k11 k12 k13 k14 k15 o1 o2 o3 o4 o5 o6 o7 o8 o9 o10 o11 o12 o15 hs3 hWs hWt hg01
      have HWX : Hid (St w (W9.setCell ⟨w.heap.size, 15, none⟩ (.slice (some ⟨ga, 0, none⟩) rs.length capA)) w.heap.size g1 5 to fr r rs (.slice am r.l.length pm) (.slice a1 r.l.length p1) (.slice ac rs.length pc) (.slice (some ⟨ga, 0, none⟩) (rs.length + 20) capA) (.slice (some ⟨ga, 0, none⟩) rs.length capA) u1 u) := hSt
      clear hSt
      go_upto_region 11 with fail
      have hSt := HWX.out
      clear HWX kk15 oo15
      generalize W9.setCell ⟨w.heap.size, 15, none⟩ (.slice (some ⟨ga, 0, none⟩) rs.length capA) = W at hSt ⊢
      have HST : Hid (∀ w', Below W.heap.size W w' → St w w' w.heap.size g1 5 to fr r rs (.slice am r.l.length pm) (.slice a1 r.l.length p1) (.slice ac rs.length pc) (.slice (some ⟨ga, 0, none⟩) (rs.length + 20) capA) (.slice (some ⟨ga, 0, none⟩) rs.length capA) u1 u) := fun w' hb => hSt.kept hb
      have HWR : Hid (W.rangeAt w.heap.size 0 [.int .i64 5, .int .i64 r.x.v, .int .i64 r.x.k, .int .i64 r.x.s, .int .i64 r.x.p, .int .i64 r.x.t, .int .i64 r.x.a, .int .i64 r.x.l, .int .i64 r.x.c, .int .i64 r.x.n, .int .i64 r.x.i, .string r.nm, .slice am r.l.length pm, .int .i64 to, .int .i64 fr, .slice (some ⟨ga, 0, none⟩) rs.length capA]) := hSt.op.whole
      obtain ⟨k0, k13, k14, k15⟩ := hSt.op.cells
      clear hSt
      have HSU : Hid (∀ w', Below W.heap.size W w' → Calls Tryd.prog 25 #[.int .i64 fr, .int .i64 to] w' fun e w'' => ∃ o, e = .returned o ∧ StrsAt w'' o (namesP fr to) ∧ Below w'.heap.size w' w'') := fun w' hb => steps_any fr to w' (HT.out _ (HST.out _ hb).bel).ways
      have HSR : Hid (∀ w', Calls Tryd.prog 26 #[.int .i64 fr, .int .i64 to] w' fun e w'' => ∃ o, e = .returned o ∧ StrsAt w'' o (namesP fr to) ∧ Below w'.heap.size w' w'') := fun w' => r4steps_any fr to w'
      generalize namesP fr to = N at *
      go_wp2_with fail
      refine (HSU.out _ (Below.refl _ _)).mono ?_
      rintro e w5 ⟨o5, rfl, hs5, b5⟩
      obtain ⟨j0, j13, j14, j15⟩ := (HST.out _ b5).op.cells
      have HS5 : Hid (∀ w', Below w5.heap.size w5 w' → StrsAt w' o5 N) := fun w' hb => hs5.kept hb
      obtain ⟨a5, c5, rfl, _⟩ := hs5
      clear HSU
      go_wp2_with fail
      refine (HSR.out _).mono ?_
      rintro e w6 ⟨o6, rfl, hs6, b6⟩
      have HSW : Hid (Calls Tryd.prog 27 #[.slice a5 N.length c5, o6] w6 fun e w'' => e = .returned (.bool true) ∧ Below w6.heap.size w6 w'') := sameWords_ok _ _ N w6 (HS5.out _ b6) hs6
      obtain ⟨a6, c6, rfl, _⟩ := hs6
      have B6 := andThen b5 b6
      clear HS5 HSR b5 b6 j0 j13 j14 j15
      go_wp2_with fail
      refine HSW.out.mono ?_
      rintro e w7 ⟨rfl, b7⟩
      have B5 := andThen B6 b7
      clear b7 B6 HSW
      clear k0 k13 k14 k15 HWR
      go_wp2
      go_loopw [10, 19] (fun o i wr => o = .bool true ∧ ∃ k : Nat, k ≤ 20 ∧ i = .int .i64 (k : Int) ∧ Below W.heap.size W wr) (fun _ i _ => 20 - (intOf i).toNat)
      case atStart => exact ⟨rfl, 0, Nat.zero_le _, rfl, B5⟩
      case round =>
        obtain ⟨rfl, k, hk, rfl, hbel⟩ := hrel
        clear B5
        by_cases hlt : k < 20
        · obtain ⟨ad, cd, hmr, hmb⟩ : ∃ ad, ∃ cd : Nat, wr.rangeAt ga ((rs.length + k) * 12) [.int .i64 (-201), .int .i64 0, .int .i64 0, .int .i64 0, .int .i64 0, .int .i64 0, .int .i64 0, .int .i64 0, .int .i64 0, .int .i64 0, .string ⟨#[]⟩, .slice ad 0 cd] ∧ Bs wr (.slice ad 0 cd) [] := by
            obtain ⟨a9, c9, e9, _, h9⟩ := (HST.out _ hbel).ra
            simp only [Value.slice.injEq] at e9
            obtain ⟨rfl, _, rfl⟩ := e9
            obtain ⟨b, off, dk, e8, h8, hbk⟩ := h9 (rs.length + k) markR (by rw [List.getElem?_append_right (by omega), Nat.add_sub_cancel_left, List.getElem?_replicate, if_pos hlt])
            simp only [Option.some.injEq, Addr.mk.injEq, and_true] at e8
            obtain ⟨rfl, rfl⟩ := e8
            rw [Nat.zero_add] at h8
            obtain ⟨ad, cd, hdk, _⟩ := hbk.shape
            have hdk' : dk = .slice ad 0 cd := hdk
            subst hdk'
            exact ⟨ad, cd, h8, hbk⟩
          obtain ⟨m0, m1, m2, m3, m4, m5, m6, m7, m8, m9, m10, m11⟩ := range_cells (p := (markR, .slice ad 0 cd)) hmr
          simp only [markR] at m0 m1 m2 m3 m4 m5 m6 m7 m8 m9 m10 m11
          have HSM : Hid (Calls Tryd.prog 11 #[.agg #[.int .i64 (-201), .int .i64 0, .int .i64 0, .int .i64 0, .int .i64 0, .int .i64 0, .int .i64 0, .int .i64 0, .int .i64 0, .int .i64 0, .string ⟨#[]⟩, .slice ad 0 cd], .agg #[.int .i64 (-201), .int .i64 0, .int .i64 0, .int .i64 0, .int .i64 0, .int .i64 0, .int .i64 0, .int .i64 0, .int .i64 0, .int .i64 0, .string ⟨#[]⟩, .slice none 0 0]] wr fun e w'' => e = .returned (.bool true) ∧ Below wr.heap.size wr w'') := (refsame_any markR.x markR.x markR.nm markR.nm (.slice ad 0 cd) (.slice none 0 0) [] [] wr hmb (Bs.nil _)).mono fun e w'' ⟨he, hk'⟩ => ⟨by rw [he, recEq_self], hk'⟩
          clear hmr hmb
          clear HT HB HGR
          go_wp2_with fail
          refine HSM.out.mono ?_
          rintro e w7 ⟨rfl, b7⟩
          have B7 := andThen hbel b7
          clear b7 hbel HSM m0 m1 m2 m3 m4 m5 m6 m7 m8 m9 m10 m11
          go_wp2
          go_roundw
          case rel => exact ⟨rfl, k + 1, by omega, by go_num, B7⟩
          case measure => simp [intOf]; omega
        · obtain rfl : k = 20 := by omega
          clear hk hlt
          have hS := HST.out _ hbel
          obtain ⟨k0, k1, k2, k3, k4, k5, k6, k7, k8, k9, k10, k11, k12, k13, k14, k15⟩ := hS.op.all
          obtain ⟨c0, c1, c2, c3, c4, c5, c6, c7, c8, c9, c10, c11⟩ := hS.bx.cells
          have HS1 : Hid (Calls Tryd.prog 11 #[.agg #[.int .i64 r.x.v, .int .i64 r.x.k, .int .i64 r.x.s, .int .i64 r.x.p, .int .i64 r.x.t, .int .i64 r.x.a, .int .i64 r.x.l, .int .i64 r.x.c, .int .i64 r.x.n, .int .i64 r.x.i, .string r.nm, .slice a1 r.l.length p1], .agg #[.int .i64 r.x.v, .int .i64 r.x.k, .int .i64 r.x.s, .int .i64 r.x.p, .int .i64 r.x.t, .int .i64 r.x.a, .int .i64 r.x.l, .int .i64 r.x.c, .int .i64 r.x.n, .int .i64 r.x.i, .string r.nm, .slice am r.l.length pm]] wr fun e w'' => e = .returned (.bool true) ∧ Below wr.heap.size wr w'') := (refsame_any r.x r.x r.nm r.nm _ _ r.l r.l wr hS.br hS.bm).mono fun e w'' ⟨he, hk'⟩ => ⟨by rw [he, recEq_self], hk'⟩
          clear hS
          go_wp2_with fail
          refine HS1.out.mono ?_
          rintro e w7 ⟨rfl, b7⟩
          have B7 := andThen hbel b7
          clear b7 hbel HS1 k0 k1 k2 k3 k4 k5 k6 k7 k8 k9 k10 k11 k12 k13 k14 k15 c0 c1 c2 c3 c4 c5 c6 c7 c8 c9 c10 c11
          have HS2 : Hid (Calls Tryd.prog 24 #[.slice ac rs.length pc, .slice (some ⟨ga, 0, none⟩) rs.length capA] w7 fun e w'' => e = .returned (.bool true) ∧ Below w7.heap.size w7 w'') := sameAllR_ok _ _ rs w7 (HST.out _ B7).rc (HST.out _ B7).rv
          go_wp2_with fail
          refine HS2.out.mono ?_
          rintro e w8 ⟨rfl, b8⟩
          have B8 := andThen B7 b8
          clear b8 B7 HS2
          obtain ⟨c0, c1, c2, c3, c4, c5, c6, c7, c8, c9, c10, c11⟩ := (HST.out _ B8).bx.cells
          have HS3 : Hid (Calls Tryd.prog 28 #[u1, .slice (some ⟨w8.heap.size, 0, none⟩) 1 1] (w8.alloc (.cells #[.int .i64 r.x.v, .int .i64 r.x.k, .int .i64 r.x.s, .int .i64 r.x.p, .int .i64 r.x.t, .int .i64 r.x.a, .int .i64 r.x.l, .int .i64 r.x.c, .int .i64 r.x.n, .int .i64 r.x.i, .string r.nm, .slice a1 r.l.length p1] 28)) fun e w'' => e = .returned (.bool true) ∧ Below W.heap.size W w'') := (untouched_ok _ _ [r] _ ((HST.out _ B8).p1.kept (up0 _ _)) (recsAt_one w8 r _ _ rfl (HST.out _ B8).br) (LGood.one HGR.out.1)).mono fun e w'' ⟨he, hk'⟩ => ⟨he, andThen (up B8 _) hk'⟩
          go_wp2_with fail
          refine HS3.out.mono ?_
          rintro e w9 ⟨rfl, B9⟩
          clear B8 HS3 c0 c1 c2 c3 c4 c5 c6 c7 c8 c9 c10 c11
          have HS4 : Hid (Calls Tryd.prog 28 #[u, .slice ac rs.length pc] w9 fun e w'' => e = .returned (.bool true) ∧ Below w9.heap.size w9 w'') := untouched_ok _ _ rs _ (HST.out _ B9).pu (HST.out _ B9).rc HGR.out.2
          go_wp2_with fail
          refine HS4.out.mono ?_
          rintro e w10 ⟨rfl, b10⟩
          have B10 := (HST.out _ (andThen B9 b10)).bel
          clear b10 B9 HS4
          go_wp2
          go_ret
          exact ⟨rfl, B10⟩
end Go.Proofs.YtdgdmlmdlojahaaDoor
