import Derived.Test.YtjhgjlnckidjkaaDoorQU2
import Derived.Test.YtjhgjlnckidjkaaDoorQU4
import Derived.Test.YtjhgjlnckidjkaaDoorQR3
/-
  The reference's Down.
-/
namespace Go.Proofs.YtjhgjlnckidjkaaDoor
open Go Go.RowKit
open Wb

set_option maxRecDepth 100000 in
set_option maxHeartbeats 1000000 in
theorem r4down_e1 (to : Int) (r : Rec) (d : Value) (w : World) (h : Bs w d r.l) (hT : Tabs w) (hnm : r.nm.size ≤ 1048576) (hf : r.x.fit) (hc : chkR r ≠ 0) :
    Calls Tryd.prog 29 #[rv r.x r.nm d, .int .i64 to] w fun e w' => NewT w w' (downP to r) e := by
  have HE : Hid (downP to r = (chkR r, zRec)) := by
    show _ = _
    have hl : lckE to r = chkR r := by { unfold lckE; rw [if_pos hc] }
    unfold downP; rw [hl, if_pos hc]
  rw [HE.out]
  have HIR : Hid ((Tryd.prog.info? 38).map (·.size) = some 12) := infoRec
  have HX : Hid (∀ o1 o2, ((w.alloc o1).alloc o2).heap[w.heap.size]? = some o1 ∧ ((w.alloc o1).alloc o2).heap[w.heap.size + 1]? = some o2 ∧ Below w.heap.size w ((w.alloc o1).alloc o2)) := fun o1 o2 => heap2 w o1 o2
  have HRC : Hid (∀ w', Below w.heap.size w w' → Calls Tryd.prog 39 #[rv r.x r.nm d] w' fun e w'' => e = .returned (.int .i64 (chkR r)) ∧ Below w'.heap.size w' w'') := fun w' hb' => refcheck_any r.x r.nm d r.l w' (h.kept hb') (hT.kept hb').rlets (hT.kept hb').rows hf.c (by omega)
  have d1 : (chkR r != 0) = true := by rw [bne_iff_ne]; exact hc
  obtain ⟨ao, cap, rfl, _⟩ := h.shape
  clear h HE hf
  generalize chkR r = z at *
  simp only [zRec, zeroNums]
  unfold rv at *
  go_enter Tryd.func29, Tryd.ntmps29
  go_wp2_with fail
  refine (HRC.out _ (HX.out _ _).2.2).mono ?_
  rintro e w1 ⟨rfl, b1⟩
  have hbx : Box w1 w.heap.size r.x r.nm (.slice ao r.l.length cap) := Box.kept (HX.out _ _).1 b1
  have hz : Box w1 (w.heap.size + 1) zeroNums ⟨#[]⟩ (.slice none 0 0) := Box.kept (HX.out _ _).2.1 b1
  have B1 := andThen (HX.out _ _).2.2 b1
  clear b1 HX HRC
  have c0 := hbx.cells.1
  obtain ⟨z0, z1, z2, z3, z4, z5, z6, z7, z8, z9, z10, z11⟩ := hz.cells
  have f0 := hz.free' 0
  have f1 := hz.free' 1
  have f2 := hz.free' 2
  have f3 := hz.free' 3
  have f4 := hz.free' 4
  have f5 := hz.free' 5
  have f6 := hz.free' 6
  have f7 := hz.free' 7
  have f8 := hz.free' 8
  have f9 := hz.free' 9
  have f10 := hz.free' 10
  have f11 := hz.free' 11
  have HTH : Hid (w1.there (w.heap.size + 1) 0 12) := hz.there
  have HBF : Hid (Below w.heap.size w (w1.setCells (w.heap.size + 1) 0 [.int .i64 0, .int .i64 0, .int .i64 0, .int .i64 0, .int .i64 0, .int .i64 0, .int .i64 0, .int .i64 0, .int .i64 0, .int .i64 0, .string ⟨#[]⟩, .slice none 0 0])) := below_cells (by omega) _ 0 _ B1
  clear hbx hz B1
  go_wp2
  have HRG := World.rangeAt_setCells_same w1 (w.heap.size + 1) 0 [.int .i64 0, .int .i64 0, .int .i64 0, .int .i64 0, .int .i64 0, .int .i64 0, .int .i64 0, .int .i64 0, .int .i64 0, .int .i64 0, .string ⟨#[]⟩, .slice none 0 0] HTH.out
  refine bodyPost_ret (results_cell_slot (p := 4) (s := 5) (ty := 38) rfl _ _ (w.heap.size + 1) [.int .i64 0, .int .i64 0, .int .i64 0, .int .i64 0, .int .i64 0, .int .i64 0, .int .i64 0, .int .i64 0, .int .i64 0, .int .i64 0, .string ⟨#[]⟩, .slice none 0 0] _ rfl HRG Tryd.underlying38 rfl HIR.out) rfl ?_
  exact ⟨none, 0, rfl, Bs.nil _, fun g _ => off_nil g _, HBF.out⟩
set_option maxRecDepth 100000 in
set_option maxHeartbeats 1000000 in
theorem r4down_e2a (to : Int) (r : Rec) (d : Value) (w : World) (h : Bs w d r.l) (hT : Tabs w) (hnm : r.nm.size ≤ 1048576) (hf : r.x.fit) (hc : chkR r = 0) (ht : to < 1) :
    Calls Tryd.prog 29 #[rv r.x r.nm d, .int .i64 to] w fun e w' => NewT w w' (downP to r) e := by
  have HE : Hid (downP to r = (3, zRec)) := by
    show _ = _
    have hl : lckE to r = 3 := by { unfold lckE; rw [if_neg (by simpa using hc), if_neg (by omega)] }
    unfold downP; rw [hl, if_pos (by decide)]
  rw [HE.out]
  have HIR : Hid ((Tryd.prog.info? 38).map (·.size) = some 12) := infoRec
  have HX : Hid (∀ o1 o2, ((w.alloc o1).alloc o2).heap[w.heap.size]? = some o1 ∧ ((w.alloc o1).alloc o2).heap[w.heap.size + 1]? = some o2 ∧ Below w.heap.size w ((w.alloc o1).alloc o2)) := fun o1 o2 => heap2 w o1 o2
  have HRC : Hid (∀ w', Below w.heap.size w w' → Calls Tryd.prog 39 #[rv r.x r.nm d] w' fun e w'' => e = .returned (.int .i64 (chkR r)) ∧ Below w'.heap.size w' w'') := fun w' hb' => refcheck_any r.x r.nm d r.l w' (h.kept hb') (hT.kept hb').rlets (hT.kept hb').rows hf.c (by omega)
  rw [hc] at HRC
  obtain ⟨ao, cap, rfl, _⟩ := h.shape
  clear h HE hf
  simp only [zRec, zeroNums]
  unfold rv at *
  go_enter Tryd.func29, Tryd.ntmps29
  go_wp2_with fail
  refine (HRC.out _ (HX.out _ _).2.2).mono ?_
  rintro e w1 ⟨rfl, b1⟩
  have hbx : Box w1 w.heap.size r.x r.nm (.slice ao r.l.length cap) := Box.kept (HX.out _ _).1 b1
  have hz : Box w1 (w.heap.size + 1) zeroNums ⟨#[]⟩ (.slice none 0 0) := Box.kept (HX.out _ _).2.1 b1
  have B1 := andThen (HX.out _ _).2.2 b1
  clear b1 HX HRC
  have c0 := hbx.cells.1
  obtain ⟨z0, z1, z2, z3, z4, z5, z6, z7, z8, z9, z10, z11⟩ := hz.cells
  have f0 := hz.free' 0
  have f1 := hz.free' 1
  have f2 := hz.free' 2
  have f3 := hz.free' 3
  have f4 := hz.free' 4
  have f5 := hz.free' 5
  have f6 := hz.free' 6
  have f7 := hz.free' 7
  have f8 := hz.free' 8
  have f9 := hz.free' 9
  have f10 := hz.free' 10
  have f11 := hz.free' 11
  have HTH : Hid (w1.there (w.heap.size + 1) 0 12) := hz.there
  have HBF : Hid (Below w.heap.size w (w1.setCells (w.heap.size + 1) 0 [.int .i64 0, .int .i64 0, .int .i64 0, .int .i64 0, .int .i64 0, .int .i64 0, .int .i64 0, .int .i64 0, .int .i64 0, .int .i64 0, .string ⟨#[]⟩, .slice none 0 0])) := below_cells (by omega) _ 0 _ B1
  clear hbx hz B1
  go_wp2
  have HRG := World.rangeAt_setCells_same w1 (w.heap.size + 1) 0 [.int .i64 0, .int .i64 0, .int .i64 0, .int .i64 0, .int .i64 0, .int .i64 0, .int .i64 0, .int .i64 0, .int .i64 0, .int .i64 0, .string ⟨#[]⟩, .slice none 0 0] HTH.out
  refine bodyPost_ret (results_cell_slot (p := 4) (s := 5) (ty := 38) rfl _ _ (w.heap.size + 1) [.int .i64 0, .int .i64 0, .int .i64 0, .int .i64 0, .int .i64 0, .int .i64 0, .int .i64 0, .int .i64 0, .int .i64 0, .int .i64 0, .string ⟨#[]⟩, .slice none 0 0] _ rfl HRG Tryd.underlying38 rfl HIR.out) rfl ?_
  exact ⟨none, 0, rfl, Bs.nil _, fun g _ => off_nil g _, HBF.out⟩
set_option maxRecDepth 100000 in
set_option maxHeartbeats 1000000 in
theorem r4down_e2b (to : Int) (r : Rec) (d : Value) (w : World) (h : Bs w d r.l) (hT : Tabs w) (hnm : r.nm.size ≤ 1048576) (hf : r.x.fit) (hc : chkR r = 0) (ht : 3 < to) :
    Calls Tryd.prog 29 #[rv r.x r.nm d, .int .i64 to] w fun e w' => NewT w w' (downP to r) e := by
  have HE : Hid (downP to r = (3, zRec)) := by
    show _ = _
    have hl : lckE to r = 3 := by { unfold lckE; rw [if_neg (by simpa using hc), if_neg (by omega)] }
    unfold downP; rw [hl, if_pos (by decide)]
  rw [HE.out]
  have HIR : Hid ((Tryd.prog.info? 38).map (·.size) = some 12) := infoRec
  have HX : Hid (∀ o1 o2, ((w.alloc o1).alloc o2).heap[w.heap.size]? = some o1 ∧ ((w.alloc o1).alloc o2).heap[w.heap.size + 1]? = some o2 ∧ Below w.heap.size w ((w.alloc o1).alloc o2)) := fun o1 o2 => heap2 w o1 o2
  have HRC : Hid (∀ w', Below w.heap.size w w' → Calls Tryd.prog 39 #[rv r.x r.nm d] w' fun e w'' => e = .returned (.int .i64 (chkR r)) ∧ Below w'.heap.size w' w'') := fun w' hb' => refcheck_any r.x r.nm d r.l w' (h.kept hb') (hT.kept hb').rlets (hT.kept hb').rows hf.c (by omega)
  rw [hc] at HRC
  obtain ⟨ao, cap, rfl, _⟩ := h.shape
  clear h HE hf
  simp only [zRec, zeroNums]
  unfold rv at *
  go_enter Tryd.func29, Tryd.ntmps29
  go_wp2_with fail
  refine (HRC.out _ (HX.out _ _).2.2).mono ?_
  rintro e w1 ⟨rfl, b1⟩
  have hbx : Box w1 w.heap.size r.x r.nm (.slice ao r.l.length cap) := Box.kept (HX.out _ _).1 b1
  have hz : Box w1 (w.heap.size + 1) zeroNums ⟨#[]⟩ (.slice none 0 0) := Box.kept (HX.out _ _).2.1 b1
  have B1 := andThen (HX.out _ _).2.2 b1
  clear b1 HX HRC
  have c0 := hbx.cells.1
  obtain ⟨z0, z1, z2, z3, z4, z5, z6, z7, z8, z9, z10, z11⟩ := hz.cells
  have f0 := hz.free' 0
  have f1 := hz.free' 1
  have f2 := hz.free' 2
  have f3 := hz.free' 3
  have f4 := hz.free' 4
  have f5 := hz.free' 5
  have f6 := hz.free' 6
  have f7 := hz.free' 7
  have f8 := hz.free' 8
  have f9 := hz.free' 9
  have f10 := hz.free' 10
  have f11 := hz.free' 11
  have HTH : Hid (w1.there (w.heap.size + 1) 0 12) := hz.there
  have HBF : Hid (Below w.heap.size w (w1.setCells (w.heap.size + 1) 0 [.int .i64 0, .int .i64 0, .int .i64 0, .int .i64 0, .int .i64 0, .int .i64 0, .int .i64 0, .int .i64 0, .int .i64 0, .int .i64 0, .string ⟨#[]⟩, .slice none 0 0])) := below_cells (by omega) _ 0 _ B1
  clear hbx hz B1
  go_wp2
  have HRG := World.rangeAt_setCells_same w1 (w.heap.size + 1) 0 [.int .i64 0, .int .i64 0, .int .i64 0, .int .i64 0, .int .i64 0, .int .i64 0, .int .i64 0, .int .i64 0, .int .i64 0, .int .i64 0, .string ⟨#[]⟩, .slice none 0 0] HTH.out
  refine bodyPost_ret (results_cell_slot (p := 4) (s := 5) (ty := 38) rfl _ _ (w.heap.size + 1) [.int .i64 0, .int .i64 0, .int .i64 0, .int .i64 0, .int .i64 0, .int .i64 0, .int .i64 0, .int .i64 0, .int .i64 0, .int .i64 0, .string ⟨#[]⟩, .slice none 0 0] _ rfl HRG Tryd.underlying38 rfl HIR.out) rfl ?_
  exact ⟨none, 0, rfl, Bs.nil _, fun g _ => off_nil g _, HBF.out⟩
set_option maxRecDepth 100000 in
set_option maxHeartbeats 1000000 in
theorem r4down_e3 (to : Int) (r : Rec) (d : Value) (w : World) (h : Bs w d r.l) (hT : Tabs w) (hnm : r.nm.size ≤ 1048576) (hf : r.x.fit) (hc : chkR r = 0) (h1 : 1 ≤ to) (h3 : to ≤ 3) (ht : r.x.v < to) :
    Calls Tryd.prog 29 #[rv r.x r.nm d, .int .i64 to] w fun e w' => NewT w w' (downP to r) e := by
  have HE : Hid (downP to r = (41, zRec)) := by
    show _ = _
    have hl : lckE to r = 0 := lck_zero.2 ⟨hc, h1, h3⟩
    unfold downP; rw [hl, if_neg (by simp), if_pos ht]
  rw [HE.out]
  have HIR : Hid ((Tryd.prog.info? 38).map (·.size) = some 12) := infoRec
  have HX : Hid (∀ o1 o2, ((w.alloc o1).alloc o2).heap[w.heap.size]? = some o1 ∧ ((w.alloc o1).alloc o2).heap[w.heap.size + 1]? = some o2 ∧ Below w.heap.size w ((w.alloc o1).alloc o2)) := fun o1 o2 => heap2 w o1 o2
  have HRC : Hid (∀ w', Below w.heap.size w w' → Calls Tryd.prog 39 #[rv r.x r.nm d] w' fun e w'' => e = .returned (.int .i64 (chkR r)) ∧ Below w'.heap.size w' w'') := fun w' hb' => refcheck_any r.x r.nm d r.l w' (h.kept hb') (hT.kept hb').rlets (hT.kept hb').rows hf.c (by omega)
  rw [hc] at HRC
  obtain ⟨ao, cap, rfl, _⟩ := h.shape
  clear h HE hf
  simp only [zRec, zeroNums]
  unfold rv at *
  go_enter Tryd.func29, Tryd.ntmps29
  go_wp2_with fail
  refine (HRC.out _ (HX.out _ _).2.2).mono ?_
  rintro e w1 ⟨rfl, b1⟩
  have hbx : Box w1 w.heap.size r.x r.nm (.slice ao r.l.length cap) := Box.kept (HX.out _ _).1 b1
  have hz : Box w1 (w.heap.size + 1) zeroNums ⟨#[]⟩ (.slice none 0 0) := Box.kept (HX.out _ _).2.1 b1
  have B1 := andThen (HX.out _ _).2.2 b1
  clear b1 HX HRC
  have c0 := hbx.cells.1
  obtain ⟨z0, z1, z2, z3, z4, z5, z6, z7, z8, z9, z10, z11⟩ := hz.cells
  have f0 := hz.free' 0
  have f1 := hz.free' 1
  have f2 := hz.free' 2
  have f3 := hz.free' 3
  have f4 := hz.free' 4
  have f5 := hz.free' 5
  have f6 := hz.free' 6
  have f7 := hz.free' 7
  have f8 := hz.free' 8
  have f9 := hz.free' 9
  have f10 := hz.free' 10
  have f11 := hz.free' 11
  have HTH : Hid (w1.there (w.heap.size + 1) 0 12) := hz.there
  have HBF : Hid (Below w.heap.size w (w1.setCells (w.heap.size + 1) 0 [.int .i64 0, .int .i64 0, .int .i64 0, .int .i64 0, .int .i64 0, .int .i64 0, .int .i64 0, .int .i64 0, .int .i64 0, .int .i64 0, .string ⟨#[]⟩, .slice none 0 0])) := below_cells (by omega) _ 0 _ B1
  clear hbx hz B1
  go_wp2
  have HRG := World.rangeAt_setCells_same w1 (w.heap.size + 1) 0 [.int .i64 0, .int .i64 0, .int .i64 0, .int .i64 0, .int .i64 0, .int .i64 0, .int .i64 0, .int .i64 0, .int .i64 0, .int .i64 0, .string ⟨#[]⟩, .slice none 0 0] HTH.out
  refine bodyPost_ret (results_cell_slot (p := 4) (s := 5) (ty := 38) rfl _ _ (w.heap.size + 1) [.int .i64 0, .int .i64 0, .int .i64 0, .int .i64 0, .int .i64 0, .int .i64 0, .int .i64 0, .int .i64 0, .int .i64 0, .int .i64 0, .string ⟨#[]⟩, .slice none 0 0] _ rfl HRG Tryd.underlying38 rfl HIR.out) rfl ?_
  exact ⟨none, 0, rfl, Bs.nil _, fun g _ => off_nil g _, HBF.out⟩
set_option maxRecDepth 100000 in
set_option maxHeartbeats 1000000 in
theorem r4down_L1 (to : Int) (r : Rec) (d : Value) (w : World) (h : Bs w d r.l) (hT : Tabs w) (hnm : r.nm.size ≤ 1048576) (hf : r.x.fit) (hc : chkR r = 0) (h1 : 1 ≤ to) (h3 : to ≤ 3) (hv : ¬ r.x.v < to) (he : (upP r.x.v (guessP to r)).1 ≠ 0) :
    Calls Tryd.prog 29 #[rv r.x r.nm d, .int .i64 to] w fun e w' => NewT w w' (downP to r) e := by
  have HE : Hid (downP to r = (40, zRec)) := by
    show _ = _
    rw [down_ref to r hc h1 h3 (by omega), if_pos he]
  rw [HE.out]
  have HIR : Hid ((Tryd.prog.info? 38).map (·.size) = some 12) := infoRec
  have HX : Hid (∀ o1 o2, ((w.alloc o1).alloc o2).heap[w.heap.size]? = some o1 ∧ ((w.alloc o1).alloc o2).heap[w.heap.size + 1]? = some o2 ∧ Below w.heap.size w ((w.alloc o1).alloc o2)) := fun o1 o2 => heap2 w o1 o2
  have HRC : Hid (∀ w', Below w.heap.size w w' → Calls Tryd.prog 39 #[rv r.x r.nm d] w' fun e w'' => e = .returned (.int .i64 (chkR r)) ∧ Below w'.heap.size w' w'') := fun w' hb' => refcheck_any r.x r.nm d r.l w' (h.kept hb') (hT.kept hb').rlets (hT.kept hb').rows hf.c (by omega)
  rw [hc] at HRC
  have hs := small_of r hf hc
  have HGS : Hid ((guessP to r).small ∧ (guessP to r).x.fit) := by
    show _ ∧ _
    rw [guess_car to r hc h1 (by omega)]
    exact ⟨carL_small _ _ hs, carL_fit _ _ hf⟩
  have HGU : Hid (∀ w', Below w.heap.size w w' → Calls Tryd.prog 42 #[rv r.x r.nm d, .int .i64 to] w' fun e w'' => NewR w' w'' (guessP to r) e) := fun w' hb => guess_any to r d w' (h.kept hb) hs h1 h3 (by omega)
  have HUP : Hid (∀ w' ag (pg : Nat), Below w.heap.size w w' → Bs w' (.slice ag (guessP to r).l.length pg) (guessP to r).l → Calls Tryd.prog 27 #[rv (guessP to r).x (guessP to r).nm (.slice ag (guessP to r).l.length pg), .int .i64 r.x.v] w' fun e w'' => NewT w' w'' (upP r.x.v (guessP to r)) e) := fun w' ag pg hb hbs => r4up_any r.x.v (guessP to r) _ w' hbs (hT.kept hb) (by have := HGS.out.1.1; omega) HGS.out.2
  have HB : Hid (∀ w', Below w.heap.size w w' → Bs w' d r.l) := fun w' hb => h.kept hb
  obtain ⟨ao, cap, rfl, _⟩ := h.shape
  generalize guessP to r = G at *
  obtain ⟨ez, hez⟩ : ∃ z, (upP r.x.v G).1 = z := ⟨_, rfl⟩
  obtain ⟨U, hU⟩ : ∃ U, (upP r.x.v G).2 = U := ⟨_, rfl⟩
  have HUP2 : Hid (∀ w' ag (pg : Nat), Below w.heap.size w w' → Bs w' (.slice ag G.l.length pg) G.l → Calls Tryd.prog 27 #[rv G.x G.nm (.slice ag G.l.length pg), .int .i64 r.x.v] w' fun e w'' => ∃ au, ∃ pu : Nat, e = .returned (.tuple #[rv U.x U.nm (.slice au U.l.length pu), .int .i64 ez]) ∧ Bs w'' (.slice au U.l.length pu) U.l ∧ Below w'.heap.size w' w'') := fun w' ag pg hb hbs => (HUP.out w' ag pg hb hbs).mono fun e w'' ⟨au, pu, e1, e2, _, e4⟩ => by
    rw [hU] at e1 e2
    rw [hez] at e1
    exact ⟨au, pu, e1, e2, e4⟩
  rw [hez] at he
  have dz : (ez != 0) = true := by rw [bne_iff_ne]; exact he
  clear he
  clear h hf hT hc HUP hU hez HGS hs HE
  simp only [zRec, zeroNums]
  unfold rv at *
  go_enter Tryd.func29, Tryd.ntmps29
  go_wp2_with fail
  refine (HRC.out _ (HX.out _ _).2.2).mono ?_
  rintro e w1 ⟨rfl, b1⟩
  have hbx : Box w1 w.heap.size r.x r.nm (.slice ao r.l.length cap) := Box.kept (HX.out _ _).1 b1
  have hz : Box w1 (w.heap.size + 1) zeroNums ⟨#[]⟩ (.slice none 0 0) := Box.kept (HX.out _ _).2.1 b1
  have B1 := andThen (HX.out _ _).2.2 b1
  clear b1 HX HRC
  obtain ⟨c0, c1, c2, c3, c4, c5, c6, c7, c8, c9, c10, c11⟩ := hbx.cells
  go_wp2_with fail
  refine (HGU.out _ B1).mono ?_
  rintro e w2 ⟨ag, pg, rfl, hb2, hf2, b2⟩
  unfold rv
  have HK : Hid (Box (w2.alloc (.cells #[.int .i64 G.x.v, .int .i64 G.x.k, .int .i64 G.x.s, .int .i64 G.x.p, .int .i64 G.x.t, .int .i64 G.x.a, .int .i64 G.x.l, .int .i64 G.x.c, .int .i64 G.x.n, .int .i64 G.x.i, .string G.nm, .slice ag G.l.length pg] 38)) w.heap.size r.x r.nm (.slice ao r.l.length cap) ∧ Box (w2.alloc (.cells #[.int .i64 G.x.v, .int .i64 G.x.k, .int .i64 G.x.s, .int .i64 G.x.p, .int .i64 G.x.t, .int .i64 G.x.a, .int .i64 G.x.l, .int .i64 G.x.c, .int .i64 G.x.n, .int .i64 G.x.i, .string G.nm, .slice ag G.l.length pg] 38)) (w.heap.size + 1) zeroNums ⟨#[]⟩ (.slice none 0 0) ∧ Box (w2.alloc (.cells #[.int .i64 G.x.v, .int .i64 G.x.k, .int .i64 G.x.s, .int .i64 G.x.p, .int .i64 G.x.t, .int .i64 G.x.a, .int .i64 G.x.l, .int .i64 G.x.c, .int .i64 G.x.n, .int .i64 G.x.i, .string G.nm, .slice ag G.l.length pg] 38)) w2.heap.size G.x G.nm (.slice ag G.l.length pg) ∧ Bs (w2.alloc (.cells #[.int .i64 G.x.v, .int .i64 G.x.k, .int .i64 G.x.s, .int .i64 G.x.p, .int .i64 G.x.t, .int .i64 G.x.a, .int .i64 G.x.l, .int .i64 G.x.c, .int .i64 G.x.n, .int .i64 G.x.i, .string G.nm, .slice ag G.l.length pg] 38)) (.slice ag G.l.length pg) G.l ∧ (∀ g, g < w.heap.size + 2 → Off g (.slice ag G.l.length pg) G.l) ∧ Below w.heap.size w (w2.alloc (.cells #[.int .i64 G.x.v, .int .i64 G.x.k, .int .i64 G.x.s, .int .i64 G.x.p, .int .i64 G.x.t, .int .i64 G.x.a, .int .i64 G.x.l, .int .i64 G.x.c, .int .i64 G.x.n, .int .i64 G.x.i, .string G.nm, .slice ag G.l.length pg] 38))) := ⟨(hbx.kept b2).kept (up0 _ _), (hz.kept b2).kept (up0 _ _), heap_new _ _, hb2.alloc _, fun g hg => hf2 g (by have := hz.lt; omega), up (andThen B1 b2) _⟩
  clear c0 c1 c2 c3 c4 c5 c6 c7 c8 c9 c10 c11 hbx hz b2 hb2 hf2 B1 HGU
  go_upto_region 9 with fail
  have HK' := HK.out
  clear HK
  generalize w2.alloc (.cells #[.int .i64 G.x.v, .int .i64 G.x.k, .int .i64 G.x.s, .int .i64 G.x.p, .int .i64 G.x.t, .int .i64 G.x.a, .int .i64 G.x.l, .int .i64 G.x.c, .int .i64 G.x.n, .int .i64 G.x.i, .string G.nm, .slice ag G.l.length pg] 38) = W2 at HK' ⊢
  generalize w2.heap.size = g2 at HK' ⊢
  obtain ⟨hbx, hz, hq, hb2, hf2, B2⟩ := HK'
  have c0 := hbx.cells.1
  obtain ⟨q0, q1, q2, q3, q4, q5, q6, q7, q8, q9, q10, q11⟩ := hq.cells
  go_wp2_with fail
  refine (HUP2.out _ _ _ B2 hb2).mono ?_
  rintro e w3 ⟨au, pu, rfl, hb3, b3⟩
  have HK : Hid (Box (w3.alloc (.cells #[.int .i64 U.x.v, .int .i64 U.x.k, .int .i64 U.x.s, .int .i64 U.x.p, .int .i64 U.x.t, .int .i64 U.x.a, .int .i64 U.x.l, .int .i64 U.x.c, .int .i64 U.x.n, .int .i64 U.x.i, .string U.nm, .slice au U.l.length pu] 38)) w.heap.size r.x r.nm (.slice ao r.l.length cap) ∧ Box (w3.alloc (.cells #[.int .i64 U.x.v, .int .i64 U.x.k, .int .i64 U.x.s, .int .i64 U.x.p, .int .i64 U.x.t, .int .i64 U.x.a, .int .i64 U.x.l, .int .i64 U.x.c, .int .i64 U.x.n, .int .i64 U.x.i, .string U.nm, .slice au U.l.length pu] 38)) (w.heap.size + 1) zeroNums ⟨#[]⟩ (.slice none 0 0) ∧ Box (w3.alloc (.cells #[.int .i64 U.x.v, .int .i64 U.x.k, .int .i64 U.x.s, .int .i64 U.x.p, .int .i64 U.x.t, .int .i64 U.x.a, .int .i64 U.x.l, .int .i64 U.x.c, .int .i64 U.x.n, .int .i64 U.x.i, .string U.nm, .slice au U.l.length pu] 38)) g2 G.x G.nm (.slice ag G.l.length pg) ∧ Box (w3.alloc (.cells #[.int .i64 U.x.v, .int .i64 U.x.k, .int .i64 U.x.s, .int .i64 U.x.p, .int .i64 U.x.t, .int .i64 U.x.a, .int .i64 U.x.l, .int .i64 U.x.c, .int .i64 U.x.n, .int .i64 U.x.i, .string U.nm, .slice au U.l.length pu] 38)) w3.heap.size U.x U.nm (.slice au U.l.length pu) ∧ Bs (w3.alloc (.cells #[.int .i64 U.x.v, .int .i64 U.x.k, .int .i64 U.x.s, .int .i64 U.x.p, .int .i64 U.x.t, .int .i64 U.x.a, .int .i64 U.x.l, .int .i64 U.x.c, .int .i64 U.x.n, .int .i64 U.x.i, .string U.nm, .slice au U.l.length pu] 38)) (.slice ag G.l.length pg) G.l ∧ Bs (w3.alloc (.cells #[.int .i64 U.x.v, .int .i64 U.x.k, .int .i64 U.x.s, .int .i64 U.x.p, .int .i64 U.x.t, .int .i64 U.x.a, .int .i64 U.x.l, .int .i64 U.x.c, .int .i64 U.x.n, .int .i64 U.x.i, .string U.nm, .slice au U.l.length pu] 38)) (.slice au U.l.length pu) U.l ∧ (∀ g, g < w.heap.size + 2 → Off g (.slice ag G.l.length pg) G.l) ∧ Below w.heap.size w (w3.alloc (.cells #[.int .i64 U.x.v, .int .i64 U.x.k, .int .i64 U.x.s, .int .i64 U.x.p, .int .i64 U.x.t, .int .i64 U.x.a, .int .i64 U.x.l, .int .i64 U.x.c, .int .i64 U.x.n, .int .i64 U.x.i, .string U.nm, .slice au U.l.length pu] 38))) := ⟨(hbx.kept b3).kept (up0 _ _), (hz.kept b3).kept (up0 _ _), (hq.kept b3).kept (up0 _ _), heap_new _ _, (hb2.kept b3).alloc _, hb3.alloc _, hf2, up (andThen B2 b3) _⟩
  clear c0 q0 q1 q2 q3 q4 q5 q6 q7 q8 q9 q10 q11 hbx hz hq hb2 hf2 B2 b3 hb3 HUP2
  go_upto_region 10 with fail
  have HK' := HK.out
  clear HK
  generalize w3.alloc (.cells #[.int .i64 U.x.v, .int .i64 U.x.k, .int .i64 U.x.s, .int .i64 U.x.p, .int .i64 U.x.t, .int .i64 U.x.a, .int .i64 U.x.l, .int .i64 U.x.c, .int .i64 U.x.n, .int .i64 U.x.i, .string U.nm, .slice au U.l.length pu] 38) = W3 at HK' ⊢
  generalize w3.heap.size = g3 at HK' ⊢
  obtain ⟨hbx, hz, hq, hu, hb2, hb3, hof, hB⟩ := HK'
  clear hbx hq hu hb2 hb3 hof HB
  obtain ⟨z0, z1, z2, z3, z4, z5, z6, z7, z8, z9, z10, z11⟩ := hz.cells
  have f0 := hz.free' 0
  have f1 := hz.free' 1
  have f2 := hz.free' 2
  have f3 := hz.free' 3
  have f4 := hz.free' 4
  have f5 := hz.free' 5
  have f6 := hz.free' 6
  have f7 := hz.free' 7
  have f8 := hz.free' 8
  have f9 := hz.free' 9
  have f10 := hz.free' 10
  have f11 := hz.free' 11
  have HTH : Hid (W3.there (w.heap.size + 1) 0 12) := hz.there
  have HBF : Hid (Below w.heap.size w (W3.setCells (w.heap.size + 1) 0 [.int .i64 0, .int .i64 0, .int .i64 0, .int .i64 0, .int .i64 0, .int .i64 0, .int .i64 0, .int .i64 0, .int .i64 0, .int .i64 0, .string ⟨#[]⟩, .slice none 0 0])) := below_cells (by omega) _ 0 _ hB
  clear hz hB 
  go_wp2
  have HRG := World.rangeAt_setCells_same W3 (w.heap.size + 1) 0 [.int .i64 0, .int .i64 0, .int .i64 0, .int .i64 0, .int .i64 0, .int .i64 0, .int .i64 0, .int .i64 0, .int .i64 0, .int .i64 0, .string ⟨#[]⟩, .slice none 0 0] HTH.out
  refine bodyPost_ret (results_cell_slot (p := 4) (s := 5) (ty := 38) rfl _ _ (w.heap.size + 1) [.int .i64 0, .int .i64 0, .int .i64 0, .int .i64 0, .int .i64 0, .int .i64 0, .int .i64 0, .int .i64 0, .int .i64 0, .int .i64 0, .string ⟨#[]⟩, .slice none 0 0] _ rfl HRG Tryd.underlying38 rfl HIR.out) rfl ?_
  exact ⟨none, 0, rfl, Bs.nil _, fun g _ => off_nil g _, HBF.out⟩
set_option maxRecDepth 100000 in
set_option maxHeartbeats 1000000 in
theorem r4down_L2 (to : Int) (r : Rec) (d : Value) (w : World) (h : Bs w d r.l) (hT : Tabs w) (hnm : r.nm.size ≤ 1048576) (hf : r.x.fit) (hc : chkR r = 0) (h1 : 1 ≤ to) (h3 : to ≤ 3) (hv : ¬ r.x.v < to) (he : (upP r.x.v (guessP to r)).1 = 0) (hq : eqR (upP r.x.v (guessP to r)).2 r = false) :
    Calls Tryd.prog 29 #[rv r.x r.nm d, .int .i64 to] w fun e w' => NewT w w' (downP to r) e := by
  have HE : Hid (downP to r = (40, zRec)) := by
    show _ = _
    rw [down_ref to r hc h1 h3 (by omega), if_neg (by simpa using he), if_neg (by rw [hq]; decide)]
  rw [HE.out]
  have HIR : Hid ((Tryd.prog.info? 38).map (·.size) = some 12) := infoRec
  have HX : Hid (∀ o1 o2, ((w.alloc o1).alloc o2).heap[w.heap.size]? = some o1 ∧ ((w.alloc o1).alloc o2).heap[w.heap.size + 1]? = some o2 ∧ Below w.heap.size w ((w.alloc o1).alloc o2)) := fun o1 o2 => heap2 w o1 o2
  have HRC : Hid (∀ w', Below w.heap.size w w' → Calls Tryd.prog 39 #[rv r.x r.nm d] w' fun e w'' => e = .returned (.int .i64 (chkR r)) ∧ Below w'.heap.size w' w'') := fun w' hb' => refcheck_any r.x r.nm d r.l w' (h.kept hb') (hT.kept hb').rlets (hT.kept hb').rows hf.c (by omega)
  rw [hc] at HRC
  have hs := small_of r hf hc
  have HGS : Hid ((guessP to r).small ∧ (guessP to r).x.fit) := by
    show _ ∧ _
    rw [guess_car to r hc h1 (by omega)]
    exact ⟨carL_small _ _ hs, carL_fit _ _ hf⟩
  have HGU : Hid (∀ w', Below w.heap.size w w' → Calls Tryd.prog 42 #[rv r.x r.nm d, .int .i64 to] w' fun e w'' => NewR w' w'' (guessP to r) e) := fun w' hb => guess_any to r d w' (h.kept hb) hs h1 h3 (by omega)
  have HUP : Hid (∀ w' ag (pg : Nat), Below w.heap.size w w' → Bs w' (.slice ag (guessP to r).l.length pg) (guessP to r).l → Calls Tryd.prog 27 #[rv (guessP to r).x (guessP to r).nm (.slice ag (guessP to r).l.length pg), .int .i64 r.x.v] w' fun e w'' => NewT w' w'' (upP r.x.v (guessP to r)) e) := fun w' ag pg hb hbs => r4up_any r.x.v (guessP to r) _ w' hbs (hT.kept hb) (by have := HGS.out.1.1; omega) HGS.out.2
  have HB : Hid (∀ w', Below w.heap.size w w' → Bs w' d r.l) := fun w' hb => h.kept hb
  obtain ⟨ao, cap, rfl, _⟩ := h.shape
  generalize guessP to r = G at *
  obtain ⟨ez, hez⟩ : ∃ z, (upP r.x.v G).1 = z := ⟨_, rfl⟩
  obtain ⟨U, hU⟩ : ∃ U, (upP r.x.v G).2 = U := ⟨_, rfl⟩
  have HUP2 : Hid (∀ w' ag (pg : Nat), Below w.heap.size w w' → Bs w' (.slice ag G.l.length pg) G.l → Calls Tryd.prog 27 #[rv G.x G.nm (.slice ag G.l.length pg), .int .i64 r.x.v] w' fun e w'' => ∃ au, ∃ pu : Nat, e = .returned (.tuple #[rv U.x U.nm (.slice au U.l.length pu), .int .i64 ez]) ∧ Bs w'' (.slice au U.l.length pu) U.l ∧ Below w'.heap.size w' w'') := fun w' ag pg hb hbs => (HUP.out w' ag pg hb hbs).mono fun e w'' ⟨au, pu, e1, e2, _, e4⟩ => by
    rw [hU] at e1 e2
    rw [hez] at e1
    exact ⟨au, pu, e1, e2, e4⟩
  rw [hez] at he
  subst he
  rw [hU] at hq
  have HEQ : Hid (recEq U.x r.x U.nm r.nm U.l r.l = false) := hq
  clear hq
  clear h hf hT hc HUP hU hez HGS hs HE
  simp only [zRec, zeroNums]
  unfold rv at *
  go_enter Tryd.func29, Tryd.ntmps29
  go_wp2_with fail
  refine (HRC.out _ (HX.out _ _).2.2).mono ?_
  rintro e w1 ⟨rfl, b1⟩
  have hbx : Box w1 w.heap.size r.x r.nm (.slice ao r.l.length cap) := Box.kept (HX.out _ _).1 b1
  have hz : Box w1 (w.heap.size + 1) zeroNums ⟨#[]⟩ (.slice none 0 0) := Box.kept (HX.out _ _).2.1 b1
  have B1 := andThen (HX.out _ _).2.2 b1
  clear b1 HX HRC
  obtain ⟨c0, c1, c2, c3, c4, c5, c6, c7, c8, c9, c10, c11⟩ := hbx.cells
  go_wp2_with fail
  refine (HGU.out _ B1).mono ?_
  rintro e w2 ⟨ag, pg, rfl, hb2, hf2, b2⟩
  unfold rv
  have HK : Hid (Box (w2.alloc (.cells #[.int .i64 G.x.v, .int .i64 G.x.k, .int .i64 G.x.s, .int .i64 G.x.p, .int .i64 G.x.t, .int .i64 G.x.a, .int .i64 G.x.l, .int .i64 G.x.c, .int .i64 G.x.n, .int .i64 G.x.i, .string G.nm, .slice ag G.l.length pg] 38)) w.heap.size r.x r.nm (.slice ao r.l.length cap) ∧ Box (w2.alloc (.cells #[.int .i64 G.x.v, .int .i64 G.x.k, .int .i64 G.x.s, .int .i64 G.x.p, .int .i64 G.x.t, .int .i64 G.x.a, .int .i64 G.x.l, .int .i64 G.x.c, .int .i64 G.x.n, .int .i64 G.x.i, .string G.nm, .slice ag G.l.length pg] 38)) (w.heap.size + 1) zeroNums ⟨#[]⟩ (.slice none 0 0) ∧ Box (w2.alloc (.cells #[.int .i64 G.x.v, .int .i64 G.x.k, .int .i64 G.x.s, .int .i64 G.x.p, .int .i64 G.x.t, .int .i64 G.x.a, .int .i64 G.x.l, .int .i64 G.x.c, .int .i64 G.x.n, .int .i64 G.x.i, .string G.nm, .slice ag G.l.length pg] 38)) w2.heap.size G.x G.nm (.slice ag G.l.length pg) ∧ Bs (w2.alloc (.cells #[.int .i64 G.x.v, .int .i64 G.x.k, .int .i64 G.x.s, .int .i64 G.x.p, .int .i64 G.x.t, .int .i64 G.x.a, .int .i64 G.x.l, .int .i64 G.x.c, .int .i64 G.x.n, .int .i64 G.x.i, .string G.nm, .slice ag G.l.length pg] 38)) (.slice ag G.l.length pg) G.l ∧ (∀ g, g < w.heap.size + 2 → Off g (.slice ag G.l.length pg) G.l) ∧ Below w.heap.size w (w2.alloc (.cells #[.int .i64 G.x.v, .int .i64 G.x.k, .int .i64 G.x.s, .int .i64 G.x.p, .int .i64 G.x.t, .int .i64 G.x.a, .int .i64 G.x.l, .int .i64 G.x.c, .int .i64 G.x.n, .int .i64 G.x.i, .string G.nm, .slice ag G.l.length pg] 38))) := ⟨(hbx.kept b2).kept (up0 _ _), (hz.kept b2).kept (up0 _ _), heap_new _ _, hb2.alloc _, fun g hg => hf2 g (by have := hz.lt; omega), up (andThen B1 b2) _⟩
  clear c0 c1 c2 c3 c4 c5 c6 c7 c8 c9 c10 c11 hbx hz b2 hb2 hf2 B1 HGU
  go_upto_region 9 with fail
  have HK' := HK.out
  clear HK
  generalize w2.alloc (.cells #[.int .i64 G.x.v, .int .i64 G.x.k, .int .i64 G.x.s, .int .i64 G.x.p, .int .i64 G.x.t, .int .i64 G.x.a, .int .i64 G.x.l, .int .i64 G.x.c, .int .i64 G.x.n, .int .i64 G.x.i, .string G.nm, .slice ag G.l.length pg] 38) = W2 at HK' ⊢
  generalize w2.heap.size = g2 at HK' ⊢
  obtain ⟨hbx, hz, hq, hb2, hf2, B2⟩ := HK'
  have c0 := hbx.cells.1
  obtain ⟨q0, q1, q2, q3, q4, q5, q6, q7, q8, q9, q10, q11⟩ := hq.cells
  go_wp2_with fail
  refine (HUP2.out _ _ _ B2 hb2).mono ?_
  rintro e w3 ⟨au, pu, rfl, hb3, b3⟩
  have HK : Hid (Box (w3.alloc (.cells #[.int .i64 U.x.v, .int .i64 U.x.k, .int .i64 U.x.s, .int .i64 U.x.p, .int .i64 U.x.t, .int .i64 U.x.a, .int .i64 U.x.l, .int .i64 U.x.c, .int .i64 U.x.n, .int .i64 U.x.i, .string U.nm, .slice au U.l.length pu] 38)) w.heap.size r.x r.nm (.slice ao r.l.length cap) ∧ Box (w3.alloc (.cells #[.int .i64 U.x.v, .int .i64 U.x.k, .int .i64 U.x.s, .int .i64 U.x.p, .int .i64 U.x.t, .int .i64 U.x.a, .int .i64 U.x.l, .int .i64 U.x.c, .int .i64 U.x.n, .int .i64 U.x.i, .string U.nm, .slice au U.l.length pu] 38)) (w.heap.size + 1) zeroNums ⟨#[]⟩ (.slice none 0 0) ∧ Box (w3.alloc (.cells #[.int .i64 U.x.v, .int .i64 U.x.k, .int .i64 U.x.s, .int .i64 U.x.p, .int .i64 U.x.t, .int .i64 U.x.a, .int .i64 U.x.l, .int .i64 U.x.c, .int .i64 U.x.n, .int .i64 U.x.i, .string U.nm, .slice au U.l.length pu] 38)) g2 G.x G.nm (.slice ag G.l.length pg) ∧ Box (w3.alloc (.cells #[.int .i64 U.x.v, .int .i64 U.x.k, .int .i64 U.x.s, .int .i64 U.x.p, .int .i64 U.x.t, .int .i64 U.x.a, .int .i64 U.x.l, .int .i64 U.x.c, .int .i64 U.x.n, .int .i64 U.x.i, .string U.nm, .slice au U.l.length pu] 38)) w3.heap.size U.x U.nm (.slice au U.l.length pu) ∧ Bs (w3.alloc (.cells #[.int .i64 U.x.v, .int .i64 U.x.k, .int .i64 U.x.s, .int .i64 U.x.p, .int .i64 U.x.t, .int .i64 U.x.a, .int .i64 U.x.l, .int .i64 U.x.c, .int .i64 U.x.n, .int .i64 U.x.i, .string U.nm, .slice au U.l.length pu] 38)) (.slice ag G.l.length pg) G.l ∧ Bs (w3.alloc (.cells #[.int .i64 U.x.v, .int .i64 U.x.k, .int .i64 U.x.s, .int .i64 U.x.p, .int .i64 U.x.t, .int .i64 U.x.a, .int .i64 U.x.l, .int .i64 U.x.c, .int .i64 U.x.n, .int .i64 U.x.i, .string U.nm, .slice au U.l.length pu] 38)) (.slice au U.l.length pu) U.l ∧ (∀ g, g < w.heap.size + 2 → Off g (.slice ag G.l.length pg) G.l) ∧ Below w.heap.size w (w3.alloc (.cells #[.int .i64 U.x.v, .int .i64 U.x.k, .int .i64 U.x.s, .int .i64 U.x.p, .int .i64 U.x.t, .int .i64 U.x.a, .int .i64 U.x.l, .int .i64 U.x.c, .int .i64 U.x.n, .int .i64 U.x.i, .string U.nm, .slice au U.l.length pu] 38))) := ⟨(hbx.kept b3).kept (up0 _ _), (hz.kept b3).kept (up0 _ _), (hq.kept b3).kept (up0 _ _), heap_new _ _, (hb2.kept b3).alloc _, hb3.alloc _, hf2, up (andThen B2 b3) _⟩
  clear c0 q0 q1 q2 q3 q4 q5 q6 q7 q8 q9 q10 q11 hbx hz hq hb2 hf2 B2 b3 hb3 HUP2
  go_upto_region 10 with fail
  have HK' := HK.out
  clear HK
  generalize w3.alloc (.cells #[.int .i64 U.x.v, .int .i64 U.x.k, .int .i64 U.x.s, .int .i64 U.x.p, .int .i64 U.x.t, .int .i64 U.x.a, .int .i64 U.x.l, .int .i64 U.x.c, .int .i64 U.x.n, .int .i64 U.x.i, .string U.nm, .slice au U.l.length pu] 38) = W3 at HK' ⊢
  generalize w3.heap.size = g3 at HK' ⊢
  obtain ⟨hbx, hz, hq, hu, hb2, hb3, hof, hB⟩ := HK'
  have HSA : Calls Tryd.prog 30 #[.agg #[.int .i64 U.x.v, .int .i64 U.x.k, .int .i64 U.x.s, .int .i64 U.x.p, .int .i64 U.x.t, .int .i64 U.x.a, .int .i64 U.x.l, .int .i64 U.x.c, .int .i64 U.x.n, .int .i64 U.x.i, .string U.nm, .slice au U.l.length pu], .agg #[.int .i64 r.x.v, .int .i64 r.x.k, .int .i64 r.x.s, .int .i64 r.x.p, .int .i64 r.x.t, .int .i64 r.x.a, .int .i64 r.x.l, .int .i64 r.x.c, .int .i64 r.x.n, .int .i64 r.x.i, .string r.nm, .slice ao r.l.length cap]] W3 fun e w'' => e = .returned (.bool false) ∧ Below W3.heap.size W3 w'' := (refsame_any U.x r.x U.nm r.nm _ _ U.l r.l W3 hb3 (HB.out _ hB)).mono fun e w'' ⟨he, hk'⟩ => ⟨by rw [he, HEQ.out], hk'⟩
  obtain ⟨c0, c1, c2, c3, c4, c5, c6, c7, c8, c9, c10, c11⟩ := hbx.cells
  obtain ⟨y0, y1, y2, y3, y4, y5, y6, y7, y8, y9, y10, y11⟩ := hu.cells
  have HSB : Hid (Calls Tryd.prog 30 #[.agg #[.int .i64 U.x.v, .int .i64 U.x.k, .int .i64 U.x.s, .int .i64 U.x.p, .int .i64 U.x.t, .int .i64 U.x.a, .int .i64 U.x.l, .int .i64 U.x.c, .int .i64 U.x.n, .int .i64 U.x.i, .string U.nm, .slice au U.l.length pu], .agg #[.int .i64 r.x.v, .int .i64 r.x.k, .int .i64 r.x.s, .int .i64 r.x.p, .int .i64 r.x.t, .int .i64 r.x.a, .int .i64 r.x.l, .int .i64 r.x.c, .int .i64 r.x.n, .int .i64 r.x.i, .string r.nm, .slice ao r.l.length cap]] W3 fun e w'' => e = .returned (.bool false) ∧ Below W3.heap.size W3 w'') := HSA
  clear HSA hbx hu hb3 HB HEQ
  go_wp2_with fail
  refine HSB.out.mono ?_
  rintro e W ⟨rfl, b4⟩
  replace hz := hz.kept b4
  replace hq := hq.kept b4
  replace hb2 := hb2.kept b4
  replace hB := andThen hB b4
  clear b4 HSB c0 c1 c2 c3 c4 c5 c6 c7 c8 c9 c10 c11 y0 y1 y2 y3 y4 y5 y6 y7 y8 y9 y10 y11
  clear hq hb2 hof
  obtain ⟨z0, z1, z2, z3, z4, z5, z6, z7, z8, z9, z10, z11⟩ := hz.cells
  have f0 := hz.free' 0
  have f1 := hz.free' 1
  have f2 := hz.free' 2
  have f3 := hz.free' 3
  have f4 := hz.free' 4
  have f5 := hz.free' 5
  have f6 := hz.free' 6
  have f7 := hz.free' 7
  have f8 := hz.free' 8
  have f9 := hz.free' 9
  have f10 := hz.free' 10
  have f11 := hz.free' 11
  have HTH : Hid (W.there (w.heap.size + 1) 0 12) := hz.there
  have HBF : Hid (Below w.heap.size w (W.setCells (w.heap.size + 1) 0 [.int .i64 0, .int .i64 0, .int .i64 0, .int .i64 0, .int .i64 0, .int .i64 0, .int .i64 0, .int .i64 0, .int .i64 0, .int .i64 0, .string ⟨#[]⟩, .slice none 0 0])) := below_cells (by omega) _ 0 _ hB
  clear hz hB 
  go_wp2
  have HRG := World.rangeAt_setCells_same W (w.heap.size + 1) 0 [.int .i64 0, .int .i64 0, .int .i64 0, .int .i64 0, .int .i64 0, .int .i64 0, .int .i64 0, .int .i64 0, .int .i64 0, .int .i64 0, .string ⟨#[]⟩, .slice none 0 0] HTH.out
  refine bodyPost_ret (results_cell_slot (p := 4) (s := 5) (ty := 38) rfl _ _ (w.heap.size + 1) [.int .i64 0, .int .i64 0, .int .i64 0, .int .i64 0, .int .i64 0, .int .i64 0, .int .i64 0, .int .i64 0, .int .i64 0, .int .i64 0, .string ⟨#[]⟩, .slice none 0 0] _ rfl HRG Tryd.underlying38 rfl HIR.out) rfl ?_
  exact ⟨none, 0, rfl, Bs.nil _, fun g _ => off_nil g _, HBF.out⟩
set_option maxRecDepth 100000 in
set_option maxHeartbeats 1000000 in
theorem r4down_OK (to : Int) (r : Rec) (d : Value) (w : World) (h : Bs w d r.l) (hT : Tabs w) (hnm : r.nm.size ≤ 1048576) (hf : r.x.fit) (hc : chkR r = 0) (h1 : 1 ≤ to) (h3 : to ≤ 3) (hv : ¬ r.x.v < to) (he : (upP r.x.v (guessP to r)).1 = 0) (hq : eqR (upP r.x.v (guessP to r)).2 r = true) :
    Calls Tryd.prog 29 #[rv r.x r.nm d, .int .i64 to] w fun e w' => NewT w w' (downP to r) e := by
  have HE : Hid (downP to r = (0, guessP to r)) := by
    show _ = _
    rw [down_ref to r hc h1 h3 (by omega), if_neg (by simpa using he), if_pos hq]
  rw [HE.out]
  have HIR : Hid ((Tryd.prog.info? 38).map (·.size) = some 12) := infoRec
  have HX : Hid (∀ o1 o2, ((w.alloc o1).alloc o2).heap[w.heap.size]? = some o1 ∧ ((w.alloc o1).alloc o2).heap[w.heap.size + 1]? = some o2 ∧ Below w.heap.size w ((w.alloc o1).alloc o2)) := fun o1 o2 => heap2 w o1 o2
  have HRC : Hid (∀ w', Below w.heap.size w w' → Calls Tryd.prog 39 #[rv r.x r.nm d] w' fun e w'' => e = .returned (.int .i64 (chkR r)) ∧ Below w'.heap.size w' w'') := fun w' hb' => refcheck_any r.x r.nm d r.l w' (h.kept hb') (hT.kept hb').rlets (hT.kept hb').rows hf.c (by omega)
  rw [hc] at HRC
  have hs := small_of r hf hc
  have HGS : Hid ((guessP to r).small ∧ (guessP to r).x.fit) := by
    show _ ∧ _
    rw [guess_car to r hc h1 (by omega)]
    exact ⟨carL_small _ _ hs, carL_fit _ _ hf⟩
  have HGU : Hid (∀ w', Below w.heap.size w w' → Calls Tryd.prog 42 #[rv r.x r.nm d, .int .i64 to] w' fun e w'' => NewR w' w'' (guessP to r) e) := fun w' hb => guess_any to r d w' (h.kept hb) hs h1 h3 (by omega)
  have HUP : Hid (∀ w' ag (pg : Nat), Below w.heap.size w w' → Bs w' (.slice ag (guessP to r).l.length pg) (guessP to r).l → Calls Tryd.prog 27 #[rv (guessP to r).x (guessP to r).nm (.slice ag (guessP to r).l.length pg), .int .i64 r.x.v] w' fun e w'' => NewT w' w'' (upP r.x.v (guessP to r)) e) := fun w' ag pg hb hbs => r4up_any r.x.v (guessP to r) _ w' hbs (hT.kept hb) (by have := HGS.out.1.1; omega) HGS.out.2
  have HB : Hid (∀ w', Below w.heap.size w w' → Bs w' d r.l) := fun w' hb => h.kept hb
  obtain ⟨ao, cap, rfl, _⟩ := h.shape
  generalize guessP to r = G at *
  obtain ⟨ez, hez⟩ : ∃ z, (upP r.x.v G).1 = z := ⟨_, rfl⟩
  obtain ⟨U, hU⟩ : ∃ U, (upP r.x.v G).2 = U := ⟨_, rfl⟩
  have HUP2 : Hid (∀ w' ag (pg : Nat), Below w.heap.size w w' → Bs w' (.slice ag G.l.length pg) G.l → Calls Tryd.prog 27 #[rv G.x G.nm (.slice ag G.l.length pg), .int .i64 r.x.v] w' fun e w'' => ∃ au, ∃ pu : Nat, e = .returned (.tuple #[rv U.x U.nm (.slice au U.l.length pu), .int .i64 ez]) ∧ Bs w'' (.slice au U.l.length pu) U.l ∧ Below w'.heap.size w' w'') := fun w' ag pg hb hbs => (HUP.out w' ag pg hb hbs).mono fun e w'' ⟨au, pu, e1, e2, _, e4⟩ => by
    rw [hU] at e1 e2
    rw [hez] at e1
    exact ⟨au, pu, e1, e2, e4⟩
  rw [hez] at he
  subst he
  rw [hU] at hq
  have HEQ : Hid (recEq U.x r.x U.nm r.nm U.l r.l = true) := hq
  clear hq
  clear h hf hT hc HUP hU hez HGS hs HE
  unfold rv at *
  go_enter Tryd.func29, Tryd.ntmps29
  go_wp2_with fail
  refine (HRC.out _ (HX.out _ _).2.2).mono ?_
  rintro e w1 ⟨rfl, b1⟩
  have hbx : Box w1 w.heap.size r.x r.nm (.slice ao r.l.length cap) := Box.kept (HX.out _ _).1 b1
  have hz : Box w1 (w.heap.size + 1) zeroNums ⟨#[]⟩ (.slice none 0 0) := Box.kept (HX.out _ _).2.1 b1
  have B1 := andThen (HX.out _ _).2.2 b1
  clear b1 HX HRC
  obtain ⟨c0, c1, c2, c3, c4, c5, c6, c7, c8, c9, c10, c11⟩ := hbx.cells
  go_wp2_with fail
  refine (HGU.out _ B1).mono ?_
  rintro e w2 ⟨ag, pg, rfl, hb2, hf2, b2⟩
  unfold rv
  have HK : Hid (Box (w2.alloc (.cells #[.int .i64 G.x.v, .int .i64 G.x.k, .int .i64 G.x.s, .int .i64 G.x.p, .int .i64 G.x.t, .int .i64 G.x.a, .int .i64 G.x.l, .int .i64 G.x.c, .int .i64 G.x.n, .int .i64 G.x.i, .string G.nm, .slice ag G.l.length pg] 38)) w.heap.size r.x r.nm (.slice ao r.l.length cap) ∧ Box (w2.alloc (.cells #[.int .i64 G.x.v, .int .i64 G.x.k, .int .i64 G.x.s, .int .i64 G.x.p, .int .i64 G.x.t, .int .i64 G.x.a, .int .i64 G.x.l, .int .i64 G.x.c, .int .i64 G.x.n, .int .i64 G.x.i, .string G.nm, .slice ag G.l.length pg] 38)) (w.heap.size + 1) zeroNums ⟨#[]⟩ (.slice none 0 0) ∧ Box (w2.alloc (.cells #[.int .i64 G.x.v, .int .i64 G.x.k, .int .i64 G.x.s, .int .i64 G.x.p, .int .i64 G.x.t, .int .i64 G.x.a, .int .i64 G.x.l, .int .i64 G.x.c, .int .i64 G.x.n, .int .i64 G.x.i, .string G.nm, .slice ag G.l.length pg] 38)) w2.heap.size G.x G.nm (.slice ag G.l.length pg) ∧ Bs (w2.alloc (.cells #[.int .i64 G.x.v, .int .i64 G.x.k, .int .i64 G.x.s, .int .i64 G.x.p, .int .i64 G.x.t, .int .i64 G.x.a, .int .i64 G.x.l, .int .i64 G.x.c, .int .i64 G.x.n, .int .i64 G.x.i, .string G.nm, .slice ag G.l.length pg] 38)) (.slice ag G.l.length pg) G.l ∧ (∀ g, g < w.heap.size + 2 → Off g (.slice ag G.l.length pg) G.l) ∧ Below w.heap.size w (w2.alloc (.cells #[.int .i64 G.x.v, .int .i64 G.x.k, .int .i64 G.x.s, .int .i64 G.x.p, .int .i64 G.x.t, .int .i64 G.x.a, .int .i64 G.x.l, .int .i64 G.x.c, .int .i64 G.x.n, .int .i64 G.x.i, .string G.nm, .slice ag G.l.length pg] 38))) := ⟨(hbx.kept b2).kept (up0 _ _), (hz.kept b2).kept (up0 _ _), heap_new _ _, hb2.alloc _, fun g hg => hf2 g (by have := hz.lt; omega), up (andThen B1 b2) _⟩
  clear c0 c1 c2 c3 c4 c5 c6 c7 c8 c9 c10 c11 hbx hz b2 hb2 hf2 B1 HGU
  go_upto_region 9 with fail
  have HK' := HK.out
  clear HK
  generalize w2.alloc (.cells #[.int .i64 G.x.v, .int .i64 G.x.k, .int .i64 G.x.s, .int .i64 G.x.p, .int .i64 G.x.t, .int .i64 G.x.a, .int .i64 G.x.l, .int .i64 G.x.c, .int .i64 G.x.n, .int .i64 G.x.i, .string G.nm, .slice ag G.l.length pg] 38) = W2 at HK' ⊢
  generalize w2.heap.size = g2 at HK' ⊢
  obtain ⟨hbx, hz, hq, hb2, hf2, B2⟩ := HK'
  have c0 := hbx.cells.1
  obtain ⟨q0, q1, q2, q3, q4, q5, q6, q7, q8, q9, q10, q11⟩ := hq.cells
  go_wp2_with fail
  refine (HUP2.out _ _ _ B2 hb2).mono ?_
  rintro e w3 ⟨au, pu, rfl, hb3, b3⟩
  have HK : Hid (Box (w3.alloc (.cells #[.int .i64 U.x.v, .int .i64 U.x.k, .int .i64 U.x.s, .int .i64 U.x.p, .int .i64 U.x.t, .int .i64 U.x.a, .int .i64 U.x.l, .int .i64 U.x.c, .int .i64 U.x.n, .int .i64 U.x.i, .string U.nm, .slice au U.l.length pu] 38)) w.heap.size r.x r.nm (.slice ao r.l.length cap) ∧ Box (w3.alloc (.cells #[.int .i64 U.x.v, .int .i64 U.x.k, .int .i64 U.x.s, .int .i64 U.x.p, .int .i64 U.x.t, .int .i64 U.x.a, .int .i64 U.x.l, .int .i64 U.x.c, .int .i64 U.x.n, .int .i64 U.x.i, .string U.nm, .slice au U.l.length pu] 38)) (w.heap.size + 1) zeroNums ⟨#[]⟩ (.slice none 0 0) ∧ Box (w3.alloc (.cells #[.int .i64 U.x.v, .int .i64 U.x.k, .int .i64 U.x.s, .int .i64 U.x.p, .int .i64 U.x.t, .int .i64 U.x.a, .int .i64 U.x.l, .int .i64 U.x.c, .int .i64 U.x.n, .int .i64 U.x.i, .string U.nm, .slice au U.l.length pu] 38)) g2 G.x G.nm (.slice ag G.l.length pg) ∧ Box (w3.alloc (.cells #[.int .i64 U.x.v, .int .i64 U.x.k, .int .i64 U.x.s, .int .i64 U.x.p, .int .i64 U.x.t, .int .i64 U.x.a, .int .i64 U.x.l, .int .i64 U.x.c, .int .i64 U.x.n, .int .i64 U.x.i, .string U.nm, .slice au U.l.length pu] 38)) w3.heap.size U.x U.nm (.slice au U.l.length pu) ∧ Bs (w3.alloc (.cells #[.int .i64 U.x.v, .int .i64 U.x.k, .int .i64 U.x.s, .int .i64 U.x.p, .int .i64 U.x.t, .int .i64 U.x.a, .int .i64 U.x.l, .int .i64 U.x.c, .int .i64 U.x.n, .int .i64 U.x.i, .string U.nm, .slice au U.l.length pu] 38)) (.slice ag G.l.length pg) G.l ∧ Bs (w3.alloc (.cells #[.int .i64 U.x.v, .int .i64 U.x.k, .int .i64 U.x.s, .int .i64 U.x.p, .int .i64 U.x.t, .int .i64 U.x.a, .int .i64 U.x.l, .int .i64 U.x.c, .int .i64 U.x.n, .int .i64 U.x.i, .string U.nm, .slice au U.l.length pu] 38)) (.slice au U.l.length pu) U.l ∧ (∀ g, g < w.heap.size + 2 → Off g (.slice ag G.l.length pg) G.l) ∧ Below w.heap.size w (w3.alloc (.cells #[.int .i64 U.x.v, .int .i64 U.x.k, .int .i64 U.x.s, .int .i64 U.x.p, .int .i64 U.x.t, .int .i64 U.x.a, .int .i64 U.x.l, .int .i64 U.x.c, .int .i64 U.x.n, .int .i64 U.x.i, .string U.nm, .slice au U.l.length pu] 38))) := ⟨(hbx.kept b3).kept (up0 _ _), (hz.kept b3).kept (up0 _ _), (hq.kept b3).kept (up0 _ _), heap_new _ _, (hb2.kept b3).alloc _, hb3.alloc _, hf2, up (andThen B2 b3) _⟩
  clear c0 q0 q1 q2 q3 q4 q5 q6 q7 q8 q9 q10 q11 hbx hz hq hb2 hf2 B2 b3 hb3 HUP2
  go_upto_region 10 with fail
  have HK' := HK.out
  clear HK
  generalize w3.alloc (.cells #[.int .i64 U.x.v, .int .i64 U.x.k, .int .i64 U.x.s, .int .i64 U.x.p, .int .i64 U.x.t, .int .i64 U.x.a, .int .i64 U.x.l, .int .i64 U.x.c, .int .i64 U.x.n, .int .i64 U.x.i, .string U.nm, .slice au U.l.length pu] 38) = W3 at HK' ⊢
  generalize w3.heap.size = g3 at HK' ⊢
  obtain ⟨hbx, hz, hq, hu, hb2, hb3, hof, hB⟩ := HK'
  have HSA : Calls Tryd.prog 30 #[.agg #[.int .i64 U.x.v, .int .i64 U.x.k, .int .i64 U.x.s, .int .i64 U.x.p, .int .i64 U.x.t, .int .i64 U.x.a, .int .i64 U.x.l, .int .i64 U.x.c, .int .i64 U.x.n, .int .i64 U.x.i, .string U.nm, .slice au U.l.length pu], .agg #[.int .i64 r.x.v, .int .i64 r.x.k, .int .i64 r.x.s, .int .i64 r.x.p, .int .i64 r.x.t, .int .i64 r.x.a, .int .i64 r.x.l, .int .i64 r.x.c, .int .i64 r.x.n, .int .i64 r.x.i, .string r.nm, .slice ao r.l.length cap]] W3 fun e w'' => e = .returned (.bool true) ∧ Below W3.heap.size W3 w'' := (refsame_any U.x r.x U.nm r.nm _ _ U.l r.l W3 hb3 (HB.out _ hB)).mono fun e w'' ⟨he, hk'⟩ => ⟨by rw [he, HEQ.out], hk'⟩
  obtain ⟨c0, c1, c2, c3, c4, c5, c6, c7, c8, c9, c10, c11⟩ := hbx.cells
  obtain ⟨y0, y1, y2, y3, y4, y5, y6, y7, y8, y9, y10, y11⟩ := hu.cells
  have HSB : Hid (Calls Tryd.prog 30 #[.agg #[.int .i64 U.x.v, .int .i64 U.x.k, .int .i64 U.x.s, .int .i64 U.x.p, .int .i64 U.x.t, .int .i64 U.x.a, .int .i64 U.x.l, .int .i64 U.x.c, .int .i64 U.x.n, .int .i64 U.x.i, .string U.nm, .slice au U.l.length pu], .agg #[.int .i64 r.x.v, .int .i64 r.x.k, .int .i64 r.x.s, .int .i64 r.x.p, .int .i64 r.x.t, .int .i64 r.x.a, .int .i64 r.x.l, .int .i64 r.x.c, .int .i64 r.x.n, .int .i64 r.x.i, .string r.nm, .slice ao r.l.length cap]] W3 fun e w'' => e = .returned (.bool true) ∧ Below W3.heap.size W3 w'') := HSA
  clear HSA hbx hu hb3 HB HEQ
  go_wp2_with fail
  refine HSB.out.mono ?_
  rintro e W ⟨rfl, b4⟩
  replace hz := hz.kept b4
  replace hq := hq.kept b4
  replace hb2 := hb2.kept b4
  replace hB := andThen hB b4
  clear b4 HSB c0 c1 c2 c3 c4 c5 c6 c7 c8 c9 c10 c11 y0 y1 y2 y3 y4 y5 y6 y7 y8 y9 y10 y11
  have hbs := hb2
  clear hb2
  obtain ⟨c0, c1, c2, c3, c4, c5, c6, c7, c8, c9, c10, c11⟩ := hq.cells
  have q0 := hq.free' 0
  have q1 := hq.free' 1
  have q2 := hq.free' 2
  have q3 := hq.free' 3
  have q4 := hq.free' 4
  have q5 := hq.free' 5
  have q6 := hq.free' 6
  have q7 := hq.free' 7
  have q8 := hq.free' 8
  have q9 := hq.free' 9
  have q10 := hq.free' 10
  have q11 := hq.free' 11
  obtain ⟨z0, z1, z2, z3, z4, z5, z6, z7, z8, z9, z10, z11⟩ := hz.cells
  have f0 := hz.free' 0
  have f1 := hz.free' 1
  have f2 := hz.free' 2
  have f3 := hz.free' 3
  have f4 := hz.free' 4
  have f5 := hz.free' 5
  have f6 := hz.free' 6
  have f7 := hz.free' 7
  have f8 := hz.free' 8
  have f9 := hz.free' 9
  have f10 := hz.free' 10
  have f11 := hz.free' 11
  have HTH : Hid (W.there (w.heap.size + 1) 0 12) := hz.there
  have HF : Hid (Below w.heap.size w (W.setCells (w.heap.size + 1) 0 [.int .i64 G.x.v, .int .i64 G.x.k, .int .i64 G.x.s, .int .i64 G.x.p, .int .i64 G.x.t, .int .i64 G.x.a, .int .i64 G.x.l, .int .i64 G.x.c, .int .i64 G.x.n, .int .i64 G.x.i, .string G.nm, .slice ag G.l.length pg]) ∧ Bs (W.setCells (w.heap.size + 1) 0 [.int .i64 G.x.v, .int .i64 G.x.k, .int .i64 G.x.s, .int .i64 G.x.p, .int .i64 G.x.t, .int .i64 G.x.a, .int .i64 G.x.l, .int .i64 G.x.c, .int .i64 G.x.n, .int .i64 G.x.i, .string G.nm, .slice ag G.l.length pg]) (.slice ag G.l.length pg) G.l ∧ ∀ g, g < w.heap.size → Off g (.slice ag G.l.length pg) G.l) := ⟨below_cells (by omega) _ 0 _ hB, bs_off hbs _ _ _ (hof _ (by omega)), fun g hg => hof g (by omega)⟩
  clear hq hz hB hbs hof
  go_wp2
  have HRG := World.rangeAt_setCells_same W (w.heap.size + 1) 0 [.int .i64 G.x.v, .int .i64 G.x.k, .int .i64 G.x.s, .int .i64 G.x.p, .int .i64 G.x.t, .int .i64 G.x.a, .int .i64 G.x.l, .int .i64 G.x.c, .int .i64 G.x.n, .int .i64 G.x.i, .string G.nm, .slice ag G.l.length pg] HTH.out
  refine bodyPost_ret (results_cell_slot (p := 4) (s := 5) (ty := 38) rfl _ _ (w.heap.size + 1) [.int .i64 G.x.v, .int .i64 G.x.k, .int .i64 G.x.s, .int .i64 G.x.p, .int .i64 G.x.t, .int .i64 G.x.a, .int .i64 G.x.l, .int .i64 G.x.c, .int .i64 G.x.n, .int .i64 G.x.i, .string G.nm, .slice ag G.l.length pg] _ rfl HRG Tryd.underlying38 rfl HIR.out) rfl ?_
  exact ⟨_, _, rfl, HF.out.2.1, HF.out.2.2, HF.out.1⟩
theorem r4down_any (to : Int) (r : Rec) (d : Value) (w : World) (h : Bs w d r.l) (hT : Tabs w) (hnm : r.nm.size ≤ 1048576) (hf : r.x.fit) :
    Calls Tryd.prog 29 #[rv r.x r.nm d, .int .i64 to] w fun e w' => NewT w w' (downP to r) e := by
  by_cases hc : chkR r = 0
  · by_cases h1 : to < 1
    · exact r4down_e2a to r d w h hT hnm hf hc h1
    by_cases h3 : 3 < to
    · exact r4down_e2b to r d w h hT hnm hf hc h3
    by_cases hv : r.x.v < to
    · exact r4down_e3 to r d w h hT hnm hf hc (by omega) (by omega) hv
    by_cases he : (upP r.x.v (guessP to r)).1 = 0
    · cases hq : eqR (upP r.x.v (guessP to r)).2 r with
      | true => exact r4down_OK to r d w h hT hnm hf hc (by omega) (by omega) hv he hq
      | false => exact r4down_L2 to r d w h hT hnm hf hc (by omega) (by omega) hv he hq
    · exact r4down_L1 to r d w h hT hnm hf hc (by omega) (by omega) hv he
  · exact r4down_e1 to r d w h hT hnm hf hc
end Go.Proofs.YtjhgjlnckidjkaaDoor
