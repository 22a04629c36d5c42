import Derived.Test.YtjhgjlnckidjkaaDoorQO1
import Derived.Test.YtjhgjlnckidjkaaDoorQA1
import Derived.Test.YtjhgjlnckidjkaaDoorQE1
/-
  Up, Down, UpAll hand out memory of their own.
-/
namespace Go.Proofs.YtjhgjlnckidjkaaDoor
open Go Go.RowKit
open Wb

set_option maxRecDepth 100000 in
set_option maxHeartbeats 4000000 in
theorem up_e1O (to : Int) (r : Rec) (d : Value) (w : World) (h : Bs w d r.l) (hT : ETabs w) (hnm : r.nm.size ≤ 140737488355000) (hc : lckE to r ≠ 0) :
    Calls Tryd.prog 26 #[rv r.x r.nm d, .int .i64 to] w fun e w' => ∃ ao, ∃ cap : Nat, e = .returned (.tuple #[rv (upP to r).2.x (upP to r).2.nm (.slice ao (upP to r).2.l.length cap), .int .i64 (upP to r).1]) ∧ Own w.heap.size w' (.slice ao (upP to r).2.l.length cap) (upP to r).2.l ∧ Below w.heap.size w w' := by
  have HIR : Hid ((Tryd.prog.info? 38).map (·.size) = some 12) := infoRec
  have HX : Hid (∀ o1 o2, ((w.alloc o1).alloc o2).heap[w.heap.size]? = some o1 ∧ ((w.alloc o1).alloc o2).heap[w.heap.size + 1]? = some o2 ∧ Below w.heap.size w ((w.alloc o1).alloc o2)) := fun o1 o2 => heap2 w o1 o2
  have HCK : Hid (∀ w', Below w.heap.size w w' → Calls Tryd.prog 36 #[rv r.x r.nm d, .int .i64 to] w' fun e w'' => e = .returned (.int .i64 (lckE to r)) ∧ Below w'.heap.size w' w'') := fun w' hb' => lcheckE_any to r d w' (h.kept hb') (hT.kept hb').tabs hnm
  have HE : Hid (upP to r = (lckE to r, zRec)) := by show _ = _; unfold upP; rw [if_pos hc]
  have d1 : (lckE to r != 0) = true := by rw [bne_iff_ne]; exact hc
  rw [HE.out]
  obtain ⟨ao, cap, rfl, _⟩ := h.shape
  clear h hT hc HE
  generalize lckE to r = z at *
  simp only [zRec, zeroNums]
  unfold rv at *
  go_enter Tryd.func26, Tryd.ntmps26
  go_wp2_with fail
  refine (HCK.out _ (HX.out _ _).2.2).mono ?_
  rintro e w1 ⟨rfl, b1⟩
  have hbx : Box w1 w.heap.size r.x r.nm (.slice ao r.l.length cap) := Box.kept (HX.out _ _).1 b1
  have hz : Box w1 (w.heap.size + 1) zeroNums ⟨#[]⟩ (.slice none 0 0) := Box.kept (HX.out _ _).2.1 b1
  have B1 := andThen (HX.out _ _).2.2 b1
  clear b1 HX HCK
  obtain ⟨z0, z1, z2, z3, z4, z5, z6, z7, z8, z9, z10, z11⟩ := hz.cells
  have f0 := hz.free' 0
  have f1 := hz.free' 1
  have f2 := hz.free' 2
  have f3 := hz.free' 3
  have f4 := hz.free' 4
  have f5 := hz.free' 5
  have f6 := hz.free' 6
  have f7 := hz.free' 7
  have f8 := hz.free' 8
  have f9 := hz.free' 9
  have f10 := hz.free' 10
  have f11 := hz.free' 11
  have HTH : Hid (w1.there (w.heap.size + 1) 0 12) := hz.there
  have HBF : Hid (Below w.heap.size w (w1.setCells (w.heap.size + 1) 0 [.int .i64 0, .int .i64 0, .int .i64 0, .int .i64 0, .int .i64 0, .int .i64 0, .int .i64 0, .int .i64 0, .int .i64 0, .int .i64 0, .string ⟨#[]⟩, .slice none 0 0])) := below_cells (by omega) _ 0 _ B1
  clear hbx hz B1
  go_wp2
  have HRG := World.rangeAt_setCells_same w1 (w.heap.size + 1) 0 [.int .i64 0, .int .i64 0, .int .i64 0, .int .i64 0, .int .i64 0, .int .i64 0, .int .i64 0, .int .i64 0, .int .i64 0, .int .i64 0, .string ⟨#[]⟩, .slice none 0 0] HTH.out
  refine bodyPost_ret (results_cell_slot (p := 4) (s := 5) (ty := 38) rfl _ _ (w.heap.size + 1) [.int .i64 0, .int .i64 0, .int .i64 0, .int .i64 0, .int .i64 0, .int .i64 0, .int .i64 0, .int .i64 0, .int .i64 0, .int .i64 0, .string ⟨#[]⟩, .slice none 0 0] _ rfl HRG Tryd.underlying38 rfl HIR.out) rfl ?_
  exact ⟨none, 0, rfl, Own.nil _ _, HBF.out⟩
set_option maxRecDepth 100000 in
set_option maxHeartbeats 4000000 in
theorem up_e2O (to : Int) (r : Rec) (d : Value) (w : World) (h : Bs w d r.l) (hT : ETabs w) (hnm : r.nm.size ≤ 140737488355000) (hc : lckE to r = 0) (hv : to < r.x.v) :
    Calls Tryd.prog 26 #[rv r.x r.nm d, .int .i64 to] w fun e w' => ∃ ao, ∃ cap : Nat, e = .returned (.tuple #[rv (upP to r).2.x (upP to r).2.nm (.slice ao (upP to r).2.l.length cap), .int .i64 (upP to r).1]) ∧ Own w.heap.size w' (.slice ao (upP to r).2.l.length cap) (upP to r).2.l ∧ Below w.heap.size w w' := by
  have HIR : Hid ((Tryd.prog.info? 38).map (·.size) = some 12) := infoRec
  have HX : Hid (∀ o1 o2, ((w.alloc o1).alloc o2).heap[w.heap.size]? = some o1 ∧ ((w.alloc o1).alloc o2).heap[w.heap.size + 1]? = some o2 ∧ Below w.heap.size w ((w.alloc o1).alloc o2)) := fun o1 o2 => heap2 w o1 o2
  have HCK : Hid (∀ w', Below w.heap.size w w' → Calls Tryd.prog 36 #[rv r.x r.nm d, .int .i64 to] w' fun e w'' => e = .returned (.int .i64 (lckE to r)) ∧ Below w'.heap.size w' w'') := fun w' hb' => lcheckE_any to r d w' (h.kept hb') (hT.kept hb').tabs hnm
  have HE : Hid (upP to r = (41, zRec)) := by show _ = _; unfold upP; rw [if_neg (by simpa using hc), if_pos hv]
  rw [HE.out]
  rw [hc] at HCK
  obtain ⟨ao, cap, rfl, _⟩ := h.shape
  clear h hT hc HE
  simp only [zRec, zeroNums]
  unfold rv at *
  go_enter Tryd.func26, Tryd.ntmps26
  go_wp2_with fail
  refine (HCK.out _ (HX.out _ _).2.2).mono ?_
  rintro e w1 ⟨rfl, b1⟩
  have hbx : Box w1 w.heap.size r.x r.nm (.slice ao r.l.length cap) := Box.kept (HX.out _ _).1 b1
  have hz : Box w1 (w.heap.size + 1) zeroNums ⟨#[]⟩ (.slice none 0 0) := Box.kept (HX.out _ _).2.1 b1
  have B1 := andThen (HX.out _ _).2.2 b1
  clear b1 HX HCK
  have cv := hbx.cells.1
  obtain ⟨z0, z1, z2, z3, z4, z5, z6, z7, z8, z9, z10, z11⟩ := hz.cells
  have f0 := hz.free' 0
  have f1 := hz.free' 1
  have f2 := hz.free' 2
  have f3 := hz.free' 3
  have f4 := hz.free' 4
  have f5 := hz.free' 5
  have f6 := hz.free' 6
  have f7 := hz.free' 7
  have f8 := hz.free' 8
  have f9 := hz.free' 9
  have f10 := hz.free' 10
  have f11 := hz.free' 11
  have HTH : Hid (w1.there (w.heap.size + 1) 0 12) := hz.there
  have HBF : Hid (Below w.heap.size w (w1.setCells (w.heap.size + 1) 0 [.int .i64 0, .int .i64 0, .int .i64 0, .int .i64 0, .int .i64 0, .int .i64 0, .int .i64 0, .int .i64 0, .int .i64 0, .int .i64 0, .string ⟨#[]⟩, .slice none 0 0])) := below_cells (by omega) _ 0 _ B1
  clear hbx hz B1
  go_wp2
  have HRG := World.rangeAt_setCells_same w1 (w.heap.size + 1) 0 [.int .i64 0, .int .i64 0, .int .i64 0, .int .i64 0, .int .i64 0, .int .i64 0, .int .i64 0, .int .i64 0, .int .i64 0, .int .i64 0, .string ⟨#[]⟩, .slice none 0 0] HTH.out
  refine bodyPost_ret (results_cell_slot (p := 4) (s := 5) (ty := 38) rfl _ _ (w.heap.size + 1) [.int .i64 0, .int .i64 0, .int .i64 0, .int .i64 0, .int .i64 0, .int .i64 0, .int .i64 0, .int .i64 0, .int .i64 0, .int .i64 0, .string ⟨#[]⟩, .slice none 0 0] _ rfl HRG Tryd.underlying38 rfl HIR.out) rfl ?_
  exact ⟨none, 0, rfl, Own.nil _ _, HBF.out⟩
set_option maxRecDepth 100000 in
set_option maxHeartbeats 4000000 in
theorem down_e1O (to : Int) (r : Rec) (d : Value) (w : World) (h : Bs w d r.l) (hT : ETabs w) (hnm : r.nm.size ≤ 140737488355000) (hc : lckE to r ≠ 0) :
    Calls Tryd.prog 28 #[rv r.x r.nm d, .int .i64 to] w fun e w' => ∃ ao, ∃ cap : Nat, e = .returned (.tuple #[rv (downP to r).2.x (downP to r).2.nm (.slice ao (downP to r).2.l.length cap), .int .i64 (downP to r).1]) ∧ Own w.heap.size w' (.slice ao (downP to r).2.l.length cap) (downP to r).2.l ∧ Below w.heap.size w w' := by
  have HIR : Hid ((Tryd.prog.info? 38).map (·.size) = some 12) := infoRec
  have HX : Hid (∀ o1 o2, ((w.alloc o1).alloc o2).heap[w.heap.size]? = some o1 ∧ ((w.alloc o1).alloc o2).heap[w.heap.size + 1]? = some o2 ∧ Below w.heap.size w ((w.alloc o1).alloc o2)) := fun o1 o2 => heap2 w o1 o2
  have HCK : Hid (∀ w', Below w.heap.size w w' → Calls Tryd.prog 36 #[rv r.x r.nm d, .int .i64 to] w' fun e w'' => e = .returned (.int .i64 (lckE to r)) ∧ Below w'.heap.size w' w'') := fun w' hb' => lcheckE_any to r d w' (h.kept hb') (hT.kept hb').tabs hnm
  have HE : Hid (downP to r = (lckE to r, zRec)) := by show _ = _; unfold downP; rw [if_pos hc]
  have d1 : (lckE to r != 0) = true := by rw [bne_iff_ne]; exact hc
  rw [HE.out]
  obtain ⟨ao, cap, rfl, _⟩ := h.shape
  clear h hT hc HE
  generalize lckE to r = z at *
  simp only [zRec, zeroNums]
  unfold rv at *
  go_enter Tryd.func28, Tryd.ntmps28
  go_wp2_with fail
  refine (HCK.out _ (HX.out _ _).2.2).mono ?_
  rintro e w1 ⟨rfl, b1⟩
  have hbx : Box w1 w.heap.size r.x r.nm (.slice ao r.l.length cap) := Box.kept (HX.out _ _).1 b1
  have hz : Box w1 (w.heap.size + 1) zeroNums ⟨#[]⟩ (.slice none 0 0) := Box.kept (HX.out _ _).2.1 b1
  have B1 := andThen (HX.out _ _).2.2 b1
  clear b1 HX HCK
  obtain ⟨z0, z1, z2, z3, z4, z5, z6, z7, z8, z9, z10, z11⟩ := hz.cells
  have f0 := hz.free' 0
  have f1 := hz.free' 1
  have f2 := hz.free' 2
  have f3 := hz.free' 3
  have f4 := hz.free' 4
  have f5 := hz.free' 5
  have f6 := hz.free' 6
  have f7 := hz.free' 7
  have f8 := hz.free' 8
  have f9 := hz.free' 9
  have f10 := hz.free' 10
  have f11 := hz.free' 11
  have HTH : Hid (w1.there (w.heap.size + 1) 0 12) := hz.there
  have HBF : Hid (Below w.heap.size w (w1.setCells (w.heap.size + 1) 0 [.int .i64 0, .int .i64 0, .int .i64 0, .int .i64 0, .int .i64 0, .int .i64 0, .int .i64 0, .int .i64 0, .int .i64 0, .int .i64 0, .string ⟨#[]⟩, .slice none 0 0])) := below_cells (by omega) _ 0 _ B1
  clear hbx hz B1
  go_wp2
  have HRG := World.rangeAt_setCells_same w1 (w.heap.size + 1) 0 [.int .i64 0, .int .i64 0, .int .i64 0, .int .i64 0, .int .i64 0, .int .i64 0, .int .i64 0, .int .i64 0, .int .i64 0, .int .i64 0, .string ⟨#[]⟩, .slice none 0 0] HTH.out
  refine bodyPost_ret (results_cell_slot (p := 4) (s := 5) (ty := 38) rfl _ _ (w.heap.size + 1) [.int .i64 0, .int .i64 0, .int .i64 0, .int .i64 0, .int .i64 0, .int .i64 0, .int .i64 0, .int .i64 0, .int .i64 0, .int .i64 0, .string ⟨#[]⟩, .slice none 0 0] _ rfl HRG Tryd.underlying38 rfl HIR.out) rfl ?_
  exact ⟨none, 0, rfl, Own.nil _ _, HBF.out⟩
set_option maxRecDepth 100000 in
set_option maxHeartbeats 4000000 in
theorem down_e2O (to : Int) (r : Rec) (d : Value) (w : World) (h : Bs w d r.l) (hT : ETabs w) (hnm : r.nm.size ≤ 140737488355000) (hc : lckE to r = 0) (hv : r.x.v < to) :
    Calls Tryd.prog 28 #[rv r.x r.nm d, .int .i64 to] w fun e w' => ∃ ao, ∃ cap : Nat, e = .returned (.tuple #[rv (downP to r).2.x (downP to r).2.nm (.slice ao (downP to r).2.l.length cap), .int .i64 (downP to r).1]) ∧ Own w.heap.size w' (.slice ao (downP to r).2.l.length cap) (downP to r).2.l ∧ Below w.heap.size w w' := by
  have HIR : Hid ((Tryd.prog.info? 38).map (·.size) = some 12) := infoRec
  have HX : Hid (∀ o1 o2, ((w.alloc o1).alloc o2).heap[w.heap.size]? = some o1 ∧ ((w.alloc o1).alloc o2).heap[w.heap.size + 1]? = some o2 ∧ Below w.heap.size w ((w.alloc o1).alloc o2)) := fun o1 o2 => heap2 w o1 o2
  have HCK : Hid (∀ w', Below w.heap.size w w' → Calls Tryd.prog 36 #[rv r.x r.nm d, .int .i64 to] w' fun e w'' => e = .returned (.int .i64 (lckE to r)) ∧ Below w'.heap.size w' w'') := fun w' hb' => lcheckE_any to r d w' (h.kept hb') (hT.kept hb').tabs hnm
  have HE : Hid (downP to r = (41, zRec)) := by show _ = _; unfold downP; rw [if_neg (by simpa using hc), if_pos hv]
  rw [HE.out]
  rw [hc] at HCK
  obtain ⟨ao, cap, rfl, _⟩ := h.shape
  clear h hT hc HE
  simp only [zRec, zeroNums]
  unfold rv at *
  go_enter Tryd.func28, Tryd.ntmps28
  go_wp2_with fail
  refine (HCK.out _ (HX.out _ _).2.2).mono ?_
  rintro e w1 ⟨rfl, b1⟩
  have hbx : Box w1 w.heap.size r.x r.nm (.slice ao r.l.length cap) := Box.kept (HX.out _ _).1 b1
  have hz : Box w1 (w.heap.size + 1) zeroNums ⟨#[]⟩ (.slice none 0 0) := Box.kept (HX.out _ _).2.1 b1
  have B1 := andThen (HX.out _ _).2.2 b1
  clear b1 HX HCK
  have cv := hbx.cells.1
  obtain ⟨z0, z1, z2, z3, z4, z5, z6, z7, z8, z9, z10, z11⟩ := hz.cells
  have f0 := hz.free' 0
  have f1 := hz.free' 1
  have f2 := hz.free' 2
  have f3 := hz.free' 3
  have f4 := hz.free' 4
  have f5 := hz.free' 5
  have f6 := hz.free' 6
  have f7 := hz.free' 7
  have f8 := hz.free' 8
  have f9 := hz.free' 9
  have f10 := hz.free' 10
  have f11 := hz.free' 11
  have HTH : Hid (w1.there (w.heap.size + 1) 0 12) := hz.there
  have HBF : Hid (Below w.heap.size w (w1.setCells (w.heap.size + 1) 0 [.int .i64 0, .int .i64 0, .int .i64 0, .int .i64 0, .int .i64 0, .int .i64 0, .int .i64 0, .int .i64 0, .int .i64 0, .int .i64 0, .string ⟨#[]⟩, .slice none 0 0])) := below_cells (by omega) _ 0 _ B1
  clear hbx hz B1
  go_wp2
  have HRG := World.rangeAt_setCells_same w1 (w.heap.size + 1) 0 [.int .i64 0, .int .i64 0, .int .i64 0, .int .i64 0, .int .i64 0, .int .i64 0, .int .i64 0, .int .i64 0, .int .i64 0, .int .i64 0, .string ⟨#[]⟩, .slice none 0 0] HTH.out
  refine bodyPost_ret (results_cell_slot (p := 4) (s := 5) (ty := 38) rfl _ _ (w.heap.size + 1) [.int .i64 0, .int .i64 0, .int .i64 0, .int .i64 0, .int .i64 0, .int .i64 0, .int .i64 0, .int .i64 0, .int .i64 0, .int .i64 0, .string ⟨#[]⟩, .slice none 0 0] _ rfl HRG Tryd.underlying38 rfl HIR.out) rfl ?_
  exact ⟨none, 0, rfl, Own.nil _ _, HBF.out⟩
set_option maxRecDepth 100000 in
set_option maxHeartbeats 4000000 in
theorem down_lossO (to : Int) (r : Rec) (d : Value) (w : World) (h : Bs w d r.l) (hT : ETabs w) (hnm : r.nm.size ≤ 140737488355000) (hs : r.small) (hc : lckE to r = 0) (hv : ¬ r.x.v < to) (he : eqR (carP r.x.v (carP to r)) r = false) :
    Calls Tryd.prog 28 #[rv r.x r.nm d, .int .i64 to] w fun e w' => ∃ ao, ∃ cap : Nat, e = .returned (.tuple #[rv (downP to r).2.x (downP to r).2.nm (.slice ao (downP to r).2.l.length cap), .int .i64 (downP to r).1]) ∧ Own w.heap.size w' (.slice ao (downP to r).2.l.length cap) (downP to r).2.l ∧ Below w.heap.size w w' := by
  have HIR : Hid ((Tryd.prog.info? 38).map (·.size) = some 12) := infoRec
  have HX : Hid (∀ o1 o2, ((w.alloc o1).alloc o2).heap[w.heap.size]? = some o1 ∧ ((w.alloc o1).alloc o2).heap[w.heap.size + 1]? = some o2 ∧ Below w.heap.size w ((w.alloc o1).alloc o2)) := fun o1 o2 => heap2 w o1 o2
  have HCK : Hid (∀ w', Below w.heap.size w w' → Calls Tryd.prog 36 #[rv r.x r.nm d, .int .i64 to] w' fun e w'' => e = .returned (.int .i64 (lckE to r)) ∧ Below w'.heap.size w' w'') := fun w' hb' => lcheckE_any to r d w' (h.kept hb') (hT.kept hb').tabs hnm
  have HE : Hid (downP to r = (40, zRec)) := by show _ = _; unfold downP; rw [if_neg (by simpa using hc), if_neg hv, he]; rfl
  rw [HE.out]
  rw [hc] at HCK
  have HCA : Hid (∀ w', Below w.heap.size w w' → Calls Tryd.prog 38 #[rv r.x r.nm d, .int .i64 to] w' fun e w'' => ∃ ao, ∃ cap : Nat, e = .returned (rv (carP to r).x (carP to r).nm (.slice ao (carP to r).l.length cap)) ∧ Bs w'' (.slice ao (carP to r).l.length cap) (carP to r).l ∧ Below w'.heap.size w' w'') := fun w' hb' => carry_any to r d w' (h.kept hb') hs (hT.kept hb').ways
  have HSM : Hid (carP to r).small := carL_small _ _ hs
  have HCB : Hid (∀ w' ao' (cap' : Nat), Below w.heap.size w w' → Bs w' (.slice ao' (carP to r).l.length cap') (carP to r).l → Calls Tryd.prog 38 #[rv (carP to r).x (carP to r).nm (.slice ao' (carP to r).l.length cap'), .int .i64 r.x.v] w' fun e w'' => ∃ ao, ∃ cap : Nat, e = .returned (rv (carP r.x.v (carP to r)).x (carP r.x.v (carP to r)).nm (.slice ao (carP r.x.v (carP to r)).l.length cap)) ∧ Bs w'' (.slice ao (carP r.x.v (carP to r)).l.length cap) (carP r.x.v (carP to r)).l ∧ Below w'.heap.size w' w'') := fun w' ao' cap' hb' hbs => carry_any r.x.v (carP to r) _ w' hbs HSM.out (hT.kept hb').ways
  have HB : Hid (∀ w', Below w.heap.size w w' → Bs w' d r.l) := fun w' hb' => h.kept hb'
  obtain ⟨ao, cap, rfl, _⟩ := h.shape
  clear h hT hc HE
  have HEQ : Hid (eqR (carP r.x.v (carP to r)) r = false) := he
  clear he
  generalize carP r.x.v (carP to r) = U at *
  generalize carP to r = Q at *
  have HSA : Hid (∀ w' ao' (cap' : Nat), Bs w' (.slice ao' U.l.length cap') U.l → Bs w' (.slice ao r.l.length cap) r.l → Calls Tryd.prog 41 #[rv U.x U.nm (.slice ao' U.l.length cap'), rv r.x r.nm (.slice ao r.l.length cap)] w' fun e w'' => e = .returned (.bool false) ∧ Below w'.heap.size w' w'') := fun w' ao' cap' a b => (rsame_any U.x r.x U.nm r.nm _ _ U.l r.l w' a b).mono fun e w'' ⟨he, hk⟩ => ⟨by rw [he]; have := HEQ.out; unfold eqR at this; rw [this], hk⟩
  simp only [zRec, zeroNums]
  unfold rv at *
  go_enter Tryd.func28, Tryd.ntmps28
  go_wp2_with fail
  refine (HCK.out _ (HX.out _ _).2.2).mono ?_
  rintro e w1 ⟨rfl, b1⟩
  have hbx : Box w1 w.heap.size r.x r.nm (.slice ao r.l.length cap) := Box.kept (HX.out _ _).1 b1
  have hz : Box w1 (w.heap.size + 1) zeroNums ⟨#[]⟩ (.slice none 0 0) := Box.kept (HX.out _ _).2.1 b1
  have B1 := andThen (HX.out _ _).2.2 b1
  clear b1 HX HCK
  obtain ⟨c0, c1, c2, c3, c4, c5, c6, c7, c8, c9, c10, c11⟩ := hbx.cells
  go_wp2_with fail
  refine (HCA.out _ B1).mono ?_
  rintro e w2 ⟨ao2, cap2, rfl, hb2, b2⟩
  have HK : Hid (Box (w2.alloc (.cells #[.int .i64 Q.x.v, .int .i64 Q.x.k, .int .i64 Q.x.s, .int .i64 Q.x.p, .int .i64 Q.x.t, .int .i64 Q.x.a, .int .i64 Q.x.l, .int .i64 Q.x.c, .int .i64 Q.x.n, .int .i64 Q.x.i, .string Q.nm, .slice ao2 Q.l.length cap2] 38)) w.heap.size r.x r.nm (.slice ao r.l.length cap) ∧ Box (w2.alloc (.cells #[.int .i64 Q.x.v, .int .i64 Q.x.k, .int .i64 Q.x.s, .int .i64 Q.x.p, .int .i64 Q.x.t, .int .i64 Q.x.a, .int .i64 Q.x.l, .int .i64 Q.x.c, .int .i64 Q.x.n, .int .i64 Q.x.i, .string Q.nm, .slice ao2 Q.l.length cap2] 38)) (w.heap.size + 1) zeroNums ⟨#[]⟩ (.slice none 0 0) ∧ Box (w2.alloc (.cells #[.int .i64 Q.x.v, .int .i64 Q.x.k, .int .i64 Q.x.s, .int .i64 Q.x.p, .int .i64 Q.x.t, .int .i64 Q.x.a, .int .i64 Q.x.l, .int .i64 Q.x.c, .int .i64 Q.x.n, .int .i64 Q.x.i, .string Q.nm, .slice ao2 Q.l.length cap2] 38)) w2.heap.size Q.x Q.nm (.slice ao2 Q.l.length cap2) ∧ Bs (w2.alloc (.cells #[.int .i64 Q.x.v, .int .i64 Q.x.k, .int .i64 Q.x.s, .int .i64 Q.x.p, .int .i64 Q.x.t, .int .i64 Q.x.a, .int .i64 Q.x.l, .int .i64 Q.x.c, .int .i64 Q.x.n, .int .i64 Q.x.i, .string Q.nm, .slice ao2 Q.l.length cap2] 38)) (.slice ao2 Q.l.length cap2) Q.l ∧ Below w.heap.size w (w2.alloc (.cells #[.int .i64 Q.x.v, .int .i64 Q.x.k, .int .i64 Q.x.s, .int .i64 Q.x.p, .int .i64 Q.x.t, .int .i64 Q.x.a, .int .i64 Q.x.l, .int .i64 Q.x.c, .int .i64 Q.x.n, .int .i64 Q.x.i, .string Q.nm, .slice ao2 Q.l.length cap2] 38))) := ⟨(hbx.kept b2).kept (up0 _ _), (hz.kept b2).kept (up0 _ _), Array.getElem?_push_size, hb2.alloc _, up (andThen B1 b2) _⟩
  clear c0 c1 c2 c3 c4 c5 c6 c7 c8 c9 c10 c11 hbx hz b2 hb2 B1 HCA
  go_wp2
  have HK' := HK.out
  clear HK
  generalize w2.alloc (.cells #[.int .i64 Q.x.v, .int .i64 Q.x.k, .int .i64 Q.x.s, .int .i64 Q.x.p, .int .i64 Q.x.t, .int .i64 Q.x.a, .int .i64 Q.x.l, .int .i64 Q.x.c, .int .i64 Q.x.n, .int .i64 Q.x.i, .string Q.nm, .slice ao2 Q.l.length cap2] 38) = W at HK' ⊢
  generalize w2.heap.size = g2 at HK' ⊢
  obtain ⟨hx1, hz2, hx2, hbq, BW⟩ := HK'
  have HBX : Hid (∀ w', Below W.heap.size W w' → Box w' w.heap.size r.x r.nm (.slice ao r.l.length cap) ∧ Box w' g2 Q.x Q.nm (.slice ao2 Q.l.length cap2) ∧ Box w' (w.heap.size + 1) zeroNums ⟨#[]⟩ (.slice none 0 0) ∧ Bs w' (.slice ao2 Q.l.length cap2) Q.l ∧ Bs w' (.slice ao r.l.length cap) r.l ∧ Below w.heap.size w w') := fun w' hb => ⟨hx1.kept hb, hx2.kept hb, hz2.kept hb, hbq.kept hb, HB.out _ (andThen BW hb), andThen BW hb⟩
  have HG1 : Hid (∀ w', Below W.heap.size W w' → Calls Tryd.prog 38 #[.agg #[.int .i64 Q.x.v, .int .i64 Q.x.k, .int .i64 Q.x.s, .int .i64 Q.x.p, .int .i64 Q.x.t, .int .i64 Q.x.a, .int .i64 Q.x.l, .int .i64 Q.x.c, .int .i64 Q.x.n, .int .i64 Q.x.i, .string Q.nm, .slice ao2 Q.l.length cap2], .int .i64 r.x.v] w' fun e w'' => ∃ ao, ∃ cap : Nat, e = .returned (.agg #[.int .i64 U.x.v, .int .i64 U.x.k, .int .i64 U.x.s, .int .i64 U.x.p, .int .i64 U.x.t, .int .i64 U.x.a, .int .i64 U.x.l, .int .i64 U.x.c, .int .i64 U.x.n, .int .i64 U.x.i, .string U.nm, .slice ao U.l.length cap]) ∧ Bs w'' (.slice ao U.l.length cap) U.l ∧ Below W.heap.size W w'') := fun w' hb => (HCB.out w' _ _ (andThen BW hb) (hbq.kept hb)).mono fun e w'' ⟨ao, cap, he, hbs, hk⟩ => ⟨ao, cap, he, hbs, andThen hb hk⟩
  have HG2 : Hid (∀ w' ao' (cap' : Nat), Below W.heap.size W w' → Bs w' (.slice ao' U.l.length cap') U.l → Calls Tryd.prog 41 #[.agg #[.int .i64 U.x.v, .int .i64 U.x.k, .int .i64 U.x.s, .int .i64 U.x.p, .int .i64 U.x.t, .int .i64 U.x.a, .int .i64 U.x.l, .int .i64 U.x.c, .int .i64 U.x.n, .int .i64 U.x.i, .string U.nm, .slice ao' U.l.length cap'], .agg #[.int .i64 r.x.v, .int .i64 r.x.k, .int .i64 r.x.s, .int .i64 r.x.p, .int .i64 r.x.t, .int .i64 r.x.a, .int .i64 r.x.l, .int .i64 r.x.c, .int .i64 r.x.n, .int .i64 r.x.i, .string r.nm, .slice ao r.l.length cap]] w' fun e w'' => e = .returned (.bool false) ∧ Below W.heap.size W w'') := fun w' ao' cap' hb hbs => (HSA.out w' _ _ hbs (HB.out _ (andThen BW hb))).mono fun e w'' ⟨he, hk⟩ => ⟨he, andThen hb hk⟩
  clear hx1 hz2 hx2 hbq BW HCB HSA HB
  go_region_held (fun w' => (w'.cell? ⟨w.heap.size, 0, none⟩ = some (.int .i64 r.x.v) ∧ w'.cell? ⟨w.heap.size, 1, none⟩ = some (.int .i64 r.x.k) ∧ w'.cell? ⟨w.heap.size, 2, none⟩ = some (.int .i64 r.x.s) ∧ w'.cell? ⟨w.heap.size, 3, none⟩ = some (.int .i64 r.x.p) ∧ w'.cell? ⟨w.heap.size, 4, none⟩ = some (.int .i64 r.x.t) ∧ w'.cell? ⟨w.heap.size, 5, none⟩ = some (.int .i64 r.x.a) ∧ w'.cell? ⟨w.heap.size, 6, none⟩ = some (.int .i64 r.x.l) ∧ w'.cell? ⟨w.heap.size, 7, none⟩ = some (.int .i64 r.x.c) ∧ w'.cell? ⟨w.heap.size, 8, none⟩ = some (.int .i64 r.x.n) ∧ w'.cell? ⟨w.heap.size, 9, none⟩ = some (.int .i64 r.x.i) ∧ w'.cell? ⟨w.heap.size, 10, none⟩ = some (.string r.nm) ∧ w'.cell? ⟨w.heap.size, 11, none⟩ = some (.slice ao r.l.length cap)) ∧ (w'.cell? ⟨g2, 0, none⟩ = some (.int .i64 Q.x.v) ∧ w'.cell? ⟨g2, 1, none⟩ = some (.int .i64 Q.x.k) ∧ w'.cell? ⟨g2, 2, none⟩ = some (.int .i64 Q.x.s) ∧ w'.cell? ⟨g2, 3, none⟩ = some (.int .i64 Q.x.p) ∧ w'.cell? ⟨g2, 4, none⟩ = some (.int .i64 Q.x.t) ∧ w'.cell? ⟨g2, 5, none⟩ = some (.int .i64 Q.x.a) ∧ w'.cell? ⟨g2, 6, none⟩ = some (.int .i64 Q.x.l) ∧ w'.cell? ⟨g2, 7, none⟩ = some (.int .i64 Q.x.c) ∧ w'.cell? ⟨g2, 8, none⟩ = some (.int .i64 Q.x.n) ∧ w'.cell? ⟨g2, 9, none⟩ = some (.int .i64 Q.x.i) ∧ w'.cell? ⟨g2, 10, none⟩ = some (.string Q.nm) ∧ w'.cell? ⟨g2, 11, none⟩ = some (.slice ao2 Q.l.length cap2)) ∧ Below W.heap.size W w') (exact ⟨(HBX.out _ (by repeat (first | assumption | exact Below.refl _ _ | refine Below.drew ?_))).1.cells, (HBX.out _ (by repeat (first | assumption | exact Below.refl _ _ | refine Below.drew ?_))).2.1.cells, by repeat (first | assumption | exact Below.refl _ _ | refine Below.drew ?_)⟩) (first
    | (go_at_call 38; refine (HG1.out _ (by first | assumption | exact Below.drew (Below.refl _ _))).mono ?_; rintro e w5 ⟨ao5, cap5, rfl, hb5, hk5⟩)
    | (go_at_call 41; refine (HG2.out _ _ _ hk5 hb5).mono ?_; rintro e w6 ⟨rfl, hk6⟩))
  clear hb5 hk5
  have hk : Below W.heap.size W w6 := hk6
  have hz := (HBX.out _ hk).2.2.1
  have B6 := (HBX.out _ hk).2.2.2.2.2
  obtain ⟨z0, z1, z2, z3, z4, z5, z6, z7, z8, z9, z10, z11⟩ := hz.cells
  have f0 := hz.free' 0
  have f1 := hz.free' 1
  have f2 := hz.free' 2
  have f3 := hz.free' 3
  have f4 := hz.free' 4
  have f5 := hz.free' 5
  have f6 := hz.free' 6
  have f7 := hz.free' 7
  have f8 := hz.free' 8
  have f9 := hz.free' 9
  have f10 := hz.free' 10
  have f11 := hz.free' 11
  have HTH : Hid (w6.there (w.heap.size + 1) 0 12) := hz.there
  have HBF : Hid (Below w.heap.size w (w6.setCells (w.heap.size + 1) 0 [.int .i64 0, .int .i64 0, .int .i64 0, .int .i64 0, .int .i64 0, .int .i64 0, .int .i64 0, .int .i64 0, .int .i64 0, .int .i64 0, .string ⟨#[]⟩, .slice none 0 0])) := below_cells (by omega) _ 0 _ B6
  clear hz B6 hk hk6 HBX HG1 HG2
  go_wp2
  have HRG := World.rangeAt_setCells_same w6 (w.heap.size + 1) 0 [.int .i64 0, .int .i64 0, .int .i64 0, .int .i64 0, .int .i64 0, .int .i64 0, .int .i64 0, .int .i64 0, .int .i64 0, .int .i64 0, .string ⟨#[]⟩, .slice none 0 0] HTH.out
  refine bodyPost_ret (results_cell_slot (p := 4) (s := 5) (ty := 38) rfl _ _ (w.heap.size + 1) [.int .i64 0, .int .i64 0, .int .i64 0, .int .i64 0, .int .i64 0, .int .i64 0, .int .i64 0, .int .i64 0, .int .i64 0, .int .i64 0, .string ⟨#[]⟩, .slice none 0 0] _ rfl HRG Tryd.underlying38 rfl HIR.out) rfl ?_
  exact ⟨none, 0, rfl, Own.nil _ _, HBF.out⟩
theorem up_O (to : Int) (r : Rec) (d : Value) (w : World) (h : Bs w d r.l) (hT : ETabs w) (hnm : r.nm.size ≤ 140737488355000) (hf : r.x.fit) :
    Calls Tryd.prog 26 #[rv r.x r.nm d, .int .i64 to] w fun e w' => OwnT w w' (upP to r) e := by
  by_cases hc : lckE to r = 0
  · by_cases hv : to < r.x.v
    · exact up_e2O to r d w h hT hnm hc hv
    · exact (up_okO to r d w h hT hnm (small_of r hf (chk_of_lck hc)) hc hv).mono fun e w' ⟨a, c, e1, _, e3, e4⟩ => ⟨a, c, e1, e3, e4⟩
  · exact up_e1O to r d w h hT hnm hc
theorem down_O (to : Int) (r : Rec) (d : Value) (w : World) (h : Bs w d r.l) (hT : ETabs w) (hnm : r.nm.size ≤ 140737488355000) (hf : r.x.fit) :
    Calls Tryd.prog 28 #[rv r.x r.nm d, .int .i64 to] w fun e w' => OwnT w w' (downP to r) e := by
  by_cases hc : lckE to r = 0
  · by_cases hv : r.x.v < to
    · exact down_e2O to r d w h hT hnm hc hv
    · cases he : eqR (carP r.x.v (carP to r)) r with
      | true => exact (down_okO to r d w h hT hnm (small_of r hf (chk_of_lck hc)) hc hv he).mono fun e w' ⟨a, c, e1, _, e3, e4⟩ => ⟨a, c, e1, e3, e4⟩
      | false => exact down_lossO to r d w h hT hnm (small_of r hf (chk_of_lck hc)) hc hv he
  · exact down_e1O to r d w h hT hnm hc
/-- what UpAll answers: all in rows of their own -/
def UaPostO (to : Int) (rs : List Rec) (w : World) (e : Ending) (w' : World) : Prop := Below w.heap.size w w' ∧
  ((∃ ps v', (∀ r ∈ rs, (upP to r).1 = 0) ∧ e = .returned (.tuple #[v', .int .i64 0, .int .i64 0]) ∧ Rws w.heap.size w' v' ps ∧ ps.map Prod.fst = rs.map fun r => (upP to r).2) ∨
   ∃ k r, rs[k]? = some r ∧ (∀ q ∈ rs.take k, (upP to q).1 = 0) ∧ (upP to r).1 ≠ 0 ∧ e = .returned (.tuple #[.slice none 0 0, .int .i64 (k : Int), .int .i64 (upP to r).1]))
set_option maxRecDepth 100000 in
set_option maxHeartbeats 4000000 in
theorem upall_O (to : Int) (hto : 1 ≤ to ∧ to ≤ 3) (v : Value) (rs : List Rec) (w : World) (h : RecsAt w v rs) (hg : OGood rs) (hT : ETabs w) :
    Calls Tryd.prog 9 #[.int .i64 to, v] w fun e w' => UaPostO to rs w e w' := by
  have hin := infoR12
  have HIR : Hid ((Tryd.prog.info? 38).map (·.size) = some 12) := infoRec
  have HT : Hid (∀ w', Below w.heap.size w w' → ETabs w') := fun w' hb => hT.kept hb
  have HGE : Hid (∀ r ∈ rs, r.nm.size ≤ 140737488355000 ∧ r.x.fit) := fun r hr => ⟨(hg.each r hr).1, (hg.each r hr).2.1⟩
  have hfew := hg.few
  have HRS : Hid (∀ w', Below w.heap.size w w' → RecsAt w' v rs) := fun w' hb => h.kept hb
  obtain ⟨ao, cap, rfl, hm, _⟩ := h
  unfold maxLen at hm
  have dv : (decide (1 ≤ to) && decide (to ≤ 3)) = true := by simp [hto.1, hto.2]
  clear hT hg hto
  go_enter Tryd.func9, Tryd.ntmps9
  go_wp2_with fail
  refine (Lft.isV_any to _).mono ?_
  rintro e w0 ⟨rfl, rfl⟩
  rw [dv]
  clear dv
  go_wp2
  go_loopw [7, 17] (fun o i wr => ∃ (k : Nat) (ps : List (Rec × Value)), k ≤ rs.length ∧ i = .int .i64 (k : Int) ∧ (∀ q ∈ rs.take k, (upP to q).1 = 0) ∧ Rws w0.heap.size wr o ps ∧ (ps.map Prod.fst = (rs.take k).map fun r => (upP to r).2) ∧ Below w0.heap.size w0 wr) (fun _ i _ => rs.length - (intOf i).toNat)
  case atStart => exact ⟨0, [], Nat.zero_le _, rfl, (fun q hq => by simp at hq), Rws.nil _ _, rfl, Below.refl _ _⟩
  case round =>
    obtain ⟨k, ps, hk, rfl, hgood, hown, hmap, hbel⟩ := hrel
    by_cases hlt : k < rs.length
    · obtain ⟨r, hr⟩ : ∃ r, rs[k]? = some r := ⟨rs[k], List.getElem?_eq_getElem hlt⟩
      obtain ⟨ao', cap', e', _, hcr⟩ := HRS.out _ hbel
      simp only [Value.slice.injEq] at e'
      obtain ⟨rfl, _, rfl⟩ := e'
      obtain ⟨b, off, d, rfl, hrg, hbs⟩ := hcr k r hr
      have hrm : r ∈ rs := List.mem_of_getElem? hr
      have hnf := HGE.out r hrm
      have HTK : Hid (rs.take (k + 1) = rs.take k ++ [r]) := by show _ = _; rw [List.take_add_one, hr]; rfl
      have HGD : Hid (∀ q ∈ rs.take k, (upP to q).1 = 0) := hgood
      have HMP : Hid (ps.map Prod.fst = (rs.take k).map fun r => (upP to r).2) := hmap
      have hpl : ps.length = k := by
        have := congrArg List.length hmap
        simpa [Nat.min_eq_left hk] using this
      have HRR : Hid (rs[k]? = some r) := hr
      clear hcr hrm hgood hmap hr
      have HUP : Hid (∀ w', Below w0.heap.size w0 w' → Bs w' d r.l → (upP to r).1 = 0 → Calls Tryd.prog 26 #[rv r.x r.nm d, .int .i64 to] w' fun e w'' => ∃ ao, ∃ cap : Nat, e = .returned (.tuple #[rv (upP to r).2.x (upP to r).2.nm (.slice ao (upP to r).2.l.length cap), .int .i64 0]) ∧ Bs w'' (.slice ao (upP to r).2.l.length cap) (upP to r).2.l ∧ Own w'.heap.size w'' (.slice ao (upP to r).2.l.length cap) (upP to r).2.l ∧ Below w'.heap.size w' w'') := fun w' hb hbs' h0 => (up_O to r d w' hbs' (HT.out _ hb) hnf.1 hnf.2).mono fun e w'' ⟨a5, c5, e1, e2, e3⟩ => ⟨a5, c5, by rw [h0] at e1; exact e1, e2.bs, e2, e3⟩
      have HUB : Hid (∀ w', Below w0.heap.size w0 w' → Bs w' d r.l → Calls Tryd.prog 26 #[rv r.x r.nm d, .int .i64 to] w' fun e w'' => ∃ ao, ∃ cap : Nat, e = .returned (.tuple #[rv (upP to r).2.x (upP to r).2.nm (.slice ao (upP to r).2.l.length cap), .int .i64 (upP to r).1]) ∧ Bs w'' (.slice ao (upP to r).2.l.length cap) (upP to r).2.l ∧ Below w'.heap.size w' w'') := fun w' hb hbs' => (up_O to r d w' hbs' (HT.out _ hb) hnf.1 hnf.2).mono fun _ _ ⟨a9, c9, e1, o1, b1⟩ => ⟨a9, c9, e1, o1.bs, b1⟩
      obtain ⟨ar, cr, rfl, _⟩ := hbs.shape
      have HR0 : Hid (wr.rangeAt b (off + k * 12) [.int .i64 r.x.v, .int .i64 r.x.k, .int .i64 r.x.s, .int .i64 r.x.p, .int .i64 r.x.t, .int .i64 r.x.a, .int .i64 r.x.l, .int .i64 r.x.c, .int .i64 r.x.n, .int .i64 r.x.i, .string r.nm, .slice ar r.l.length cr]) := hrg
      have HR1 : Hid ((wr.alloc (.cells #[.int .i64 r.x.v, .int .i64 r.x.k, .int .i64 r.x.s, .int .i64 r.x.p, .int .i64 r.x.t, .int .i64 r.x.a, .int .i64 r.x.l, .int .i64 r.x.c, .int .i64 r.x.n, .int .i64 r.x.i, .string r.nm, .slice ar r.l.length cr] 38)).rangeAt wr.heap.size 0 [.int .i64 r.x.v, .int .i64 r.x.k, .int .i64 r.x.s, .int .i64 r.x.p, .int .i64 r.x.t, .int .i64 r.x.a, .int .i64 r.x.l, .int .i64 r.x.c, .int .i64 r.x.n, .int .i64 r.x.i, .string r.nm, .slice ar r.l.length cr]) := new_range wr #[.int .i64 r.x.v, .int .i64 r.x.k, .int .i64 r.x.s, .int .i64 r.x.p, .int .i64 r.x.t, .int .i64 r.x.a, .int .i64 r.x.l, .int .i64 r.x.c, .int .i64 r.x.n, .int .i64 r.x.i, .string r.nm, .slice ar r.l.length cr]
      have HW1 : Hid (Below w0.heap.size w0 (wr.alloc (.cells #[.int .i64 r.x.v, .int .i64 r.x.k, .int .i64 r.x.s, .int .i64 r.x.p, .int .i64 r.x.t, .int .i64 r.x.a, .int .i64 r.x.l, .int .i64 r.x.c, .int .i64 r.x.n, .int .i64 r.x.i, .string r.nm, .slice ar r.l.length cr] 38)) ∧ Bs (wr.alloc (.cells #[.int .i64 r.x.v, .int .i64 r.x.k, .int .i64 r.x.s, .int .i64 r.x.p, .int .i64 r.x.t, .int .i64 r.x.a, .int .i64 r.x.l, .int .i64 r.x.c, .int .i64 r.x.n, .int .i64 r.x.i, .string r.nm, .slice ar r.l.length cr] 38)) (.slice ar r.l.length cr) r.l ∧ Rws w0.heap.size (wr.alloc (.cells #[.int .i64 r.x.v, .int .i64 r.x.k, .int .i64 r.x.s, .int .i64 r.x.p, .int .i64 r.x.t, .int .i64 r.x.a, .int .i64 r.x.l, .int .i64 r.x.c, .int .i64 r.x.n, .int .i64 r.x.i, .string r.nm, .slice ar r.l.length cr] 38)) u7 ps) := ⟨up hbel _, hbs.alloc _, hown.kept (up0 _ _)⟩
      have hob : ∀ g, u7.ownBlock = some g → g < (wr.alloc (.cells #[.int .i64 r.x.v, .int .i64 r.x.k, .int .i64 r.x.s, .int .i64 r.x.p, .int .i64 r.x.t, .int .i64 r.x.a, .int .i64 r.x.l, .int .i64 r.x.c, .int .i64 r.x.n, .int .i64 r.x.i, .string r.nm, .slice ar r.l.length cr] 38)).heap.size := fun g hg => by
        have h1 := (World.ownsRow.lt hown.recs.1 g hg).2
        have h2 : (wr.alloc (.cells #[.int .i64 r.x.v, .int .i64 r.x.k, .int .i64 r.x.s, .int .i64 r.x.p, .int .i64 r.x.t, .int .i64 r.x.a, .int .i64 r.x.l, .int .i64 r.x.c, .int .i64 r.x.n, .int .i64 r.x.i, .string r.nm, .slice ar r.l.length cr] 38)).heap.size = wr.heap.size + 1 := by
          show (wr.heap.push _).size = _
          rw [Array.size_push]
        omega
      have HOB : Hid (∀ g, u7.ownBlock = some g → g < (wr.alloc (.cells #[.int .i64 r.x.v, .int .i64 r.x.k, .int .i64 r.x.s, .int .i64 r.x.p, .int .i64 r.x.t, .int .i64 r.x.a, .int .i64 r.x.l, .int .i64 r.x.c, .int .i64 r.x.n, .int .i64 r.x.i, .string r.nm, .slice ar r.l.length cr] 38)).heap.size) := hob
      have HOQ : Hid ((∀ q ∈ ps, ∀ g, q.2.ownBlock = some g → g < (wr.alloc (.cells #[.int .i64 r.x.v, .int .i64 r.x.k, .int .i64 r.x.s, .int .i64 r.x.p, .int .i64 r.x.t, .int .i64 r.x.a, .int .i64 r.x.l, .int .i64 r.x.c, .int .i64 r.x.n, .int .i64 r.x.i, .string r.nm, .slice ar r.l.length cr] 38)).heap.size) ∧ w0.heap.size ≤ (wr.alloc (.cells #[.int .i64 r.x.v, .int .i64 r.x.k, .int .i64 r.x.s, .int .i64 r.x.p, .int .i64 r.x.t, .int .i64 r.x.a, .int .i64 r.x.l, .int .i64 r.x.c, .int .i64 r.x.n, .int .i64 r.x.i, .string r.nm, .slice ar r.l.length cr] 38)).heap.size) := ⟨fun q hq g hg => by
        have h1 := (World.ownsRow.lt (hown.own q hq).row g hg).2
        rw [heap_one]
        omega, by rw [heap_one]; have := hbel.size; omega⟩
      clear hob hrg hbs hown hbel hnf HGE HRS HT
      unfold rv at *
      by_cases h0 : (upP to r).1 = 0
      · have H0 : Hid ((upP to r).1 = 0) := h0
        clear h0 HUB
        obtain ⟨Q, hQ⟩ : ∃ Q, (upP to r).2 = Q := ⟨_, rfl⟩
        have HQ : Hid ((upP to r).2 = Q) := hQ
        rw [hQ] at HUP
        clear hQ
        go_wp2_with (first
          | (refine wpList_load_mid rfl 38 _ rfl b (off + k * 12) rfl [.int .i64 r.x.v, .int .i64 r.x.k, .int .i64 r.x.s, .int .i64 r.x.p, .int .i64 r.x.t, .int .i64 r.x.a, .int .i64 r.x.l, .int .i64 r.x.c, .int .i64 r.x.n, .int .i64 r.x.i, .string r.nm, .slice ar r.l.length cr] _ HR0.out Tryd.underlying38 rfl HIR.out ?_)
          | (refine wpList_load_mid rfl 38 _ rfl wr.heap.size 0 rfl [.int .i64 r.x.v, .int .i64 r.x.k, .int .i64 r.x.s, .int .i64 r.x.p, .int .i64 r.x.t, .int .i64 r.x.a, .int .i64 r.x.l, .int .i64 r.x.c, .int .i64 r.x.n, .int .i64 r.x.i, .string r.nm, .slice ar r.l.length cr] _ HR1.out Tryd.underlying38 rfl HIR.out ?_))
        refine (HUP.out _ HW1.out.1 HW1.out.2.1 H0.out).mono ?_
        rintro e w1 ⟨a1, cp1, rfl, hq1, hf1, b1⟩
        have HO1 : Hid (∀ o o', Rws w0.heap.size ((w1.alloc o).alloc o') u7 ps ∧ Own (wr.alloc (.cells #[.int .i64 r.x.v, .int .i64 r.x.k, .int .i64 r.x.s, .int .i64 r.x.p, .int .i64 r.x.t, .int .i64 r.x.a, .int .i64 r.x.l, .int .i64 r.x.c, .int .i64 r.x.n, .int .i64 r.x.i, .string r.nm, .slice ar r.l.length cr] 38)).heap.size ((w1.alloc o).alloc o') (.slice a1 Q.l.length cp1) Q.l ∧ Below w0.heap.size w0 ((w1.alloc o).alloc o') ∧ w0.heap.size ≤ ((w1.alloc o).alloc o').heap.size ∧ ((w1.alloc o).alloc o').heap.size = w1.heap.size + 1 + 1) := fun o o' => ⟨((HW1.out.2.2.kept b1).kept (up0 _ _)).kept (up0 _ _), (hf1.alloc _).alloc _, up (up (andThen HW1.out.1 b1) _) _, (up (up (andThen HW1.out.1 b1) _) _).size, by rw [heap_one, heap_one]⟩
        have HOF : Hid (∀ g, u7.ownBlock = some g → Off g (.slice a1 Q.l.length cp1) Q.l) := fun g hg => off_own hf1 g (HOB.out g hg)
        have HR2 : Hid ((w1.alloc (.cells #[.int .i64 Q.x.v, .int .i64 Q.x.k, .int .i64 Q.x.s, .int .i64 Q.x.p, .int .i64 Q.x.t, .int .i64 Q.x.a, .int .i64 Q.x.l, .int .i64 Q.x.c, .int .i64 Q.x.n, .int .i64 Q.x.i, .string Q.nm, .slice a1 Q.l.length cp1] 38)).rangeAt w1.heap.size 0 [.int .i64 Q.x.v, .int .i64 Q.x.k, .int .i64 Q.x.s, .int .i64 Q.x.p, .int .i64 Q.x.t, .int .i64 Q.x.a, .int .i64 Q.x.l, .int .i64 Q.x.c, .int .i64 Q.x.n, .int .i64 Q.x.i, .string Q.nm, .slice a1 Q.l.length cp1]) := new_range w1 #[.int .i64 Q.x.v, .int .i64 Q.x.k, .int .i64 Q.x.s, .int .i64 Q.x.p, .int .i64 Q.x.t, .int .i64 Q.x.a, .int .i64 Q.x.l, .int .i64 Q.x.c, .int .i64 Q.x.n, .int .i64 Q.x.i, .string Q.nm, .slice a1 Q.l.length cp1]
        have HR3 : Hid (∀ o, ((w1.alloc o).alloc (.cells #[.int .i64 Q.x.v, .int .i64 Q.x.k, .int .i64 Q.x.s, .int .i64 Q.x.p, .int .i64 Q.x.t, .int .i64 Q.x.a, .int .i64 Q.x.l, .int .i64 Q.x.c, .int .i64 Q.x.n, .int .i64 Q.x.i, .string Q.nm, .slice a1 Q.l.length cp1] 38)).rangeAt (w1.heap.size + 1) 0 [.int .i64 Q.x.v, .int .i64 Q.x.k, .int .i64 Q.x.s, .int .i64 Q.x.p, .int .i64 Q.x.t, .int .i64 Q.x.a, .int .i64 Q.x.l, .int .i64 Q.x.c, .int .i64 Q.x.n, .int .i64 Q.x.i, .string Q.nm, .slice a1 Q.l.length cp1]) := fun o => new_range2 w1 o #[.int .i64 Q.x.v, .int .i64 Q.x.k, .int .i64 Q.x.s, .int .i64 Q.x.p, .int .i64 Q.x.t, .int .i64 Q.x.a, .int .i64 Q.x.l, .int .i64 Q.x.c, .int .i64 Q.x.n, .int .i64 Q.x.i, .string Q.nm, .slice a1 Q.l.length cp1]
        clear hq1 hf1 b1 HW1 HR0 HR1 HUP
        go_wp2_with (first
          | (refine wpList_load_mid rfl 38 _ rfl w1.heap.size 0 rfl [.int .i64 Q.x.v, .int .i64 Q.x.k, .int .i64 Q.x.s, .int .i64 Q.x.p, .int .i64 Q.x.t, .int .i64 Q.x.a, .int .i64 Q.x.l, .int .i64 Q.x.c, .int .i64 Q.x.n, .int .i64 Q.x.i, .string Q.nm, .slice a1 Q.l.length cp1] _ HR2.out Tryd.underlying38 rfl HIR.out ?_)
          | (at_builtin; refine wpList_append_rec2 _ rfl (.tmp 32) (.tmp 34) 22 rfl w0.heap.size hin Tryd.underlying22 _ ps (Q, .slice a1 Q.l.length cp1) rfl (HO1.out _ _).1.recs _ rfl (HR3.out _) rfl (HO1.out _ _).2.1.bs HOF.out (by omega) (HO1.out _ _).2.2.2.1 ?_))
        intro v2 w2 hr2 hg2 he2
        have R2 : Hid (Rws w0.heap.size w2 v2 (ps ++ [(Q, .slice a1 Q.l.length cp1)]) ∧ Below w0.heap.size w0 w2) := ⟨(HO1.out _ _).1.more _ hr2 hg2 (by rw [(HO1.out _ _).2.2.2.2]; exact he2) (HO1.out _ _).2.1 HOQ.out.2 HOQ.out.1 HOB.out, (HO1.out _ _).2.2.1.trans (grown_below (HO1.out _ _).1.recs.1 hg2 (HO1.out _ _).2.2.2.1)⟩
        clear hr2 hg2 he2 HO1 HOF HOB HOQ HR2 HR3
        go_wp2
        go_roundw
        case rel => exact ⟨k + 1, ps ++ [(Q, .slice a1 Q.l.length cp1)], by omega, by go_num, (fun q hq => by
          rw [HTK.out] at hq
          rcases List.mem_append.1 hq with hq | hq
          · exact HGD.out q hq
          · obtain rfl := List.mem_singleton.1 hq
            exact H0.out), R2.out.1, by rw [HTK.out, List.map_append, List.map_append, HMP.out, List.map_cons, List.map_cons, HQ.out]; rfl, R2.out.2⟩
        case measure => simp [intOf]; omega
      · have H0 : Hid ((upP to r).1 ≠ 0) := h0
        have d0 : ((upP to r).1 != 0) = true := by rw [bne_iff_ne]; exact h0
        have HEQ : Hid (∀ z, (upP to r).1 = z → UaPostO to rs w0 (.returned (.tuple #[.slice none 0 0, .int .i64 (k : Int), .int .i64 z])) wr → True) := fun _ _ _ => trivial
        clear h0 HUP HEQ
        obtain ⟨z, hz⟩ : ∃ z, (upP to r).1 = z := ⟨_, rfl⟩
        have HZ : Hid ((upP to r).1 = z) := hz
        rw [hz] at HUB d0
        clear hz
        generalize (upP to r).2 = Q at HUB
        go_wp2_with (first
          | (refine wpList_load_mid rfl 38 _ rfl b (off + k * 12) rfl [.int .i64 r.x.v, .int .i64 r.x.k, .int .i64 r.x.s, .int .i64 r.x.p, .int .i64 r.x.t, .int .i64 r.x.a, .int .i64 r.x.l, .int .i64 r.x.c, .int .i64 r.x.n, .int .i64 r.x.i, .string r.nm, .slice ar r.l.length cr] _ HR0.out Tryd.underlying38 rfl HIR.out ?_)
          | (refine wpList_load_mid rfl 38 _ rfl wr.heap.size 0 rfl [.int .i64 r.x.v, .int .i64 r.x.k, .int .i64 r.x.s, .int .i64 r.x.p, .int .i64 r.x.t, .int .i64 r.x.a, .int .i64 r.x.l, .int .i64 r.x.c, .int .i64 r.x.n, .int .i64 r.x.i, .string r.nm, .slice ar r.l.length cr] _ HR1.out Tryd.underlying38 rfl HIR.out ?_))
        refine (HUB.out _ HW1.out.1 HW1.out.2.1).mono ?_
        rintro e w1 ⟨a1, cp1, rfl, _, b1⟩
        have HB1 : Hid (∀ o, Below w0.heap.size w0 (w1.alloc o)) := fun o => up (andThen HW1.out.1 b1) o
        clear b1 HW1 HR0 HR1 HUB HOB HOQ
        go_wp2
        go_returns
        exact ⟨HB1.out _, .inr ⟨k, r, HRR.out, HGD.out, H0.out, by rw [HZ.out]; rfl⟩⟩
    · obtain rfl : k = rs.length := by omega
      have HGD : Hid (∀ q ∈ rs, (upP to q).1 = 0) := by
        rw [List.take_length] at hgood
        exact hgood
      have HMP : Hid (ps.map Prod.fst = rs.map fun r => (upP to r).2) := by
        rw [List.take_length] at hmap
        exact hmap
      clear hgood hmap HRS HT HGE
      go_wp2
      go_returns
      exact ⟨hbel, .inl ⟨ps, _, HGD.out, rfl, hown, HMP.out⟩⟩
end Go.Proofs.YtjhgjlnckidjkaaDoor
