import Derived.Test.YtdnackjakfiffaaGreatDoorQO1
/-
  Up hands out memory of its own.
-/
namespace Go.Proofs.YtdnackjakfiffaaGreatDoor
open Go Go.RowKit
open Wb

set_option maxRecDepth 100000 in
set_option maxHeartbeats 4000000 in
theorem up_e1O (to : Int) (r : Rec) (d : Value) (w : World) (h : Bs w d r.l) (hT : ETabs w) (hnm : r.nm.size ≤ 140737488355000) (hc : lckE to r ≠ 0) :
    Calls Tryz.prog 11 #[rv r.x r.nm d, .int .i64 to] w fun e w' => ∃ ao, ∃ cap : Nat, e = .returned (.tuple #[rv (upP to r).2.x (upP to r).2.nm (.slice ao (upP to r).2.l.length cap), .int .i64 (upP to r).1]) ∧ Own w.heap.size w' (.slice ao (upP to r).2.l.length cap) (upP to r).2.l ∧ Below w.heap.size w w' := by
  have HIR : Hid ((Tryz.prog.info? 32).map (·.size) = some 12) := infoRec
  have HX : Hid (∀ o1 o2, ((w.alloc o1).alloc o2).heap[w.heap.size]? = some o1 ∧ ((w.alloc o1).alloc o2).heap[w.heap.size + 1]? = some o2 ∧ Below w.heap.size w ((w.alloc o1).alloc o2)) := fun o1 o2 => heap2 w o1 o2
  have HCK : Hid (∀ w', Below w.heap.size w w' → Calls Tryz.prog 25 #[rv r.x r.nm d, .int .i64 to] w' fun e w'' => e = .returned (.int .i64 (lckE to r)) ∧ Below w'.heap.size w' w'') := fun w' hb' => lcheckE_any to r d w' (h.kept hb') (hT.kept hb').tabs hnm
  have HE : Hid (upP to r = (lckE to r, zRec)) := by show _ = _; unfold upP; rw [if_pos hc]
  have d1 : (lckE to r != 0) = true := by rw [bne_iff_ne]; exact hc
  rw [HE.out]
  obtain ⟨ao, cap, rfl, _⟩ := h.shape
  clear h hT hc HE
  generalize lckE to r = z at *
  simp only [zRec, zeroNums]
  unfold rv at *
  go_enter Tryz.func11, Tryz.ntmps11
  go_wp2_with fail
  refine (HCK.out _ (HX.out _ _).2.2).mono ?_
  rintro e w1 ⟨rfl, b1⟩
  have hbx : Box w1 w.heap.size r.x r.nm (.slice ao r.l.length cap) := Box.kept (HX.out _ _).1 b1
  have hz : Box w1 (w.heap.size + 1) zeroNums ⟨#[]⟩ (.slice none 0 0) := Box.kept (HX.out _ _).2.1 b1
  have B1 := andThen (HX.out _ _).2.2 b1
  clear b1 HX HCK
  obtain ⟨z0, z1, z2, z3, z4, z5, z6, z7, z8, z9, z10, z11⟩ := hz.cells
  have f0 := hz.free' 0
  have f1 := hz.free' 1
  have f2 := hz.free' 2
  have f3 := hz.free' 3
  have f4 := hz.free' 4
  have f5 := hz.free' 5
  have f6 := hz.free' 6
  have f7 := hz.free' 7
  have f8 := hz.free' 8
  have f9 := hz.free' 9
  have f10 := hz.free' 10
  have f11 := hz.free' 11
  have HTH : Hid (w1.there (w.heap.size + 1) 0 12) := hz.there
  have HBF : Hid (Below w.heap.size w (w1.setCells (w.heap.size + 1) 0 [.int .i64 0, .int .i64 0, .int .i64 0, .int .i64 0, .int .i64 0, .int .i64 0, .int .i64 0, .int .i64 0, .int .i64 0, .int .i64 0, .string ⟨#[]⟩, .slice none 0 0])) := below_cells (by omega) _ 0 _ B1
  clear hbx hz B1
  go_wp2
  have HRG := World.rangeAt_setCells_same w1 (w.heap.size + 1) 0 [.int .i64 0, .int .i64 0, .int .i64 0, .int .i64 0, .int .i64 0, .int .i64 0, .int .i64 0, .int .i64 0, .int .i64 0, .int .i64 0, .string ⟨#[]⟩, .slice none 0 0] HTH.out
  refine bodyPost_ret (results_cell_slot (p := 4) (s := 5) (ty := 32) rfl _ _ (w.heap.size + 1) [.int .i64 0, .int .i64 0, .int .i64 0, .int .i64 0, .int .i64 0, .int .i64 0, .int .i64 0, .int .i64 0, .int .i64 0, .int .i64 0, .string ⟨#[]⟩, .slice none 0 0] _ rfl HRG Tryz.underlying32 rfl HIR.out) rfl ?_
  exact ⟨none, 0, rfl, Own.nil _ _, HBF.out⟩
set_option maxRecDepth 100000 in
set_option maxHeartbeats 4000000 in
theorem up_e2O (to : Int) (r : Rec) (d : Value) (w : World) (h : Bs w d r.l) (hT : ETabs w) (hnm : r.nm.size ≤ 140737488355000) (hc : lckE to r = 0) (hv : to < r.x.v) :
    Calls Tryz.prog 11 #[rv r.x r.nm d, .int .i64 to] w fun e w' => ∃ ao, ∃ cap : Nat, e = .returned (.tuple #[rv (upP to r).2.x (upP to r).2.nm (.slice ao (upP to r).2.l.length cap), .int .i64 (upP to r).1]) ∧ Own w.heap.size w' (.slice ao (upP to r).2.l.length cap) (upP to r).2.l ∧ Below w.heap.size w w' := by
  have HIR : Hid ((Tryz.prog.info? 32).map (·.size) = some 12) := infoRec
  have HX : Hid (∀ o1 o2, ((w.alloc o1).alloc o2).heap[w.heap.size]? = some o1 ∧ ((w.alloc o1).alloc o2).heap[w.heap.size + 1]? = some o2 ∧ Below w.heap.size w ((w.alloc o1).alloc o2)) := fun o1 o2 => heap2 w o1 o2
  have HCK : Hid (∀ w', Below w.heap.size w w' → Calls Tryz.prog 25 #[rv r.x r.nm d, .int .i64 to] w' fun e w'' => e = .returned (.int .i64 (lckE to r)) ∧ Below w'.heap.size w' w'') := fun w' hb' => lcheckE_any to r d w' (h.kept hb') (hT.kept hb').tabs hnm
  have HE : Hid (upP to r = (41, zRec)) := by show _ = _; unfold upP; rw [if_neg (by simpa using hc), if_pos hv]
  rw [HE.out]
  rw [hc] at HCK
  obtain ⟨ao, cap, rfl, _⟩ := h.shape
  clear h hT hc HE
  simp only [zRec, zeroNums]
  unfold rv at *
  go_enter Tryz.func11, Tryz.ntmps11
  go_wp2_with fail
  refine (HCK.out _ (HX.out _ _).2.2).mono ?_
  rintro e w1 ⟨rfl, b1⟩
  have hbx : Box w1 w.heap.size r.x r.nm (.slice ao r.l.length cap) := Box.kept (HX.out _ _).1 b1
  have hz : Box w1 (w.heap.size + 1) zeroNums ⟨#[]⟩ (.slice none 0 0) := Box.kept (HX.out _ _).2.1 b1
  have B1 := andThen (HX.out _ _).2.2 b1
  clear b1 HX HCK
  have cv := hbx.cells.1
  obtain ⟨z0, z1, z2, z3, z4, z5, z6, z7, z8, z9, z10, z11⟩ := hz.cells
  have f0 := hz.free' 0
  have f1 := hz.free' 1
  have f2 := hz.free' 2
  have f3 := hz.free' 3
  have f4 := hz.free' 4
  have f5 := hz.free' 5
  have f6 := hz.free' 6
  have f7 := hz.free' 7
  have f8 := hz.free' 8
  have f9 := hz.free' 9
  have f10 := hz.free' 10
  have f11 := hz.free' 11
  have HTH : Hid (w1.there (w.heap.size + 1) 0 12) := hz.there
  have HBF : Hid (Below w.heap.size w (w1.setCells (w.heap.size + 1) 0 [.int .i64 0, .int .i64 0, .int .i64 0, .int .i64 0, .int .i64 0, .int .i64 0, .int .i64 0, .int .i64 0, .int .i64 0, .int .i64 0, .string ⟨#[]⟩, .slice none 0 0])) := below_cells (by omega) _ 0 _ B1
  clear hbx hz B1
  go_wp2
  have HRG := World.rangeAt_setCells_same w1 (w.heap.size + 1) 0 [.int .i64 0, .int .i64 0, .int .i64 0, .int .i64 0, .int .i64 0, .int .i64 0, .int .i64 0, .int .i64 0, .int .i64 0, .int .i64 0, .string ⟨#[]⟩, .slice none 0 0] HTH.out
  refine bodyPost_ret (results_cell_slot (p := 4) (s := 5) (ty := 32) rfl _ _ (w.heap.size + 1) [.int .i64 0, .int .i64 0, .int .i64 0, .int .i64 0, .int .i64 0, .int .i64 0, .int .i64 0, .int .i64 0, .int .i64 0, .int .i64 0, .string ⟨#[]⟩, .slice none 0 0] _ rfl HRG Tryz.underlying32 rfl HIR.out) rfl ?_
  exact ⟨none, 0, rfl, Own.nil _ _, HBF.out⟩
theorem up_O (to : Int) (r : Rec) (d : Value) (w : World) (h : Bs w d r.l) (hT : ETabs w) (hnm : r.nm.size ≤ 140737488355000) (hf : r.x.fit) :
    Calls Tryz.prog 11 #[rv r.x r.nm d, .int .i64 to] w fun e w' => OwnT w w' (upP to r) e := by
  by_cases hc : lckE to r = 0
  · by_cases hv : to < r.x.v
    · exact up_e2O to r d w h hT hnm hc hv
    · exact (up_okO to r d w h hT hnm (small_of r hf (chk_of_lck hc)) hc hv).mono fun e w' ⟨a, c, e1, _, e3, e4⟩ => ⟨a, c, e1, e3, e4⟩
  · exact up_e1O to r d w h hT hnm hc
end Go.Proofs.YtdnackjakfiffaaGreatDoor
