import Derived.Test.YtfnfdbmckpklmaaDoorQL2
import Derived.Test.YtfnfdbmckpklmaaDoorQK2
import Derived.Test.YtfnfdbmckpklmaaDoorQR5
import Derived.Test.YtfnfdbmckpklmaaDoorQR3
/-
  Package lift: check, Up.
-/
namespace Go.Proofs.YtfnfdbmckpklmaaDoor
open Go Go.RowKit
open Wb

def chkR (r : Rec) : Int := chk r.x r.nm r.l
def zRec : Rec := ⟨zeroNums, ⟨#[]⟩, []⟩
/-- what check answers -/
def lckE (to : Int) (r : Rec) : Int := if chkR r ≠ 0 then chkR r else if 1 ≤ to ∧ to ≤ 3 then 0 else 3
/-- what Up answers -/
def upP (to : Int) (r : Rec) : Int × Rec := if lckE to r ≠ 0 then (lckE to r, zRec) else if to < r.x.v then (41, zRec) else (0, carP to r)
def eqR (a b : Rec) : Bool := recEq a.x b.x a.nm b.nm a.l b.l
/-- what Down answers -/
def downP (to : Int) (r : Rec) : Int × Rec := if lckE to r ≠ 0 then (lckE to r, zRec) else if r.x.v < to then (41, zRec) else if eqR (carP r.x.v (carP to r)) r then (0, carP to r) else (40, zRec)
/-- the tables of lift stand -/
structure LTabs (w : World) : Prop where
  tabs : Tabs w
  ways : Lft.WaysT w
theorem LTabs.kept {w w' : World} (h : LTabs w) (hb : Below w.heap.size w w') : LTabs w' := ⟨h.tabs.kept hb, h.ways.kept hb⟩
theorem small_of (r : Rec) (hf : r.x.fit) (hc : chkR r = 0) : r.small := by
  obtain ⟨hx, hv, hk, _, hN⟩ := chk_nice r.x r.nm r.l hc hf
  obtain ⟨hn, hl⟩ := chk_fits r.x r.nm r.l hN
  exact ⟨by omega, by omega⟩
theorem carL_small : ∀ (ks : List Nat) (r : Rec), r.small → (carL ks r).small
  | [], _, h => h
  | k :: ks, r, h => carL_small ks (deedP k r) (deedP_small k r h)
theorem chk_of_lck {to : Int} {r : Rec} (h : lckE to r = 0) : chkR r = 0 := by
  unfold lckE at h
  by_cases hc : chkR r = 0
  · exact hc
  · rw [if_pos hc] at h
    exact absurd h hc
set_option maxRecDepth 100000 in
set_option maxHeartbeats 1000000 in
theorem lcheck_any (to : Int) (r : Rec) (d : Value) (w : World) (h : Bs w d r.l) (hT : Tabs w) (hnm : r.nm.size ≤ 1048576) :
    Calls Tryd.prog 75 #[rv r.x r.nm d, .int .i64 to] w fun e w' => e = .returned (.int .i64 (lckE to r)) ∧ Below w.heap.size w w' := by
  have HX : Hid (∀ o, Below w.heap.size w (w.alloc o)) := fun o => up0 w o
  have HCK : Hid (∀ w', Below w.heap.size w w' → Calls Tryd.prog 12 #[rv r.x r.nm d] w' fun e w'' => e = .returned (.int .i64 (chkR r)) ∧ Below w'.heap.size w' w'') := fun w' hb' => check_any r.x r.nm d r.l w' (h.kept hb') (hT.kept hb').lets (hT.kept hb').tags (by omega)
  obtain ⟨ao, cap, rfl, _⟩ := h.shape
  clear h hT
  by_cases hc : chkR r = 0
  · by_cases ht : 1 ≤ to ∧ to ≤ 3
    · have HE : Hid (lckE to r = 0) := by show _ = _; unfold lckE; rw [if_neg (by simpa using hc), if_pos ht]
      have HV : Hid ((decide (1 ≤ to) && decide (to ≤ 3)) = true) := by show _ = _; simp [ht.1, ht.2]
      rw [HE.out]
      rw [hc] at HCK
      clear ht
      unfold rv at *
      go_enter Tryd.func75, Tryd.ntmps75
      go_wp2_with fail
      refine (HCK.out _ (HX.out _)).mono ?_
      rintro e w1 ⟨rfl, b1⟩
      have B1 := andThen (HX.out _) b1
      clear b1
      go_wp2_with fail
      refine (Lft.isV_any to _).mono ?_
      rw [HV.out]
      rintro e w2 ⟨rfl, rfl⟩
      go_wp2
      go_ret
      exact ⟨rfl, B1⟩
    · have HE : Hid (lckE to r = 3) := by show _ = _; unfold lckE; rw [if_neg (by simpa using hc), if_neg ht]
      have HV : Hid ((decide (1 ≤ to) && decide (to ≤ 3)) = false) := by
        show _ = _
        rw [Bool.and_eq_false_iff]
        by_cases h1 : 1 ≤ to
        · right; rw [decide_eq_false]; omega
        · left; rw [decide_eq_false]; omega
      rw [HE.out]
      rw [hc] at HCK
      clear ht
      unfold rv at *
      go_enter Tryd.func75, Tryd.ntmps75
      go_wp2_with fail
      refine (HCK.out _ (HX.out _)).mono ?_
      rintro e w1 ⟨rfl, b1⟩
      have B1 := andThen (HX.out _) b1
      clear b1
      go_wp2_with fail
      refine (Lft.isV_any to _).mono ?_
      rw [HV.out]
      rintro e w2 ⟨rfl, rfl⟩
      go_wp2
      go_ret
      exact ⟨rfl, B1⟩
  · have HE : Hid (lckE to r = chkR r) := by show _ = _; unfold lckE; rw [if_pos hc]
    have d1 : (chkR r != 0) = true := by rw [bne_iff_ne]; exact hc
    rw [HE.out]
    clear hc HE
    generalize chkR r = z at *
    unfold rv at *
    go_enter Tryd.func75, Tryd.ntmps75
    go_wp2_with fail
    refine (HCK.out _ (HX.out _)).mono ?_
    rintro e w1 ⟨rfl, b1⟩
    have B1 := andThen (HX.out _) b1
    clear b1
    go_wp2
    go_ret
    exact ⟨rfl, B1⟩
set_option maxRecDepth 100000 in
set_option maxHeartbeats 4000000 in
theorem up_e1 (to : Int) (r : Rec) (d : Value) (w : World) (h : Bs w d r.l) (hT : LTabs w) (hnm : r.nm.size ≤ 1048576) (hc : lckE to r ≠ 0) :
    Calls Tryd.prog 55 #[rv r.x r.nm d, .int .i64 to] w fun e w' => ∃ ao, ∃ cap : Nat, e = .returned (.tuple #[rv (upP to r).2.x (upP to r).2.nm (.slice ao (upP to r).2.l.length cap), .int .i64 (upP to r).1]) ∧ Bs w' (.slice ao (upP to r).2.l.length cap) (upP to r).2.l ∧ Below w.heap.size w w' := by
  have HIR : Hid ((Tryd.prog.info? 24).map (·.size) = some 12) := infoRec
  have HX : Hid (∀ o1 o2, ((w.alloc o1).alloc o2).heap[w.heap.size]? = some o1 ∧ ((w.alloc o1).alloc o2).heap[w.heap.size + 1]? = some o2 ∧ Below w.heap.size w ((w.alloc o1).alloc o2)) := fun o1 o2 => heap2 w o1 o2
  have HCK : Hid (∀ w', Below w.heap.size w w' → Calls Tryd.prog 75 #[rv r.x r.nm d, .int .i64 to] w' fun e w'' => e = .returned (.int .i64 (lckE to r)) ∧ Below w'.heap.size w' w'') := fun w' hb' => lcheck_any to r d w' (h.kept hb') (hT.kept hb').tabs hnm
  have HE : Hid (upP to r = (lckE to r, zRec)) := by show _ = _; unfold upP; rw [if_pos hc]
  have d1 : (lckE to r != 0) = true := by rw [bne_iff_ne]; exact hc
  rw [HE.out]
  obtain ⟨ao, cap, rfl, _⟩ := h.shape
  clear h hT hc HE
  generalize lckE to r = z at *
  simp only [zRec, zeroNums]
  unfold rv at *
  go_enter Tryd.func55, Tryd.ntmps55
  go_wp2_with fail
  refine (HCK.out _ (HX.out _ _).2.2).mono ?_
  rintro e w1 ⟨rfl, b1⟩
  have hbx : Box w1 w.heap.size r.x r.nm (.slice ao r.l.length cap) := Box.kept (HX.out _ _).1 b1
  have hz : Box w1 (w.heap.size + 1) zeroNums ⟨#[]⟩ (.slice none 0 0) := Box.kept (HX.out _ _).2.1 b1
  have B1 := andThen (HX.out _ _).2.2 b1
  clear b1 HX HCK
  obtain ⟨z0, z1, z2, z3, z4, z5, z6, z7, z8, z9, z10, z11⟩ := hz.cells
  have f0 := hz.free' 0
  have f1 := hz.free' 1
  have f2 := hz.free' 2
  have f3 := hz.free' 3
  have f4 := hz.free' 4
  have f5 := hz.free' 5
  have f6 := hz.free' 6
  have f7 := hz.free' 7
  have f8 := hz.free' 8
  have f9 := hz.free' 9
  have f10 := hz.free' 10
  have f11 := hz.free' 11
  have HTH : Hid (w1.there (w.heap.size + 1) 0 12) := hz.there
  have HBF : Hid (Below w.heap.size w (w1.setCells (w.heap.size + 1) 0 [.int .i64 0, .int .i64 0, .int .i64 0, .int .i64 0, .int .i64 0, .int .i64 0, .int .i64 0, .int .i64 0, .int .i64 0, .int .i64 0, .string ⟨#[]⟩, .slice none 0 0])) := below_cells (by omega) _ 0 _ B1
  clear hbx hz B1
  go_wp2
  have HRG := World.rangeAt_setCells_same w1 (w.heap.size + 1) 0 [.int .i64 0, .int .i64 0, .int .i64 0, .int .i64 0, .int .i64 0, .int .i64 0, .int .i64 0, .int .i64 0, .int .i64 0, .int .i64 0, .string ⟨#[]⟩, .slice none 0 0] HTH.out
  refine bodyPost_ret (results_cell_slot (p := 4) (s := 5) (ty := 24) rfl _ _ (w.heap.size + 1) [.int .i64 0, .int .i64 0, .int .i64 0, .int .i64 0, .int .i64 0, .int .i64 0, .int .i64 0, .int .i64 0, .int .i64 0, .int .i64 0, .string ⟨#[]⟩, .slice none 0 0] _ rfl HRG Tryd.underlying24 rfl HIR.out) rfl ?_
  exact ⟨none, 0, rfl, Bs.nil _, HBF.out⟩
set_option maxRecDepth 100000 in
set_option maxHeartbeats 4000000 in
theorem up_e2 (to : Int) (r : Rec) (d : Value) (w : World) (h : Bs w d r.l) (hT : LTabs w) (hnm : r.nm.size ≤ 1048576) (hc : lckE to r = 0) (hv : to < r.x.v) :
    Calls Tryd.prog 55 #[rv r.x r.nm d, .int .i64 to] w fun e w' => ∃ ao, ∃ cap : Nat, e = .returned (.tuple #[rv (upP to r).2.x (upP to r).2.nm (.slice ao (upP to r).2.l.length cap), .int .i64 (upP to r).1]) ∧ Bs w' (.slice ao (upP to r).2.l.length cap) (upP to r).2.l ∧ Below w.heap.size w w' := by
  have HIR : Hid ((Tryd.prog.info? 24).map (·.size) = some 12) := infoRec
  have HX : Hid (∀ o1 o2, ((w.alloc o1).alloc o2).heap[w.heap.size]? = some o1 ∧ ((w.alloc o1).alloc o2).heap[w.heap.size + 1]? = some o2 ∧ Below w.heap.size w ((w.alloc o1).alloc o2)) := fun o1 o2 => heap2 w o1 o2
  have HCK : Hid (∀ w', Below w.heap.size w w' → Calls Tryd.prog 75 #[rv r.x r.nm d, .int .i64 to] w' fun e w'' => e = .returned (.int .i64 (lckE to r)) ∧ Below w'.heap.size w' w'') := fun w' hb' => lcheck_any to r d w' (h.kept hb') (hT.kept hb').tabs hnm
  have HE : Hid (upP to r = (41, zRec)) := by show _ = _; unfold upP; rw [if_neg (by simpa using hc), if_pos hv]
  rw [HE.out]
  rw [hc] at HCK
  obtain ⟨ao, cap, rfl, _⟩ := h.shape
  clear h hT hc HE
  simp only [zRec, zeroNums]
  unfold rv at *
  go_enter Tryd.func55, Tryd.ntmps55
  go_wp2_with fail
  refine (HCK.out _ (HX.out _ _).2.2).mono ?_
  rintro e w1 ⟨rfl, b1⟩
  have hbx : Box w1 w.heap.size r.x r.nm (.slice ao r.l.length cap) := Box.kept (HX.out _ _).1 b1
  have hz : Box w1 (w.heap.size + 1) zeroNums ⟨#[]⟩ (.slice none 0 0) := Box.kept (HX.out _ _).2.1 b1
  have B1 := andThen (HX.out _ _).2.2 b1
  clear b1 HX HCK
  have cv := hbx.cells.1
  obtain ⟨z0, z1, z2, z3, z4, z5, z6, z7, z8, z9, z10, z11⟩ := hz.cells
  have f0 := hz.free' 0
  have f1 := hz.free' 1
  have f2 := hz.free' 2
  have f3 := hz.free' 3
  have f4 := hz.free' 4
  have f5 := hz.free' 5
  have f6 := hz.free' 6
  have f7 := hz.free' 7
  have f8 := hz.free' 8
  have f9 := hz.free' 9
  have f10 := hz.free' 10
  have f11 := hz.free' 11
  have HTH : Hid (w1.there (w.heap.size + 1) 0 12) := hz.there
  have HBF : Hid (Below w.heap.size w (w1.setCells (w.heap.size + 1) 0 [.int .i64 0, .int .i64 0, .int .i64 0, .int .i64 0, .int .i64 0, .int .i64 0, .int .i64 0, .int .i64 0, .int .i64 0, .int .i64 0, .string ⟨#[]⟩, .slice none 0 0])) := below_cells (by omega) _ 0 _ B1
  clear hbx hz B1
  go_wp2
  have HRG := World.rangeAt_setCells_same w1 (w.heap.size + 1) 0 [.int .i64 0, .int .i64 0, .int .i64 0, .int .i64 0, .int .i64 0, .int .i64 0, .int .i64 0, .int .i64 0, .int .i64 0, .int .i64 0, .string ⟨#[]⟩, .slice none 0 0] HTH.out
  refine bodyPost_ret (results_cell_slot (p := 4) (s := 5) (ty := 24) rfl _ _ (w.heap.size + 1) [.int .i64 0, .int .i64 0, .int .i64 0, .int .i64 0, .int .i64 0, .int .i64 0, .int .i64 0, .int .i64 0, .int .i64 0, .int .i64 0, .string ⟨#[]⟩, .slice none 0 0] _ rfl HRG Tryd.underlying24 rfl HIR.out) rfl ?_
  exact ⟨none, 0, rfl, Bs.nil _, HBF.out⟩
set_option maxRecDepth 100000 in
set_option maxHeartbeats 4000000 in
theorem up_ok (to : Int) (r : Rec) (d : Value) (w : World) (h : Bs w d r.l) (hT : LTabs w) (hnm : r.nm.size ≤ 1048576) (hs : r.small) (hc : lckE to r = 0) (hv : ¬ to < r.x.v) :
    Calls Tryd.prog 55 #[rv r.x r.nm d, .int .i64 to] w fun e w' => ∃ ao, ∃ cap : Nat, e = .returned (.tuple #[rv (upP to r).2.x (upP to r).2.nm (.slice ao (upP to r).2.l.length cap), .int .i64 (upP to r).1]) ∧ Bs w' (.slice ao (upP to r).2.l.length cap) (upP to r).2.l ∧ Below w.heap.size w w' := by
  have HIR : Hid ((Tryd.prog.info? 24).map (·.size) = some 12) := infoRec
  have HX : Hid (∀ o1 o2, ((w.alloc o1).alloc o2).heap[w.heap.size]? = some o1 ∧ ((w.alloc o1).alloc o2).heap[w.heap.size + 1]? = some o2 ∧ Below w.heap.size w ((w.alloc o1).alloc o2)) := fun o1 o2 => heap2 w o1 o2
  have HCK : Hid (∀ w', Below w.heap.size w w' → Calls Tryd.prog 75 #[rv r.x r.nm d, .int .i64 to] w' fun e w'' => e = .returned (.int .i64 (lckE to r)) ∧ Below w'.heap.size w' w'') := fun w' hb' => lcheck_any to r d w' (h.kept hb') (hT.kept hb').tabs hnm
  have HE : Hid (upP to r = (0, carP to r)) := by show _ = _; unfold upP; rw [if_neg (by simpa using hc), if_neg hv]
  rw [HE.out]
  rw [hc] at HCK
  have HCA : Hid (∀ w', Below w.heap.size w w' → Calls Tryd.prog 76 #[rv r.x r.nm d, .int .i64 to] w' fun e w'' => ∃ ao, ∃ cap : Nat, e = .returned (rv (carP to r).x (carP to r).nm (.slice ao (carP to r).l.length cap)) ∧ Bs w'' (.slice ao (carP to r).l.length cap) (carP to r).l ∧ Below w'.heap.size w' w'') := fun w' hb' => carry_any to r d w' (h.kept hb') hs (hT.kept hb').ways
  have HSM : Hid (carP to r).small := carL_small _ _ hs
  obtain ⟨ao, cap, rfl, _⟩ := h.shape
  clear h hT hc HE
  generalize carP to r = Q at *
  have HCL : Hid (∀ w' ao' (cap' : Nat), Bs w' (.slice ao' Q.l.length cap') Q.l → Calls Tryd.prog 13 #[rv Q.x Q.nm (.slice ao' Q.l.length cap')] w' fun e w'' => ∃ ao2, ∃ cap2 : Nat, e = .returned (rv Q.x Q.nm (.slice ao2 Q.l.length cap2)) ∧ Own w'.heap.size w'' (.slice ao2 Q.l.length cap2) Q.l ∧ Below w'.heap.size w' w'') := fun w' ao' cap' hb => (rclone_any Q.x Q.nm _ Q.l w' hb (by have := HSM.out.2; omega)).mono fun e w'' ⟨d', he, ho, hb''⟩ => by
    obtain ⟨ao2, cap2, rfl, _⟩ := ho.bs.shape
    exact ⟨ao2, cap2, he, ho, hb''⟩
  unfold rv at *
  go_enter Tryd.func55, Tryd.ntmps55
  go_wp2_with fail
  refine (HCK.out _ (HX.out _ _).2.2).mono ?_
  rintro e w1 ⟨rfl, b1⟩
  have hbx : Box w1 w.heap.size r.x r.nm (.slice ao r.l.length cap) := Box.kept (HX.out _ _).1 b1
  have hz : Box w1 (w.heap.size + 1) zeroNums ⟨#[]⟩ (.slice none 0 0) := Box.kept (HX.out _ _).2.1 b1
  have B1 := andThen (HX.out _ _).2.2 b1
  clear b1 HX HCK
  obtain ⟨c0, c1, c2, c3, c4, c5, c6, c7, c8, c9, c10, c11⟩ := hbx.cells
  go_wp2_with fail
  refine (HCA.out _ B1).mono ?_
  rintro e w2 ⟨ao2, cap2, rfl, hb2, b2⟩
  have hz2 := hz.kept b2
  have B2 := andThen B1 b2
  clear c0 c1 c2 c3 c4 c5 c6 c7 c8 c9 c10 c11 hbx hz b2 HCA
  go_wp2_with fail
  refine (HCL.out _ _ _ hb2).mono ?_
  rintro e w3 ⟨ao3, cap3, rfl, ho3, b3⟩
  have hz3 := hz2.kept b3
  have B3 := andThen B2 b3
  have hlt : w.heap.size + 1 < w2.heap.size := hz2.lt
  obtain ⟨z0, z1, z2, z3, z4, z5, z6, z7, z8, z9, z10, z11⟩ := hz3.cells
  have f0 := hz3.free' 0
  have f1 := hz3.free' 1
  have f2 := hz3.free' 2
  have f3 := hz3.free' 3
  have f4 := hz3.free' 4
  have f5 := hz3.free' 5
  have f6 := hz3.free' 6
  have f7 := hz3.free' 7
  have f8 := hz3.free' 8
  have f9 := hz3.free' 9
  have f10 := hz3.free' 10
  have f11 := hz3.free' 11
  have HTH : Hid (w3.there (w.heap.size + 1) 0 12) := hz3.there
  have HBF : Hid (Below w.heap.size w (w3.setCells (w.heap.size + 1) 0 [.int .i64 Q.x.v, .int .i64 Q.x.k, .int .i64 Q.x.s, .int .i64 Q.x.p, .int .i64 Q.x.t, .int .i64 Q.x.a, .int .i64 Q.x.l, .int .i64 Q.x.c, .int .i64 Q.x.n, .int .i64 Q.x.i, .string Q.nm, .slice ao3 Q.l.length cap3]) ∧ Bs (w3.setCells (w.heap.size + 1) 0 [.int .i64 Q.x.v, .int .i64 Q.x.k, .int .i64 Q.x.s, .int .i64 Q.x.p, .int .i64 Q.x.t, .int .i64 Q.x.a, .int .i64 Q.x.l, .int .i64 Q.x.c, .int .i64 Q.x.n, .int .i64 Q.x.i, .string Q.nm, .slice ao3 Q.l.length cap3]) (.slice ao3 Q.l.length cap3) Q.l) := ⟨below_cells (by omega) _ 0 _ B3, (Own.cells ho3 _ _ _ hlt).bs⟩
  clear hz2 hz3 b3 hb2 ho3 B1 B2 B3 HCL
  go_wp2
  have HRG := World.rangeAt_setCells_same w3 (w.heap.size + 1) 0 [.int .i64 Q.x.v, .int .i64 Q.x.k, .int .i64 Q.x.s, .int .i64 Q.x.p, .int .i64 Q.x.t, .int .i64 Q.x.a, .int .i64 Q.x.l, .int .i64 Q.x.c, .int .i64 Q.x.n, .int .i64 Q.x.i, .string Q.nm, .slice ao3 Q.l.length cap3] HTH.out
  refine bodyPost_ret (results_cell_slot (p := 4) (s := 5) (ty := 24) rfl _ _ (w.heap.size + 1) [.int .i64 Q.x.v, .int .i64 Q.x.k, .int .i64 Q.x.s, .int .i64 Q.x.p, .int .i64 Q.x.t, .int .i64 Q.x.a, .int .i64 Q.x.l, .int .i64 Q.x.c, .int .i64 Q.x.n, .int .i64 Q.x.i, .string Q.nm, .slice ao3 Q.l.length cap3] _ rfl HRG Tryd.underlying24 rfl HIR.out) rfl ?_
  exact ⟨ao3, cap3, rfl, HBF.out.2, HBF.out.1⟩
theorem up_any (to : Int) (r : Rec) (d : Value) (w : World) (h : Bs w d r.l) (hT : LTabs w) (hnm : r.nm.size ≤ 1048576) (hf : r.x.fit) :
    Calls Tryd.prog 55 #[rv r.x r.nm d, .int .i64 to] w fun e w' => ∃ ao, ∃ cap : Nat, e = .returned (.tuple #[rv (upP to r).2.x (upP to r).2.nm (.slice ao (upP to r).2.l.length cap), .int .i64 (upP to r).1]) ∧ Bs w' (.slice ao (upP to r).2.l.length cap) (upP to r).2.l ∧ Below w.heap.size w w' := by
  by_cases hc : lckE to r = 0
  · by_cases hv : to < r.x.v
    · exact up_e2 to r d w h hT hnm hc hv
    · exact up_ok to r d w h hT hnm (small_of r hf (chk_of_lck hc)) hc hv
  · exact up_e1 to r d w h hT hnm hc
end Go.Proofs.YtfnfdbmckpklmaaDoor

/-
  Lift, pure: what is valid in each version; there and back.
-/
namespace Go.Proofs.YtfnfdbmckpklmaaDoor
open Go Go.RowKit
open Wb

theorem chk_exp (x : Nums) (nm : ByteArray) (l : List Nat) : chk x nm l = 0 ↔ (1 ≤ x.v ∧ x.v ≤ 3) ∧ (1 ≤ x.k ∧ x.k ≤ 7) ∧ 1 ≤ x.s ∧ (tagE x nm l 3 = 0 ∧ tagE x nm l 4 = 0 ∧ tagE x nm l 5 = 0 ∧ tagE x nm l 6 = 0 ∧ tagE x nm l 7 = 0 ∧ tagE x nm l 8 = 0 ∧ tagE x nm l 9 = 0 ∧ tagE x nm l 10 = 0 ∧ tagE x nm l 11 = 0) := by
  rw [← chkN_all]
  unfold chk
  by_cases hv : 1 ≤ x.v ∧ x.v ≤ 3
  · rw [if_neg (by simpa using hv)]
    by_cases hk : 1 ≤ x.k ∧ x.k ≤ 7
    · rw [if_neg (by simpa using hk)]
      by_cases hs : x.s < 1
      · rw [if_pos hs]
        constructor
        · intro h; simp at h
        · intro h; omega
      · rw [if_neg hs]
        exact ⟨fun h => ⟨hv, hk, by omega, h⟩, fun h => h.2.2.2⟩
    · rw [if_pos hk]
      exact ⟨fun h => by simp at h, fun h => absurd h.2.1 hk⟩
  · rw [if_pos hv]
    exact ⟨fun h => by simp at h, fun h => absurd h.1 hv⟩
theorem tag_in (x : Nums) (nm : ByteArray) (l : List Nat) (t : Nat) (h : x.row.contains (t : Int) = true) : tagE x nm l t = fldE x nm l t := by unfold tagE; rw [h]; rfl
theorem tag_out (x : Nums) (nm : ByteArray) (l : List Nat) (t : Nat) (h : x.row.contains (t : Int) = false) : tagE x nm l t = 0 ↔ zeroT x nm l.length t = true := by
  unfold tagE
  rw [h]
  cases zeroT x nm l.length t <;> simp
theorem row_at (x : Nums) (v k : Nat) (hv : x.v = v) (hk : x.k = k) : x.row = tagR ((k - 1) * 3 + (v - 1)) := by
  unfold Nums.row
  rw [hv, hk]
  rfl
theorem toList_nil (s : ByteArray) : s.toList = [] ↔ s = ⟨#[]⟩ := by
  constructor
  · intro h
    rw [ByteArray.toList_eq] at h
    apply ByteArray.ext
    simpa using h
  · rintro rfl
    rw [ByteArray.toList_eq]
theorem dat_iff (n : Nat) (z : Int) : (if 16384 < n then (36 : Int) else z) = 0 ↔ n ≤ 16384 ∧ z = 0 := by
  split
  · constructor
    · intro h; simp at h
    · intro h; omega
  · constructor
    · intro h; exact ⟨by omega, h⟩
    · intro h; exact h.2
/-- what stands in a record of version 1 -/
def V1 (r : Rec) : Prop := 1 ≤ r.x.s ∧ r.x.t = 0 ∧ r.x.a = 0 ∧ r.x.l = 0 ∧ r.x.c = 0 ∧ r.x.n = 0 ∧ r.x.i = 0 ∧ r.nm = ⟨#[]⟩ ∧ ((r.x.k = 1 ∧ 1 ≤ r.x.p ∧ r.x.p ≤ 32 ∧ r.l.length ≤ 16384 ∧ lab (bstr r.l) = 0) ∨ ((r.x.k = 2 ∨ r.x.k = 5) ∧ 0 ≤ r.x.p ∧ r.x.p ≤ 31 ∧ r.l = []) ∨ ((r.x.k = 3 ∨ r.x.k = 4 ∨ r.x.k = 6) ∧ 0 ≤ r.x.p ∧ r.x.p ≤ 31 ∧ r.l.length ≤ 16384) ∨ (r.x.k = 7 ∧ r.x.p = 0 ∧ r.l = []))
theorem v1_iff (r : Rec) (hv : r.x.v = 1) : chk r.x r.nm r.l = 0 ↔ V1 r := by
  obtain ⟨x, nm, l⟩ := r
  simp only [V1] at *
  rw [chk_exp, ← toList_nil]
  by_cases hk : 1 ≤ x.k ∧ x.k ≤ 7
  · obtain h | h | h | h | h | h | h : x.k = 1 ∨ x.k = 2 ∨ x.k = 3 ∨ x.k = 4 ∨ x.k = 5 ∨ x.k = 6 ∨ x.k = 7 := by omega
    all_goals
      simp [tagE, Nums.row, tagR, tagRs, fldE, zeroT, Nums.tag, Nums.lo, Nums.hi, Nums.old, datE, hv, h, dat_iff]
      intro _
      constructor <;> (intro hh; simp [hh])
  · constructor
    · intro h; exact absurd h.2.1 hk
    · rintro ⟨_, _, _, _, _, _, _, _, h | h | h | h⟩ <;> omega
/-- what stands in a record of version 2 -/
def V2 (r : Rec) : Prop := 1 ≤ r.x.s ∧ 0 ≤ r.x.a ∧ r.x.a ≤ 9223372036854775807 ∧ r.x.c = 0 ∧ r.x.i = 0 ∧ ((r.x.k = 1 ∧ r.x.p = 0 ∧ r.x.t = 0 ∧ r.x.l = 0 ∧ 1 ≤ r.x.n ∧ r.x.n ≤ 32 ∧ lab r.nm = 0 ∧ r.l.length ≤ 16384) ∨ ((r.x.k = 2 ∨ r.x.k = 5) ∧ 0 ≤ r.x.p ∧ r.x.p ≤ 31 ∧ 1 ≤ r.x.t ∧ r.x.t ≤ 1000 ∧ r.x.l = 0 ∧ r.x.n = 0 ∧ r.nm = ⟨#[]⟩ ∧ r.l = []) ∨ ((r.x.k = 3 ∨ r.x.k = 6) ∧ 0 ≤ r.x.p ∧ r.x.p ≤ 31 ∧ r.x.t = 0 ∧ r.x.l = 0 ∧ r.x.n = 0 ∧ r.nm = ⟨#[]⟩ ∧ r.l.length ≤ 16384) ∨ (r.x.k = 4 ∧ 0 ≤ r.x.p ∧ r.x.p ≤ 31 ∧ r.x.t = 0 ∧ 0 ≤ r.x.l ∧ r.x.l ≤ 1 ∧ r.x.n = 0 ∧ r.nm = ⟨#[]⟩ ∧ r.l.length ≤ 16384) ∨ (r.x.k = 7 ∧ r.x.p = 0 ∧ r.x.t = 0 ∧ r.x.l = 0 ∧ r.x.n = 0 ∧ r.nm = ⟨#[]⟩ ∧ r.l = []))
theorem v2_iff (r : Rec) (hv : r.x.v = 2) : chk r.x r.nm r.l = 0 ↔ V2 r := by
  obtain ⟨x, nm, l⟩ := r
  simp only [V2] at *
  rw [chk_exp, ← toList_nil]
  by_cases hk : 1 ≤ x.k ∧ x.k ≤ 7
  · obtain h | h | h | h | h | h | h : x.k = 1 ∨ x.k = 2 ∨ x.k = 3 ∨ x.k = 4 ∨ x.k = 5 ∨ x.k = 6 ∨ x.k = 7 := by omega
    all_goals
      simp [tagE, Nums.row, tagR, tagRs, fldE, zeroT, Nums.tag, Nums.lo, Nums.hi, Nums.old, datE, hv, h]
      intro _
      constructor <;> (intro hh; simp [hh])
  · constructor
    · intro h; exact absurd h.2.1 hk
    · rintro ⟨_, _, _, _, _, h | h | h | h | h⟩ <;> omega
/-- a record of version 3 without code and pivot is one of version 2 -/
theorem v3_two (r : Rec) (hv : r.x.v = 3) (h0 : r.x.c = 0) (h1 : r.x.i = 0) (hc : chk r.x r.nm r.l = 0) : V2 r := by
  obtain ⟨x, nm, l⟩ := r
  simp only [V2] at *
  rw [chk_exp] at hc
  rw [← toList_nil]
  obtain ⟨_, hk, hs, hh⟩ := hc
  obtain h | h | h | h | h | h | h : x.k = 1 ∨ x.k = 2 ∨ x.k = 3 ∨ x.k = 4 ∨ x.k = 5 ∨ x.k = 6 ∨ x.k = 7 := by omega
  all_goals
    simp [tagE, Nums.row, tagR, tagRs, fldE, zeroT, Nums.tag, Nums.lo, Nums.hi, Nums.old, datE, hv, h, h0, h1] at hh
    simp [h, h0, h1, hs, hh]
end Go.Proofs.YtfnfdbmckpklmaaDoor

/-
  Lift, pure: up and back, down and up.
-/
namespace Go.Proofs.YtfnfdbmckpklmaaDoor
open Go Go.RowKit
open Wb

theorem nbs_bstr (l : List Nat) (h : ok l) : nbs (bstr l) = l := by
  unfold nbs bstr
  simp only [List.map_map]
  conv => rhs; rw [← List.map_id l]
  apply List.map_congr_left
  intro x hx
  exact UInt8.toNat_ofNat_of_lt' (show x < 256 from h x hx)
theorem go11 : (Lft.go 1 1 4).2 = [] := by decide +kernel
theorem go12 : (Lft.go 1 2 4).2 = [0] := by decide +kernel
theorem go13 : (Lft.go 1 3 4).2 = [0, 1] := by decide +kernel
theorem go21 : (Lft.go 2 1 4).2 = [3] := by decide +kernel
theorem go22 : (Lft.go 2 2 4).2 = [] := by decide +kernel
theorem go23 : (Lft.go 2 3 4).2 = [1] := by decide +kernel
theorem go31 : (Lft.go 3 1 4).2 = [2, 3] := by decide +kernel
theorem go32 : (Lft.go 3 2 4).2 = [2] := by decide +kernel
theorem go33 : (Lft.go 3 3 4).2 = [] := by decide +kernel
theorem car11 (r : Rec) (h : r.x.v = 1) : carP 1 r = r := by unfold carP; rw [h, go11]; rfl
theorem car12 (r : Rec) (h : r.x.v = 1) : carP 2 r = cOne r := by unfold carP; rw [h, go12]; rfl
theorem car13 (r : Rec) (h : r.x.v = 1) : carP 3 r = cTwo (cOne r) := by unfold carP; rw [h, go13]; rfl
theorem car21 (r : Rec) (h : r.x.v = 2) : carP 1 r = cBack r := by unfold carP; rw [h, go21]; rfl
theorem car22 (r : Rec) (h : r.x.v = 2) : carP 2 r = r := by unfold carP; rw [h, go22]; rfl
theorem car23 (r : Rec) (h : r.x.v = 2) : carP 3 r = cTwo r := by unfold carP; rw [h, go23]; rfl
theorem car31 (r : Rec) (h : r.x.v = 3) : carP 1 r = cBack (cThree r) := by unfold carP; rw [h, go31]; rfl
theorem car32 (r : Rec) (h : r.x.v = 3) : carP 2 r = cThree r := by unfold carP; rw [h, go32]; rfl
theorem car33 (r : Rec) (h : r.x.v = 3) : carP 3 r = r := by unfold carP; rw [h, go33]; rfl
theorem one_v (r : Rec) : (cOne r).x.v = 2 := by unfold cOne; split; rfl; split; rfl; split <;> rfl
theorem one_s (r : Rec) : (cOne r).x.s = r.x.s := by unfold cOne; split; rfl; split; rfl; split <;> rfl
theorem one_k (r : Rec) : (cOne r).x.k = r.x.k := by unfold cOne; split; rfl; split; rfl; split <;> rfl
theorem back_v (r : Rec) : (cBack r).x.v = 1 := by unfold cBack; split <;> rfl
theorem back_c (r : Rec) : (cOne (cBack r)).x.c = 0 ∧ (cOne (cBack r)).x.i = 0 := by
  have h1 : (cBack r).x.c = 0 ∧ (cBack r).x.i = 0 := by unfold cBack; split <;> exact ⟨rfl, rfl⟩
  unfold cOne
  split
  · exact h1
  · split
    · exact h1
    · split <;> exact h1
theorem one_two (r : Rec) (h : V1 r) : V2 (cOne r) := by
  obtain ⟨⟨v, k, s, p, t, a, b, c, n, i⟩, nm, l⟩ := r
  simp only [V1] at h
  obtain ⟨hs, rfl, rfl, rfl, rfl, rfl, rfl, rfl, hh⟩ := h
  rcases hh with ⟨rfl, h1, h2, h3, h4⟩ | ⟨rfl | rfl, h1, h2, rfl⟩ | ⟨rfl | rfl | rfl, h1, h2, h3⟩ | ⟨rfl, rfl, rfl⟩
  all_goals simp_all [cOne, V2]
theorem one_back (r : Rec) (hv : r.x.v = 1) (hok : ok r.l) (h : V1 r) : cBack (cOne r) = r := by
  obtain ⟨⟨v, k, s, p, t, a, b, c, n, i⟩, nm, l⟩ := r
  have hnb := nbs_bstr l hok
  simp only [V1] at h hv
  obtain ⟨hs, rfl, rfl, rfl, rfl, rfl, rfl, rfl, hh⟩ := h
  subst hv
  rcases hh with ⟨rfl, h1, h2, h3, h4⟩ | ⟨rfl | rfl, h1, h2, rfl⟩ | ⟨rfl | rfl | rfl, h1, h2, h3⟩ | ⟨rfl, rfl, rfl⟩
  all_goals simp [cOne, cBack, hnb]
theorem three_two (r : Rec) (hv : r.x.v = 2) (h : V2 r) : cThree (cTwo r) = r := by
  obtain ⟨⟨v, k, s, p, t, a, b, c, n, i⟩, nm, l⟩ := r
  simp only [V2] at h hv
  obtain ⟨_, _, _, rfl, rfl, _⟩ := h
  subst hv
  rfl
theorem two_ok (r : Rec) (hv : r.x.v = 2) (h : chkR r = 0) : chkR (cTwo r) = 0 := by
  obtain ⟨⟨v, k, s, p, t, a, b, c, n, i⟩, nm, l⟩ := r
  simp only at hv
  subst hv
  exact chk_later ⟨2, k, s, p, t, a, b, c, n, i⟩ nm l h
theorem back_ok1 (r : Rec) (h : V2 r) : V1 (cBack r) := by
  obtain ⟨⟨v, k, s, p, t, a, b, c, n, i⟩, nm, l⟩ := r
  simp only [V2] at h
  obtain ⟨hs, ha, ha2, rfl, rfl, hh⟩ := h
  have hsz : lab nm = 0 → (nbs nm).length ≤ 16384 := fun h => by rw [nbs_len]; have := lab_short nm h; omega
  have hbn := bstr_nbs nm
  rcases hh with ⟨rfl, rfl, rfl, rfl, h1, h2, h3, h4⟩ | ⟨rfl | rfl, h1, h2, h3, h4, rfl, rfl, rfl, rfl⟩ | ⟨rfl | rfl, h1, h2, rfl, rfl, rfl, rfl, h3⟩ | ⟨rfl, h1, h2, rfl, h3, h4, rfl, rfl, h5⟩ | ⟨rfl, rfl, rfl, rfl, rfl, rfl, rfl⟩
  all_goals simp_all [cBack, V1]
theorem three_ok (r : Rec) (hv : r.x.v = 3) (h : chkR r = 0) (hc : r.x.c = 0) (hi : r.x.i = 0) : V2 (cThree r) ∧ cTwo (cThree r) = r := by
  have h2 := v3_two r hv hc hi h
  obtain ⟨⟨v, k, s, p, t, a, b, c, n, i⟩, nm, l⟩ := r
  simp only [V2] at *
  subst hv hc hi
  exact ⟨h2, rfl⟩
/-- what is lifted is valid, and comes back -/
theorem up_back (r : Rec) (t : Int) (hok : ok r.l) (h : chkR r = 0) (h1 : r.x.v ≤ t) (h2 : t ≤ 3) : chkR (carP t r) = 0 ∧ (carP t r).x.v = t ∧ (carP t r).x.s = r.x.s ∧ (carP t r).x.k = r.x.k ∧ carP r.x.v (carP t r) = r := by
  have hv := (chk_exp r.x r.nm r.l).1 h
  obtain hv | hv | hv : r.x.v = 1 ∨ r.x.v = 2 ∨ r.x.v = 3 := by omega
  · have hV := (v1_iff r hv).1 h
    have hV2 := one_two r hV
    have hc2 : chkR (cOne r) = 0 := (v2_iff (cOne r) (one_v r)).2 hV2
    have hb := one_back r hv hok hV
    obtain rfl | rfl | rfl : t = 1 ∨ t = 2 ∨ t = 3 := by omega
    · rw [hv, car11 r hv]
      exact ⟨h, hv, rfl, rfl, car11 r hv⟩
    · rw [hv, car12 r hv, car21 _ (one_v r)]
      exact ⟨hc2, one_v r, one_s r, one_k r, hb⟩
    · rw [hv, car13 r hv, car31 _ rfl, three_two _ (one_v r) hV2]
      exact ⟨two_ok _ (one_v r) hc2, rfl, one_s r, one_k r, hb⟩
  · have hV := (v2_iff r hv).1 h
    obtain rfl | rfl : t = 2 ∨ t = 3 := by omega
    · rw [hv, car22 r hv]
      exact ⟨h, hv, rfl, rfl, car22 r hv⟩
    · rw [hv, car23 r hv, car32 _ rfl, three_two _ hv hV]
      exact ⟨two_ok r hv h, rfl, rfl, rfl, rfl⟩
  · obtain rfl : t = 3 := by omega
    rw [hv, car33 r hv]
    exact ⟨h, hv, rfl, rfl, car33 r hv⟩
/-- what goes down without loss is valid -/
theorem down_ok2 (r : Rec) (t : Int) (h : chkR r = 0) (h1 : 1 ≤ t) (h2 : t ≤ r.x.v) (he : carP r.x.v (carP t r) = r) : chkR (carP t r) = 0 ∧ (carP t r).x.v = t := by
  have hv := (chk_exp r.x r.nm r.l).1 h
  obtain hv | hv | hv : r.x.v = 1 ∨ r.x.v = 2 ∨ r.x.v = 3 := by omega
  · obtain rfl : t = 1 := by omega
    rw [car11 r hv]
    exact ⟨h, hv⟩
  · obtain rfl | rfl : t = 1 ∨ t = 2 := by omega
    · rw [hv, car21 r hv, car12 _ (back_v r)] at he
      rw [car21 r hv]
      exact ⟨(v1_iff _ (back_v r)).2 (back_ok1 r ((v2_iff r hv).1 h)), back_v r⟩
    · rw [car22 r hv]
      exact ⟨h, hv⟩
  · obtain rfl | rfl | rfl : t = 1 ∨ t = 2 ∨ t = 3 := by omega
    · rw [hv, car31 r hv, car13 _ (back_v _)] at he
      have hci := back_c (cThree r)
      have hc : r.x.c = 0 := by rw [← he]; exact hci.1
      have hi : r.x.i = 0 := by rw [← he]; exact hci.2
      obtain ⟨hV2, _⟩ := three_ok r hv h hc hi
      rw [car31 r hv]
      exact ⟨(v1_iff _ (back_v _)).2 (back_ok1 _ hV2), back_v _⟩
    · rw [hv, car32 r hv, car23 _ rfl] at he
      have hc : r.x.c = 0 := by rw [← he]; rfl
      have hi : r.x.i = 0 := by rw [← he]; rfl
      rw [car32 r hv]
      exact ⟨(v2_iff _ rfl).2 (three_ok r hv h hc hi).1, rfl⟩
    · rw [car33 r hv]
      exact ⟨h, hv⟩
theorem eqR_iff (a b : Rec) : eqR a b = true ↔ a = b := by
  obtain ⟨x, nm, l⟩ := a
  obtain ⟨y, nm2, l2⟩ := b
  unfold eqR recEq
  simp only [Bool.and_eq_true, decide_eq_true_eq, Rec.mk.injEq]
  have hn : (nm.toList == nm2.toList) = true ↔ nm = nm2 := by
    rw [beq_iff_eq]
    constructor
    · intro h
      rw [ByteArray.toList_eq, ByteArray.toList_eq] at h
      apply ByteArray.ext
      exact Array.toList_inj.1 h
    · rintro rfl; rfl
  rw [hn]
  constructor
  · rintro ⟨⟨h1, h2⟩, h3⟩; exact ⟨h1, h2, h3⟩
  · rintro ⟨h1, h2, h3⟩; exact ⟨⟨h1, h2⟩, h3⟩
theorem lck_zero {to : Int} {r : Rec} : lckE to r = 0 ↔ chkR r = 0 ∧ 1 ≤ to ∧ to ≤ 3 := by
  unfold lckE
  by_cases hc : chkR r = 0
  · rw [if_neg (by simpa using hc)]
    by_cases ht : 1 ≤ to ∧ to ≤ 3
    · rw [if_pos ht]; exact ⟨fun _ => ⟨hc, ht⟩, fun _ => rfl⟩
    · rw [if_neg ht]; exact ⟨fun h => by simp at h, fun h => absurd h.2 ht⟩
  · rw [if_pos hc]; exact ⟨fun h => absurd h hc, fun h => absurd h.1 hc⟩
theorem up_good {to : Int} {r : Rec} (h : chkR r = 0) (h1 : 1 ≤ to) (h2 : to ≤ 3) (h3 : r.x.v ≤ to) : upP to r = (0, carP to r) := by
  unfold upP
  rw [if_neg (by simpa using lck_zero.2 ⟨h, h1, h2⟩), if_neg (by omega)]
theorem up_zero {to : Int} {r : Rec} (h : (upP to r).1 = 0) : chkR r = 0 ∧ 1 ≤ to ∧ to ≤ 3 ∧ r.x.v ≤ to ∧ (upP to r).2 = carP to r := by
  unfold upP at h ⊢
  by_cases hc : lckE to r = 0
  · rw [if_neg (by simpa using hc)] at h ⊢
    have := lck_zero.1 hc
    by_cases hv : to < r.x.v
    · rw [if_pos hv] at h; simp at h
    · rw [if_neg hv]; exact ⟨this.1, this.2.1, this.2.2, by omega, rfl⟩
  · rw [if_pos hc] at h; exact absurd h hc
theorem up_bad {to : Int} {r : Rec} (h : ¬ (chkR r = 0 ∧ 1 ≤ to ∧ to ≤ 3 ∧ r.x.v ≤ to)) : (upP to r).1 ≠ 0 := fun h0 => h ⟨(up_zero h0).1, (up_zero h0).2.1, (up_zero h0).2.2.1, (up_zero h0).2.2.2.1⟩
theorem down_zero {to : Int} {r : Rec} (h : (downP to r).1 = 0) : chkR r = 0 ∧ 1 ≤ to ∧ to ≤ 3 ∧ to ≤ r.x.v ∧ carP r.x.v (carP to r) = r ∧ (downP to r).2 = carP to r := by
  unfold downP at h ⊢
  by_cases hc : lckE to r = 0
  · rw [if_neg (by simpa using hc)] at h ⊢
    have := lck_zero.1 hc
    by_cases hv : r.x.v < to
    · rw [if_pos hv] at h; simp at h
    · rw [if_neg hv] at h ⊢
      cases he : eqR (carP r.x.v (carP to r)) r with
      | false => rw [he] at h; simp at h
      | true => exact ⟨this.1, this.2.1, this.2.2, by omega, (eqR_iff _ _).1 he, rfl⟩
  · rw [if_pos hc] at h; exact absurd h hc
theorem down_bad {to : Int} {r : Rec} (h : ¬ (chkR r = 0 ∧ 1 ≤ to ∧ to ≤ r.x.v)) : (downP to r).1 ≠ 0 := fun h0 => h ⟨(down_zero h0).1, (down_zero h0).2.1, (down_zero h0).2.2.2.1⟩
theorem down_good {to : Int} {r : Rec} (h : chkR r = 0) (h1 : 1 ≤ to) (h2 : to ≤ 3) (h3 : to ≤ r.x.v) (he : carP r.x.v (carP to r) = r) : downP to r = (0, carP to r) := by
  unfold downP
  rw [if_neg (by simpa using lck_zero.2 ⟨h, h1, h2⟩), if_neg (by omega), (eqR_iff _ _).2 he]
  rfl
theorem down_lossy {to : Int} {r : Rec} (h : chkR r = 0) (h1 : 1 ≤ to) (h2 : to ≤ 3) (h3 : to ≤ r.x.v) (he : ¬ carP r.x.v (carP to r) = r) : downP to r = (40, zRec) := by
  unfold downP
  have : eqR (carP r.x.v (carP to r)) r = false := by
    rw [← Bool.not_eq_true, eqR_iff]
    exact he
  rw [if_neg (by simpa using lck_zero.2 ⟨h, h1, h2⟩), if_neg (by omega), this]
  rfl
/-- fields that fit stay so -/
theorem fit_iff (x : Nums) : x.fit ↔ ((-9223372036854775808 ≤ x.k ∧ x.k ≤ 9223372036854775807) ∧ (-9223372036854775808 ≤ x.s ∧ x.s ≤ 9223372036854775807) ∧ (-9223372036854775808 ≤ x.p ∧ x.p ≤ 9223372036854775807) ∧ (-9223372036854775808 ≤ x.t ∧ x.t ≤ 9223372036854775807) ∧ (-9223372036854775808 ≤ x.a ∧ x.a ≤ 9223372036854775807) ∧ (-9223372036854775808 ≤ x.l ∧ x.l ≤ 9223372036854775807) ∧ (-9223372036854775808 ≤ x.c ∧ x.c ≤ 9223372036854775807) ∧ (-9223372036854775808 ≤ x.n ∧ x.n ≤ 9223372036854775807) ∧ (-9223372036854775808 ≤ x.i ∧ x.i ≤ 9223372036854775807)) := by
  constructor
  · intro h
    exact ⟨h 1 (by omega) (by omega), h 2 (by omega) (by omega), h 3 (by omega) (by omega), h 4 (by omega) (by omega), h 5 (by omega) (by omega), h 6 (by omega) (by omega), h 7 (by omega) (by omega), h 8 (by omega) (by omega), h 9 (by omega) (by omega)⟩
  · rintro ⟨h1, h2, h3, h4, h5, h6, h7, h8, h9⟩ t a b
    obtain rfl | rfl | rfl | rfl | rfl | rfl | rfl | rfl | rfl : t = 1 ∨ t = 2 ∨ t = 3 ∨ t = 4 ∨ t = 5 ∨ t = 6 ∨ t = 7 ∨ t = 8 ∨ t = 9 := by omega
    · exact h1
    · exact h2
    · exact h3
    · exact h4
    · exact h5
    · exact h6
    · exact h7
    · exact h8
    · exact h9
theorem deedP_fit (j : Nat) (r : Rec) (h : r.x.fit) : (deedP j r).x.fit := by
  rw [fit_iff] at *
  unfold deedP
  split
  · unfold cOne
    split
    · simp only; omega
    · split
      · simp only; omega
      · split <;> (simp only; omega)
  · split
    · exact h
    · split
      · simp only [cThree]; omega
      · unfold cBack
        split <;> (simp only; omega)
theorem carL_fit : ∀ (ks : List Nat) (r : Rec), r.x.fit → (carL ks r).x.fit
  | [], _, h => h
  | k :: ks, r, h => carL_fit ks (deedP k r) (deedP_fit k r h)
theorem zRec_fit : zRec.x.fit := by
  rw [fit_iff]
  simp only [zRec, zeroNums]
  omega
end Go.Proofs.YtfnfdbmckpklmaaDoor
