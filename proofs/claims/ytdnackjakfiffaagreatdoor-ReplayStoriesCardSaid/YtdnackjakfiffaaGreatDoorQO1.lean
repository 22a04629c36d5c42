import Derived.Test.YtdnackjakfiffaaGreatDoorQL3
import Derived.Test.YtdnackjakfiffaaGreatDoorQE1
import Derived.Test.YtdnackjakfiffaaGreatDoorQL4
/-
  LiftEmpty, LiftOwn: the tables that lift reads, and no others.
-/
namespace Go.Proofs.YtdnackjakfiffaaGreatDoor
open Go Go.RowKit
open Wb

/-- records that lift may be handed -/
structure OGood (rs : List Rec) : Prop where
  each : ∀ r ∈ rs, r.nm.size ≤ 140737488355000 ∧ r.x.fit ∧ r.l.length ≤ 4194304
  few : rs.length ≤ 1048576
structure ETab (w : World) : Prop where
  lets : Text.TabP 2 .i32 Text.Tx.lets w
  tags : TagsT w
theorem ETab.kept {w w' : World} (h : ETab w) (hb : Below w.heap.size w w') : ETab w' := ⟨h.lets.kept hb, h.tags.kept hb⟩
structure ETabs (w : World) : Prop where
  tabs : ETab w
  ways : Lft.WaysT w
theorem ETabs.kept {w w' : World} (h : ETabs w) (hb : Below w.heap.size w w') : ETabs w' := ⟨h.tabs.kept hb, h.ways.kept hb⟩
set_option maxRecDepth 100000 in
set_option maxHeartbeats 1000000 in
theorem lcheckE_any (to : Int) (r : Rec) (d : Value) (w : World) (h : Bs w d r.l) (hT : ETab w) (hnm : r.nm.size ≤ 140737488355000) :
    Calls Tryz.prog 25 #[rv r.x r.nm d, .int .i64 to] w fun e w' => e = .returned (.int .i64 (lckE to r)) ∧ Below w.heap.size w w' := by
  have HX : Hid (∀ o, Below w.heap.size w (w.alloc o)) := fun o => up0 w o
  have HCK : Hid (∀ w', Below w.heap.size w w' → Calls Tryz.prog 48 #[rv r.x r.nm d] w' fun e w'' => e = .returned (.int .i64 (chkR r)) ∧ Below w'.heap.size w' w'') := fun w' hb' => check_any r.x r.nm d r.l w' (h.kept hb') (hT.kept hb').lets (hT.kept hb').tags (by omega)
  obtain ⟨ao, cap, rfl, _⟩ := h.shape
  clear h hT
  by_cases hc : chkR r = 0
  · by_cases ht : 1 ≤ to ∧ to ≤ 3
    · have HE : Hid (lckE to r = 0) := by show _ = _; unfold lckE; rw [if_neg (by simpa using hc), if_pos ht]
      have HV : Hid ((decide (1 ≤ to) && decide (to ≤ 3)) = true) := by show _ = _; simp [ht.1, ht.2]
      rw [HE.out]
      rw [hc] at HCK
      clear ht
      unfold rv at *
      go_enter Tryz.func25, Tryz.ntmps25
      go_wp2_with fail
      refine (HCK.out _ (HX.out _)).mono ?_
      rintro e w1 ⟨rfl, b1⟩
      have B1 := andThen (HX.out _) b1
      clear b1
      go_wp2_with fail
      refine (Lft.isV_any to _).mono ?_
      rw [HV.out]
      rintro e w2 ⟨rfl, rfl⟩
      go_wp2
      go_ret
      exact ⟨rfl, B1⟩
    · have HE : Hid (lckE to r = 3) := by show _ = _; unfold lckE; rw [if_neg (by simpa using hc), if_neg ht]
      have HV : Hid ((decide (1 ≤ to) && decide (to ≤ 3)) = false) := by
        show _ = _
        rw [Bool.and_eq_false_iff]
        by_cases h1 : 1 ≤ to
        · right; rw [decide_eq_false]; omega
        · left; rw [decide_eq_false]; omega
      rw [HE.out]
      rw [hc] at HCK
      clear ht
      unfold rv at *
      go_enter Tryz.func25, Tryz.ntmps25
      go_wp2_with fail
      refine (HCK.out _ (HX.out _)).mono ?_
      rintro e w1 ⟨rfl, b1⟩
      have B1 := andThen (HX.out _) b1
      clear b1
      go_wp2_with fail
      refine (Lft.isV_any to _).mono ?_
      rw [HV.out]
      rintro e w2 ⟨rfl, rfl⟩
      go_wp2
      go_ret
      exact ⟨rfl, B1⟩
  · have HE : Hid (lckE to r = chkR r) := by show _ = _; unfold lckE; rw [if_pos hc]
    have d1 : (chkR r != 0) = true := by rw [bne_iff_ne]; exact hc
    rw [HE.out]
    clear hc HE
    generalize chkR r = z at *
    unfold rv at *
    go_enter Tryz.func25, Tryz.ntmps25
    go_wp2_with fail
    refine (HCK.out _ (HX.out _)).mono ?_
    rintro e w1 ⟨rfl, b1⟩
    have B1 := andThen (HX.out _) b1
    clear b1
    go_wp2
    go_ret
    exact ⟨rfl, B1⟩
end Go.Proofs.YtdnackjakfiffaaGreatDoor

/-
  Up and Down hand out memory of their own.
-/
namespace Go.Proofs.YtdnackjakfiffaaGreatDoor
open Go Go.RowKit
open Wb

/-- an error and a record whose data is a row of its own -/
def OwnT (w w' : World) (a : Int × Rec) (e : Ending) : Prop := ∃ ao, ∃ cap : Nat, e = .returned (.tuple #[rv a.2.x a.2.nm (.slice ao a.2.l.length cap), .int .i64 a.1]) ∧ Own w.heap.size w' (.slice ao a.2.l.length cap) a.2.l ∧ Below w.heap.size w w'
set_option maxRecDepth 100000 in
set_option maxHeartbeats 4000000 in
theorem up_okO (to : Int) (r : Rec) (d : Value) (w : World) (h : Bs w d r.l) (hT : ETabs w) (hnm : r.nm.size ≤ 140737488355000) (hs : r.small) (hc : lckE to r = 0) (hv : ¬ to < r.x.v) :
    Calls Tryz.prog 11 #[rv r.x r.nm d, .int .i64 to] w fun e w' => ∃ ao, ∃ cap : Nat, e = .returned (.tuple #[rv (upP to r).2.x (upP to r).2.nm (.slice ao (upP to r).2.l.length cap), .int .i64 (upP to r).1]) ∧ Bs w' (.slice ao (upP to r).2.l.length cap) (upP to r).2.l ∧ Own w.heap.size w' (.slice ao (upP to r).2.l.length cap) (upP to r).2.l ∧ Below w.heap.size w w' := by
  have HIR : Hid ((Tryz.prog.info? 32).map (·.size) = some 12) := infoRec
  have HX : Hid (∀ o1 o2, ((w.alloc o1).alloc o2).heap[w.heap.size]? = some o1 ∧ ((w.alloc o1).alloc o2).heap[w.heap.size + 1]? = some o2 ∧ Below w.heap.size w ((w.alloc o1).alloc o2)) := fun o1 o2 => heap2 w o1 o2
  have HCK : Hid (∀ w', Below w.heap.size w w' → Calls Tryz.prog 25 #[rv r.x r.nm d, .int .i64 to] w' fun e w'' => e = .returned (.int .i64 (lckE to r)) ∧ Below w'.heap.size w' w'') := fun w' hb' => lcheckE_any to r d w' (h.kept hb') (hT.kept hb').tabs hnm
  have HE : Hid (upP to r = (0, carP to r)) := by show _ = _; unfold upP; rw [if_neg (by simpa using hc), if_neg hv]
  rw [HE.out]
  rw [hc] at HCK
  have HCA : Hid (∀ w', Below w.heap.size w w' → Calls Tryz.prog 27 #[rv r.x r.nm d, .int .i64 to] w' fun e w'' => ∃ ao, ∃ cap : Nat, e = .returned (rv (carP to r).x (carP to r).nm (.slice ao (carP to r).l.length cap)) ∧ Bs w'' (.slice ao (carP to r).l.length cap) (carP to r).l ∧ Below w'.heap.size w' w'') := fun w' hb' => carry_any to r d w' (h.kept hb') hs (hT.kept hb').ways
  have HSM : Hid (carP to r).small := carL_small _ _ hs
  obtain ⟨ao, cap, rfl, _⟩ := h.shape
  clear h hT hc HE
  generalize carP to r = Q at *
  have HCL : Hid (∀ w' ao' (cap' : Nat), Bs w' (.slice ao' Q.l.length cap') Q.l → Calls Tryz.prog 26 #[rv Q.x Q.nm (.slice ao' Q.l.length cap')] w' fun e w'' => ∃ ao2, ∃ cap2 : Nat, e = .returned (rv Q.x Q.nm (.slice ao2 Q.l.length cap2)) ∧ Own w'.heap.size w'' (.slice ao2 Q.l.length cap2) Q.l ∧ Below w'.heap.size w' w'') := fun w' ao' cap' hb => (rclone_any Q.x Q.nm _ Q.l w' hb (by have := HSM.out.2; omega)).mono fun e w'' ⟨d', he, ho, hb''⟩ => by
    obtain ⟨ao2, cap2, rfl, _⟩ := ho.bs.shape
    exact ⟨ao2, cap2, he, ho, hb''⟩
  unfold rv at *
  go_enter Tryz.func11, Tryz.ntmps11
  go_wp2_with fail
  refine (HCK.out _ (HX.out _ _).2.2).mono ?_
  rintro e w1 ⟨rfl, b1⟩
  have hbx : Box w1 w.heap.size r.x r.nm (.slice ao r.l.length cap) := Box.kept (HX.out _ _).1 b1
  have hz : Box w1 (w.heap.size + 1) zeroNums ⟨#[]⟩ (.slice none 0 0) := Box.kept (HX.out _ _).2.1 b1
  have B1 := andThen (HX.out _ _).2.2 b1
  clear b1 HX HCK
  obtain ⟨c0, c1, c2, c3, c4, c5, c6, c7, c8, c9, c10, c11⟩ := hbx.cells
  go_wp2_with fail
  refine (HCA.out _ B1).mono ?_
  rintro e w2 ⟨ao2, cap2, rfl, hb2, b2⟩
  have hz2 := hz.kept b2
  have B2 := andThen B1 b2
  clear c0 c1 c2 c3 c4 c5 c6 c7 c8 c9 c10 c11 hbx hz b2 HCA
  go_wp2_with fail
  refine (HCL.out _ _ _ hb2).mono ?_
  rintro e w3 ⟨ao3, cap3, rfl, ho3, b3⟩
  have hz3 := hz2.kept b3
  have B3 := andThen B2 b3
  have hlt : w.heap.size + 1 < w2.heap.size := hz2.lt
  obtain ⟨z0, z1, z2, z3, z4, z5, z6, z7, z8, z9, z10, z11⟩ := hz3.cells
  have f0 := hz3.free' 0
  have f1 := hz3.free' 1
  have f2 := hz3.free' 2
  have f3 := hz3.free' 3
  have f4 := hz3.free' 4
  have f5 := hz3.free' 5
  have f6 := hz3.free' 6
  have f7 := hz3.free' 7
  have f8 := hz3.free' 8
  have f9 := hz3.free' 9
  have f10 := hz3.free' 10
  have f11 := hz3.free' 11
  have HTH : Hid (w3.there (w.heap.size + 1) 0 12) := hz3.there
  have HBF : Hid (Below w.heap.size w (w3.setCells (w.heap.size + 1) 0 [.int .i64 Q.x.v, .int .i64 Q.x.k, .int .i64 Q.x.s, .int .i64 Q.x.p, .int .i64 Q.x.t, .int .i64 Q.x.a, .int .i64 Q.x.l, .int .i64 Q.x.c, .int .i64 Q.x.n, .int .i64 Q.x.i, .string Q.nm, .slice ao3 Q.l.length cap3]) ∧ Bs (w3.setCells (w.heap.size + 1) 0 [.int .i64 Q.x.v, .int .i64 Q.x.k, .int .i64 Q.x.s, .int .i64 Q.x.p, .int .i64 Q.x.t, .int .i64 Q.x.a, .int .i64 Q.x.l, .int .i64 Q.x.c, .int .i64 Q.x.n, .int .i64 Q.x.i, .string Q.nm, .slice ao3 Q.l.length cap3]) (.slice ao3 Q.l.length cap3) Q.l) := ⟨below_cells (by omega) _ 0 _ B3, (Own.cells ho3 _ _ _ hlt).bs⟩
  have HOF : Hid (Own w.heap.size (w3.setCells (w.heap.size + 1) 0 [.int .i64 Q.x.v, .int .i64 Q.x.k, .int .i64 Q.x.s, .int .i64 Q.x.p, .int .i64 Q.x.t, .int .i64 Q.x.a, .int .i64 Q.x.l, .int .i64 Q.x.c, .int .i64 Q.x.n, .int .i64 Q.x.i, .string Q.nm, .slice ao3 Q.l.length cap3]) (.slice ao3 Q.l.length cap3) Q.l) := (Own.cells ho3 _ _ _ hlt).mono (by omega)
  clear hz2 hz3 b3 hb2 ho3 B1 B2 B3 HCL
  go_wp2
  have HRG := World.rangeAt_setCells_same w3 (w.heap.size + 1) 0 [.int .i64 Q.x.v, .int .i64 Q.x.k, .int .i64 Q.x.s, .int .i64 Q.x.p, .int .i64 Q.x.t, .int .i64 Q.x.a, .int .i64 Q.x.l, .int .i64 Q.x.c, .int .i64 Q.x.n, .int .i64 Q.x.i, .string Q.nm, .slice ao3 Q.l.length cap3] HTH.out
  refine bodyPost_ret (results_cell_slot (p := 4) (s := 5) (ty := 32) rfl _ _ (w.heap.size + 1) [.int .i64 Q.x.v, .int .i64 Q.x.k, .int .i64 Q.x.s, .int .i64 Q.x.p, .int .i64 Q.x.t, .int .i64 Q.x.a, .int .i64 Q.x.l, .int .i64 Q.x.c, .int .i64 Q.x.n, .int .i64 Q.x.i, .string Q.nm, .slice ao3 Q.l.length cap3] _ rfl HRG Tryz.underlying32 rfl HIR.out) rfl ?_
  exact ⟨ao3, cap3, rfl, HBF.out.2, HOF.out, HBF.out.1⟩
/-- a record without data: what a refused call hands out -/
theorem ownT_zero {P : Program} {f : FuncId} {args : Array Value} {w : World} {z : Int} (h : Calls P f args w fun e w' => ∃ ao, ∃ cap : Nat, e = .returned (.tuple #[rv zRec.x zRec.nm (.slice ao zRec.l.length cap), .int .i64 z]) ∧ ao = none ∧ cap = 0 ∧ Below w.heap.size w w') : Calls P f args w fun e w' => OwnT w w' (z, zRec) e :=
  h.mono fun e w' ⟨ao, cap, he, h1, h2, hb⟩ => by
    subst h1 h2
    exact ⟨none, 0, he, Own.nil _ _, hb⟩
end Go.Proofs.YtdnackjakfiffaaGreatDoor
