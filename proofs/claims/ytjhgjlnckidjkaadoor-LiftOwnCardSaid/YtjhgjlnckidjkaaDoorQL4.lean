import Derived.Deep.RegionHeld
import Derived.Test.YtjhgjlnckidjkaaDoorQL3
import Derived.Test.YtjhgjlnckidjkaaDoorQG1
/-
  Package lift: Down.
-/
namespace Go.Proofs.YtjhgjlnckidjkaaDoor
open Go Go.RowKit
open Wb

set_option maxRecDepth 100000 in
set_option maxHeartbeats 4000000 in
theorem down_loss (to : Int) (r : Rec) (d : Value) (w : World) (h : Bs w d r.l) (hT : LTabs w) (hnm : r.nm.size ≤ 1048576) (hs : r.small) (hc : lckE to r = 0) (hv : ¬ r.x.v < to) (he : eqR (carP r.x.v (carP to r)) r = false) :
    Calls Tryd.prog 28 #[rv r.x r.nm d, .int .i64 to] w fun e w' => ∃ ao, ∃ cap : Nat, e = .returned (.tuple #[rv (downP to r).2.x (downP to r).2.nm (.slice ao (downP to r).2.l.length cap), .int .i64 (downP to r).1]) ∧ Bs w' (.slice ao (downP to r).2.l.length cap) (downP to r).2.l ∧ Below w.heap.size w w' := by
  have HIR : Hid ((Tryd.prog.info? 38).map (·.size) = some 12) := infoRec
  have HX : Hid (∀ o1 o2, ((w.alloc o1).alloc o2).heap[w.heap.size]? = some o1 ∧ ((w.alloc o1).alloc o2).heap[w.heap.size + 1]? = some o2 ∧ Below w.heap.size w ((w.alloc o1).alloc o2)) := fun o1 o2 => heap2 w o1 o2
  have HCK : Hid (∀ w', Below w.heap.size w w' → Calls Tryd.prog 36 #[rv r.x r.nm d, .int .i64 to] w' fun e w'' => e = .returned (.int .i64 (lckE to r)) ∧ Below w'.heap.size w' w'') := fun w' hb' => lcheck_any to r d w' (h.kept hb') (hT.kept hb').tabs hnm
  have HE : Hid (downP to r = (40, zRec)) := by show _ = _; unfold downP; rw [if_neg (by simpa using hc), if_neg hv, he]; rfl
  rw [HE.out]
  rw [hc] at HCK
  have HCA : Hid (∀ w', Below w.heap.size w w' → Calls Tryd.prog 38 #[rv r.x r.nm d, .int .i64 to] w' fun e w'' => ∃ ao, ∃ cap : Nat, e = .returned (rv (carP to r).x (carP to r).nm (.slice ao (carP to r).l.length cap)) ∧ Bs w'' (.slice ao (carP to r).l.length cap) (carP to r).l ∧ Below w'.heap.size w' w'') := fun w' hb' => carry_any to r d w' (h.kept hb') hs (hT.kept hb').ways
  have HSM : Hid (carP to r).small := carL_small _ _ hs
  have HCB : Hid (∀ w' ao' (cap' : Nat), Below w.heap.size w w' → Bs w' (.slice ao' (carP to r).l.length cap') (carP to r).l → Calls Tryd.prog 38 #[rv (carP to r).x (carP to r).nm (.slice ao' (carP to r).l.length cap'), .int .i64 r.x.v] w' fun e w'' => ∃ ao, ∃ cap : Nat, e = .returned (rv (carP r.x.v (carP to r)).x (carP r.x.v (carP to r)).nm (.slice ao (carP r.x.v (carP to r)).l.length cap)) ∧ Bs w'' (.slice ao (carP r.x.v (carP to r)).l.length cap) (carP r.x.v (carP to r)).l ∧ Below w'.heap.size w' w'') := fun w' ao' cap' hb' hbs => carry_any r.x.v (carP to r) _ w' hbs HSM.out (hT.kept hb').ways
  have HB : Hid (∀ w', Below w.heap.size w w' → Bs w' d r.l) := fun w' hb' => h.kept hb'
  obtain ⟨ao, cap, rfl, _⟩ := h.shape
  clear h hT hc HE
  have HEQ : Hid (eqR (carP r.x.v (carP to r)) r = false) := he
  clear he
  generalize carP r.x.v (carP to r) = U at *
  generalize carP to r = Q at *
  have HSA : Hid (∀ w' ao' (cap' : Nat), Bs w' (.slice ao' U.l.length cap') U.l → Bs w' (.slice ao r.l.length cap) r.l → Calls Tryd.prog 41 #[rv U.x U.nm (.slice ao' U.l.length cap'), rv r.x r.nm (.slice ao r.l.length cap)] w' fun e w'' => e = .returned (.bool false) ∧ Below w'.heap.size w' w'') := fun w' ao' cap' a b => (rsame_any U.x r.x U.nm r.nm _ _ U.l r.l w' a b).mono fun e w'' ⟨he, hk⟩ => ⟨by rw [he]; have := HEQ.out; unfold eqR at this; rw [this], hk⟩
  simp only [zRec, zeroNums]
  unfold rv at *
  go_enter Tryd.func28, Tryd.ntmps28
  go_wp2_with fail
  refine (HCK.out _ (HX.out _ _).2.2).mono ?_
  rintro e w1 ⟨rfl, b1⟩
  have hbx : Box w1 w.heap.size r.x r.nm (.slice ao r.l.length cap) := Box.kept (HX.out _ _).1 b1
  have hz : Box w1 (w.heap.size + 1) zeroNums ⟨#[]⟩ (.slice none 0 0) := Box.kept (HX.out _ _).2.1 b1
  have B1 := andThen (HX.out _ _).2.2 b1
  clear b1 HX HCK
  obtain ⟨c0, c1, c2, c3, c4, c5, c6, c7, c8, c9, c10, c11⟩ := hbx.cells
  go_wp2_with fail
  refine (HCA.out _ B1).mono ?_
  rintro e w2 ⟨ao2, cap2, rfl, hb2, b2⟩
  have HK : Hid (Box (w2.alloc (.cells #[.int .i64 Q.x.v, .int .i64 Q.x.k, .int .i64 Q.x.s, .int .i64 Q.x.p, .int .i64 Q.x.t, .int .i64 Q.x.a, .int .i64 Q.x.l, .int .i64 Q.x.c, .int .i64 Q.x.n, .int .i64 Q.x.i, .string Q.nm, .slice ao2 Q.l.length cap2] 38)) w.heap.size r.x r.nm (.slice ao r.l.length cap) ∧ Box (w2.alloc (.cells #[.int .i64 Q.x.v, .int .i64 Q.x.k, .int .i64 Q.x.s, .int .i64 Q.x.p, .int .i64 Q.x.t, .int .i64 Q.x.a, .int .i64 Q.x.l, .int .i64 Q.x.c, .int .i64 Q.x.n, .int .i64 Q.x.i, .string Q.nm, .slice ao2 Q.l.length cap2] 38)) (w.heap.size + 1) zeroNums ⟨#[]⟩ (.slice none 0 0) ∧ Box (w2.alloc (.cells #[.int .i64 Q.x.v, .int .i64 Q.x.k, .int .i64 Q.x.s, .int .i64 Q.x.p, .int .i64 Q.x.t, .int .i64 Q.x.a, .int .i64 Q.x.l, .int .i64 Q.x.c, .int .i64 Q.x.n, .int .i64 Q.x.i, .string Q.nm, .slice ao2 Q.l.length cap2] 38)) w2.heap.size Q.x Q.nm (.slice ao2 Q.l.length cap2) ∧ Bs (w2.alloc (.cells #[.int .i64 Q.x.v, .int .i64 Q.x.k, .int .i64 Q.x.s, .int .i64 Q.x.p, .int .i64 Q.x.t, .int .i64 Q.x.a, .int .i64 Q.x.l, .int .i64 Q.x.c, .int .i64 Q.x.n, .int .i64 Q.x.i, .string Q.nm, .slice ao2 Q.l.length cap2] 38)) (.slice ao2 Q.l.length cap2) Q.l ∧ Below w.heap.size w (w2.alloc (.cells #[.int .i64 Q.x.v, .int .i64 Q.x.k, .int .i64 Q.x.s, .int .i64 Q.x.p, .int .i64 Q.x.t, .int .i64 Q.x.a, .int .i64 Q.x.l, .int .i64 Q.x.c, .int .i64 Q.x.n, .int .i64 Q.x.i, .string Q.nm, .slice ao2 Q.l.length cap2] 38))) := ⟨(hbx.kept b2).kept (up0 _ _), (hz.kept b2).kept (up0 _ _), Array.getElem?_push_size, hb2.alloc _, up (andThen B1 b2) _⟩
  clear c0 c1 c2 c3 c4 c5 c6 c7 c8 c9 c10 c11 hbx hz b2 hb2 B1 HCA
  go_wp2
  have HK' := HK.out
  clear HK
  generalize w2.alloc (.cells #[.int .i64 Q.x.v, .int .i64 Q.x.k, .int .i64 Q.x.s, .int .i64 Q.x.p, .int .i64 Q.x.t, .int .i64 Q.x.a, .int .i64 Q.x.l, .int .i64 Q.x.c, .int .i64 Q.x.n, .int .i64 Q.x.i, .string Q.nm, .slice ao2 Q.l.length cap2] 38) = W at HK' ⊢
  generalize w2.heap.size = g2 at HK' ⊢
  obtain ⟨hx1, hz2, hx2, hbq, BW⟩ := HK'
  have HBX : Hid (∀ w', Below W.heap.size W w' → Box w' w.heap.size r.x r.nm (.slice ao r.l.length cap) ∧ Box w' g2 Q.x Q.nm (.slice ao2 Q.l.length cap2) ∧ Box w' (w.heap.size + 1) zeroNums ⟨#[]⟩ (.slice none 0 0) ∧ Bs w' (.slice ao2 Q.l.length cap2) Q.l ∧ Bs w' (.slice ao r.l.length cap) r.l ∧ Below w.heap.size w w') := fun w' hb => ⟨hx1.kept hb, hx2.kept hb, hz2.kept hb, hbq.kept hb, HB.out _ (andThen BW hb), andThen BW hb⟩
  have HG1 : Hid (∀ w', Below W.heap.size W w' → Calls Tryd.prog 38 #[.agg #[.int .i64 Q.x.v, .int .i64 Q.x.k, .int .i64 Q.x.s, .int .i64 Q.x.p, .int .i64 Q.x.t, .int .i64 Q.x.a, .int .i64 Q.x.l, .int .i64 Q.x.c, .int .i64 Q.x.n, .int .i64 Q.x.i, .string Q.nm, .slice ao2 Q.l.length cap2], .int .i64 r.x.v] w' fun e w'' => ∃ ao, ∃ cap : Nat, e = .returned (.agg #[.int .i64 U.x.v, .int .i64 U.x.k, .int .i64 U.x.s, .int .i64 U.x.p, .int .i64 U.x.t, .int .i64 U.x.a, .int .i64 U.x.l, .int .i64 U.x.c, .int .i64 U.x.n, .int .i64 U.x.i, .string U.nm, .slice ao U.l.length cap]) ∧ Bs w'' (.slice ao U.l.length cap) U.l ∧ Below W.heap.size W w'') := fun w' hb => (HCB.out w' _ _ (andThen BW hb) (hbq.kept hb)).mono fun e w'' ⟨ao, cap, he, hbs, hk⟩ => ⟨ao, cap, he, hbs, andThen hb hk⟩
  have HG2 : Hid (∀ w' ao' (cap' : Nat), Below W.heap.size W w' → Bs w' (.slice ao' U.l.length cap') U.l → Calls Tryd.prog 41 #[.agg #[.int .i64 U.x.v, .int .i64 U.x.k, .int .i64 U.x.s, .int .i64 U.x.p, .int .i64 U.x.t, .int .i64 U.x.a, .int .i64 U.x.l, .int .i64 U.x.c, .int .i64 U.x.n, .int .i64 U.x.i, .string U.nm, .slice ao' U.l.length cap'], .agg #[.int .i64 r.x.v, .int .i64 r.x.k, .int .i64 r.x.s, .int .i64 r.x.p, .int .i64 r.x.t, .int .i64 r.x.a, .int .i64 r.x.l, .int .i64 r.x.c, .int .i64 r.x.n, .int .i64 r.x.i, .string r.nm, .slice ao r.l.length cap]] w' fun e w'' => e = .returned (.bool false) ∧ Below W.heap.size W w'') := fun w' ao' cap' hb hbs => (HSA.out w' _ _ hbs (HB.out _ (andThen BW hb))).mono fun e w'' ⟨he, hk⟩ => ⟨he, andThen hb hk⟩
  clear hx1 hz2 hx2 hbq BW HCB HSA HB
  go_region_held (fun w' => (w'.cell? ⟨w.heap.size, 0, none⟩ = some (.int .i64 r.x.v) ∧ w'.cell? ⟨w.heap.size, 1, none⟩ = some (.int .i64 r.x.k) ∧ w'.cell? ⟨w.heap.size, 2, none⟩ = some (.int .i64 r.x.s) ∧ w'.cell? ⟨w.heap.size, 3, none⟩ = some (.int .i64 r.x.p) ∧ w'.cell? ⟨w.heap.size, 4, none⟩ = some (.int .i64 r.x.t) ∧ w'.cell? ⟨w.heap.size, 5, none⟩ = some (.int .i64 r.x.a) ∧ w'.cell? ⟨w.heap.size, 6, none⟩ = some (.int .i64 r.x.l) ∧ w'.cell? ⟨w.heap.size, 7, none⟩ = some (.int .i64 r.x.c) ∧ w'.cell? ⟨w.heap.size, 8, none⟩ = some (.int .i64 r.x.n) ∧ w'.cell? ⟨w.heap.size, 9, none⟩ = some (.int .i64 r.x.i) ∧ w'.cell? ⟨w.heap.size, 10, none⟩ = some (.string r.nm) ∧ w'.cell? ⟨w.heap.size, 11, none⟩ = some (.slice ao r.l.length cap)) ∧ (w'.cell? ⟨g2, 0, none⟩ = some (.int .i64 Q.x.v) ∧ w'.cell? ⟨g2, 1, none⟩ = some (.int .i64 Q.x.k) ∧ w'.cell? ⟨g2, 2, none⟩ = some (.int .i64 Q.x.s) ∧ w'.cell? ⟨g2, 3, none⟩ = some (.int .i64 Q.x.p) ∧ w'.cell? ⟨g2, 4, none⟩ = some (.int .i64 Q.x.t) ∧ w'.cell? ⟨g2, 5, none⟩ = some (.int .i64 Q.x.a) ∧ w'.cell? ⟨g2, 6, none⟩ = some (.int .i64 Q.x.l) ∧ w'.cell? ⟨g2, 7, none⟩ = some (.int .i64 Q.x.c) ∧ w'.cell? ⟨g2, 8, none⟩ = some (.int .i64 Q.x.n) ∧ w'.cell? ⟨g2, 9, none⟩ = some (.int .i64 Q.x.i) ∧ w'.cell? ⟨g2, 10, none⟩ = some (.string Q.nm) ∧ w'.cell? ⟨g2, 11, none⟩ = some (.slice ao2 Q.l.length cap2)) ∧ Below W.heap.size W w') (exact ⟨(HBX.out _ (by repeat (first | assumption | exact Below.refl _ _ | refine Below.drew ?_))).1.cells, (HBX.out _ (by repeat (first | assumption | exact Below.refl _ _ | refine Below.drew ?_))).2.1.cells, by repeat (first | assumption | exact Below.refl _ _ | refine Below.drew ?_)⟩) (first
    | (go_at_call 38; refine (HG1.out _ (by first | assumption | exact Below.drew (Below.refl _ _))).mono ?_; rintro e w5 ⟨ao5, cap5, rfl, hb5, hk5⟩)
    | (go_at_call 41; refine (HG2.out _ _ _ hk5 hb5).mono ?_; rintro e w6 ⟨rfl, hk6⟩))
  clear hb5 hk5
  have hk : Below W.heap.size W w6 := hk6
  have hz := (HBX.out _ hk).2.2.1
  have B6 := (HBX.out _ hk).2.2.2.2.2
  obtain ⟨z0, z1, z2, z3, z4, z5, z6, z7, z8, z9, z10, z11⟩ := hz.cells
  have f0 := hz.free' 0
  have f1 := hz.free' 1
  have f2 := hz.free' 2
  have f3 := hz.free' 3
  have f4 := hz.free' 4
  have f5 := hz.free' 5
  have f6 := hz.free' 6
  have f7 := hz.free' 7
  have f8 := hz.free' 8
  have f9 := hz.free' 9
  have f10 := hz.free' 10
  have f11 := hz.free' 11
  have HTH : Hid (w6.there (w.heap.size + 1) 0 12) := hz.there
  have HBF : Hid (Below w.heap.size w (w6.setCells (w.heap.size + 1) 0 [.int .i64 0, .int .i64 0, .int .i64 0, .int .i64 0, .int .i64 0, .int .i64 0, .int .i64 0, .int .i64 0, .int .i64 0, .int .i64 0, .string ⟨#[]⟩, .slice none 0 0])) := below_cells (by omega) _ 0 _ B6
  clear hz B6 hk hk6 HBX HG1 HG2
  go_wp2
  have HRG := World.rangeAt_setCells_same w6 (w.heap.size + 1) 0 [.int .i64 0, .int .i64 0, .int .i64 0, .int .i64 0, .int .i64 0, .int .i64 0, .int .i64 0, .int .i64 0, .int .i64 0, .int .i64 0, .string ⟨#[]⟩, .slice none 0 0] HTH.out
  refine bodyPost_ret (results_cell_slot (p := 4) (s := 5) (ty := 38) rfl _ _ (w.heap.size + 1) [.int .i64 0, .int .i64 0, .int .i64 0, .int .i64 0, .int .i64 0, .int .i64 0, .int .i64 0, .int .i64 0, .int .i64 0, .int .i64 0, .string ⟨#[]⟩, .slice none 0 0] _ rfl HRG Tryd.underlying38 rfl HIR.out) rfl ?_
  exact ⟨none, 0, rfl, Bs.nil _, HBF.out⟩
set_option maxRecDepth 100000 in
set_option maxHeartbeats 4000000 in
theorem down_ok (to : Int) (r : Rec) (d : Value) (w : World) (h : Bs w d r.l) (hT : LTabs w) (hnm : r.nm.size ≤ 1048576) (hs : r.small) (hc : lckE to r = 0) (hv : ¬ r.x.v < to) (he : eqR (carP r.x.v (carP to r)) r = true) :
    Calls Tryd.prog 28 #[rv r.x r.nm d, .int .i64 to] w fun e w' => ∃ ao, ∃ cap : Nat, e = .returned (.tuple #[rv (downP to r).2.x (downP to r).2.nm (.slice ao (downP to r).2.l.length cap), .int .i64 (downP to r).1]) ∧ Bs w' (.slice ao (downP to r).2.l.length cap) (downP to r).2.l ∧ Below w.heap.size w w' := by
  have HIR : Hid ((Tryd.prog.info? 38).map (·.size) = some 12) := infoRec
  have HX : Hid (∀ o1 o2, ((w.alloc o1).alloc o2).heap[w.heap.size]? = some o1 ∧ ((w.alloc o1).alloc o2).heap[w.heap.size + 1]? = some o2 ∧ Below w.heap.size w ((w.alloc o1).alloc o2)) := fun o1 o2 => heap2 w o1 o2
  have HCK : Hid (∀ w', Below w.heap.size w w' → Calls Tryd.prog 36 #[rv r.x r.nm d, .int .i64 to] w' fun e w'' => e = .returned (.int .i64 (lckE to r)) ∧ Below w'.heap.size w' w'') := fun w' hb' => lcheck_any to r d w' (h.kept hb') (hT.kept hb').tabs hnm
  have HE : Hid (downP to r = (0, carP to r)) := by show _ = _; unfold downP; rw [if_neg (by simpa using hc), if_neg hv, he]; rfl
  rw [HE.out]
  rw [hc] at HCK
  have HCA : Hid (∀ w', Below w.heap.size w w' → Calls Tryd.prog 38 #[rv r.x r.nm d, .int .i64 to] w' fun e w'' => ∃ ao, ∃ cap : Nat, e = .returned (rv (carP to r).x (carP to r).nm (.slice ao (carP to r).l.length cap)) ∧ Bs w'' (.slice ao (carP to r).l.length cap) (carP to r).l ∧ Below w'.heap.size w' w'') := fun w' hb' => carry_any to r d w' (h.kept hb') hs (hT.kept hb').ways
  have HSM : Hid (carP to r).small := carL_small _ _ hs
  have HCB : Hid (∀ w' ao' (cap' : Nat), Below w.heap.size w w' → Bs w' (.slice ao' (carP to r).l.length cap') (carP to r).l → Calls Tryd.prog 38 #[rv (carP to r).x (carP to r).nm (.slice ao' (carP to r).l.length cap'), .int .i64 r.x.v] w' fun e w'' => ∃ ao, ∃ cap : Nat, e = .returned (rv (carP r.x.v (carP to r)).x (carP r.x.v (carP to r)).nm (.slice ao (carP r.x.v (carP to r)).l.length cap)) ∧ Bs w'' (.slice ao (carP r.x.v (carP to r)).l.length cap) (carP r.x.v (carP to r)).l ∧ Below w'.heap.size w' w'') := fun w' ao' cap' hb' hbs => carry_any r.x.v (carP to r) _ w' hbs HSM.out (hT.kept hb').ways
  have HB : Hid (∀ w', Below w.heap.size w w' → Bs w' d r.l) := fun w' hb' => h.kept hb'
  obtain ⟨ao, cap, rfl, _⟩ := h.shape
  clear h hT hc HE
  have HEQ : Hid (eqR (carP r.x.v (carP to r)) r = true) := he
  clear he
  generalize carP r.x.v (carP to r) = U at *
  generalize carP to r = Q at *
  have HSA : Hid (∀ w' ao' (cap' : Nat), Bs w' (.slice ao' U.l.length cap') U.l → Bs w' (.slice ao r.l.length cap) r.l → Calls Tryd.prog 41 #[rv U.x U.nm (.slice ao' U.l.length cap'), rv r.x r.nm (.slice ao r.l.length cap)] w' fun e w'' => e = .returned (.bool true) ∧ Below w'.heap.size w' w'') := fun w' ao' cap' a b => (rsame_any U.x r.x U.nm r.nm _ _ U.l r.l w' a b).mono fun e w'' ⟨he, hk⟩ => ⟨by rw [he]; have := HEQ.out; unfold eqR at this; rw [this], hk⟩
  have HCL : Hid (∀ w' ao' (cap' : Nat), Bs w' (.slice ao' Q.l.length cap') Q.l → Calls Tryd.prog 37 #[rv Q.x Q.nm (.slice ao' Q.l.length cap')] w' fun e w'' => ∃ ao2, ∃ cap2 : Nat, e = .returned (rv Q.x Q.nm (.slice ao2 Q.l.length cap2)) ∧ Own w'.heap.size w'' (.slice ao2 Q.l.length cap2) Q.l ∧ Below w'.heap.size w' w'') := fun w' ao' cap' hb => (rclone_any Q.x Q.nm _ Q.l w' hb (by have := HSM.out.2; omega)).mono fun e w'' ⟨d', he, ho, hb''⟩ => by
    obtain ⟨ao2, cap2, rfl, _⟩ := ho.bs.shape
    exact ⟨ao2, cap2, he, ho, hb''⟩
  unfold rv at *
  go_enter Tryd.func28, Tryd.ntmps28
  go_wp2_with fail
  refine (HCK.out _ (HX.out _ _).2.2).mono ?_
  rintro e w1 ⟨rfl, b1⟩
  have hbx : Box w1 w.heap.size r.x r.nm (.slice ao r.l.length cap) := Box.kept (HX.out _ _).1 b1
  have hz : Box w1 (w.heap.size + 1) zeroNums ⟨#[]⟩ (.slice none 0 0) := Box.kept (HX.out _ _).2.1 b1
  have B1 := andThen (HX.out _ _).2.2 b1
  clear b1 HX HCK
  obtain ⟨c0, c1, c2, c3, c4, c5, c6, c7, c8, c9, c10, c11⟩ := hbx.cells
  go_wp2_with fail
  refine (HCA.out _ B1).mono ?_
  rintro e w2 ⟨ao2, cap2, rfl, hb2, b2⟩
  have HK : Hid (Box (w2.alloc (.cells #[.int .i64 Q.x.v, .int .i64 Q.x.k, .int .i64 Q.x.s, .int .i64 Q.x.p, .int .i64 Q.x.t, .int .i64 Q.x.a, .int .i64 Q.x.l, .int .i64 Q.x.c, .int .i64 Q.x.n, .int .i64 Q.x.i, .string Q.nm, .slice ao2 Q.l.length cap2] 38)) w.heap.size r.x r.nm (.slice ao r.l.length cap) ∧ Box (w2.alloc (.cells #[.int .i64 Q.x.v, .int .i64 Q.x.k, .int .i64 Q.x.s, .int .i64 Q.x.p, .int .i64 Q.x.t, .int .i64 Q.x.a, .int .i64 Q.x.l, .int .i64 Q.x.c, .int .i64 Q.x.n, .int .i64 Q.x.i, .string Q.nm, .slice ao2 Q.l.length cap2] 38)) (w.heap.size + 1) zeroNums ⟨#[]⟩ (.slice none 0 0) ∧ Box (w2.alloc (.cells #[.int .i64 Q.x.v, .int .i64 Q.x.k, .int .i64 Q.x.s, .int .i64 Q.x.p, .int .i64 Q.x.t, .int .i64 Q.x.a, .int .i64 Q.x.l, .int .i64 Q.x.c, .int .i64 Q.x.n, .int .i64 Q.x.i, .string Q.nm, .slice ao2 Q.l.length cap2] 38)) w2.heap.size Q.x Q.nm (.slice ao2 Q.l.length cap2) ∧ Bs (w2.alloc (.cells #[.int .i64 Q.x.v, .int .i64 Q.x.k, .int .i64 Q.x.s, .int .i64 Q.x.p, .int .i64 Q.x.t, .int .i64 Q.x.a, .int .i64 Q.x.l, .int .i64 Q.x.c, .int .i64 Q.x.n, .int .i64 Q.x.i, .string Q.nm, .slice ao2 Q.l.length cap2] 38)) (.slice ao2 Q.l.length cap2) Q.l ∧ Below w.heap.size w (w2.alloc (.cells #[.int .i64 Q.x.v, .int .i64 Q.x.k, .int .i64 Q.x.s, .int .i64 Q.x.p, .int .i64 Q.x.t, .int .i64 Q.x.a, .int .i64 Q.x.l, .int .i64 Q.x.c, .int .i64 Q.x.n, .int .i64 Q.x.i, .string Q.nm, .slice ao2 Q.l.length cap2] 38))) := ⟨(hbx.kept b2).kept (up0 _ _), (hz.kept b2).kept (up0 _ _), Array.getElem?_push_size, hb2.alloc _, up (andThen B1 b2) _⟩
  clear c0 c1 c2 c3 c4 c5 c6 c7 c8 c9 c10 c11 hbx hz b2 hb2 B1 HCA
  go_wp2
  have HK' := HK.out
  clear HK
  generalize w2.alloc (.cells #[.int .i64 Q.x.v, .int .i64 Q.x.k, .int .i64 Q.x.s, .int .i64 Q.x.p, .int .i64 Q.x.t, .int .i64 Q.x.a, .int .i64 Q.x.l, .int .i64 Q.x.c, .int .i64 Q.x.n, .int .i64 Q.x.i, .string Q.nm, .slice ao2 Q.l.length cap2] 38) = W at HK' ⊢
  generalize w2.heap.size = g2 at HK' ⊢
  obtain ⟨hx1, hz2, hx2, hbq, BW⟩ := HK'
  have HBX : Hid (∀ w', Below W.heap.size W w' → Box w' w.heap.size r.x r.nm (.slice ao r.l.length cap) ∧ Box w' g2 Q.x Q.nm (.slice ao2 Q.l.length cap2) ∧ Box w' (w.heap.size + 1) zeroNums ⟨#[]⟩ (.slice none 0 0) ∧ Bs w' (.slice ao2 Q.l.length cap2) Q.l ∧ Bs w' (.slice ao r.l.length cap) r.l ∧ Below w.heap.size w w') := fun w' hb => ⟨hx1.kept hb, hx2.kept hb, hz2.kept hb, hbq.kept hb, HB.out _ (andThen BW hb), andThen BW hb⟩
  have HG1 : Hid (∀ w', Below W.heap.size W w' → Calls Tryd.prog 38 #[.agg #[.int .i64 Q.x.v, .int .i64 Q.x.k, .int .i64 Q.x.s, .int .i64 Q.x.p, .int .i64 Q.x.t, .int .i64 Q.x.a, .int .i64 Q.x.l, .int .i64 Q.x.c, .int .i64 Q.x.n, .int .i64 Q.x.i, .string Q.nm, .slice ao2 Q.l.length cap2], .int .i64 r.x.v] w' fun e w'' => ∃ ao, ∃ cap : Nat, e = .returned (.agg #[.int .i64 U.x.v, .int .i64 U.x.k, .int .i64 U.x.s, .int .i64 U.x.p, .int .i64 U.x.t, .int .i64 U.x.a, .int .i64 U.x.l, .int .i64 U.x.c, .int .i64 U.x.n, .int .i64 U.x.i, .string U.nm, .slice ao U.l.length cap]) ∧ Bs w'' (.slice ao U.l.length cap) U.l ∧ Below W.heap.size W w'') := fun w' hb => (HCB.out w' _ _ (andThen BW hb) (hbq.kept hb)).mono fun e w'' ⟨ao, cap, he, hbs, hk⟩ => ⟨ao, cap, he, hbs, andThen hb hk⟩
  have HG2 : Hid (∀ w' ao' (cap' : Nat), Below W.heap.size W w' → Bs w' (.slice ao' U.l.length cap') U.l → Calls Tryd.prog 41 #[.agg #[.int .i64 U.x.v, .int .i64 U.x.k, .int .i64 U.x.s, .int .i64 U.x.p, .int .i64 U.x.t, .int .i64 U.x.a, .int .i64 U.x.l, .int .i64 U.x.c, .int .i64 U.x.n, .int .i64 U.x.i, .string U.nm, .slice ao' U.l.length cap'], .agg #[.int .i64 r.x.v, .int .i64 r.x.k, .int .i64 r.x.s, .int .i64 r.x.p, .int .i64 r.x.t, .int .i64 r.x.a, .int .i64 r.x.l, .int .i64 r.x.c, .int .i64 r.x.n, .int .i64 r.x.i, .string r.nm, .slice ao r.l.length cap]] w' fun e w'' => e = .returned (.bool true) ∧ Below W.heap.size W w'') := fun w' ao' cap' hb hbs => (HSA.out w' _ _ hbs (HB.out _ (andThen BW hb))).mono fun e w'' ⟨he, hk⟩ => ⟨he, andThen hb hk⟩
  clear hx1 hz2 hx2 hbq BW HCB HSA HB
  go_region_held (fun w' => (w'.cell? ⟨w.heap.size, 0, none⟩ = some (.int .i64 r.x.v) ∧ w'.cell? ⟨w.heap.size, 1, none⟩ = some (.int .i64 r.x.k) ∧ w'.cell? ⟨w.heap.size, 2, none⟩ = some (.int .i64 r.x.s) ∧ w'.cell? ⟨w.heap.size, 3, none⟩ = some (.int .i64 r.x.p) ∧ w'.cell? ⟨w.heap.size, 4, none⟩ = some (.int .i64 r.x.t) ∧ w'.cell? ⟨w.heap.size, 5, none⟩ = some (.int .i64 r.x.a) ∧ w'.cell? ⟨w.heap.size, 6, none⟩ = some (.int .i64 r.x.l) ∧ w'.cell? ⟨w.heap.size, 7, none⟩ = some (.int .i64 r.x.c) ∧ w'.cell? ⟨w.heap.size, 8, none⟩ = some (.int .i64 r.x.n) ∧ w'.cell? ⟨w.heap.size, 9, none⟩ = some (.int .i64 r.x.i) ∧ w'.cell? ⟨w.heap.size, 10, none⟩ = some (.string r.nm) ∧ w'.cell? ⟨w.heap.size, 11, none⟩ = some (.slice ao r.l.length cap)) ∧ (w'.cell? ⟨g2, 0, none⟩ = some (.int .i64 Q.x.v) ∧ w'.cell? ⟨g2, 1, none⟩ = some (.int .i64 Q.x.k) ∧ w'.cell? ⟨g2, 2, none⟩ = some (.int .i64 Q.x.s) ∧ w'.cell? ⟨g2, 3, none⟩ = some (.int .i64 Q.x.p) ∧ w'.cell? ⟨g2, 4, none⟩ = some (.int .i64 Q.x.t) ∧ w'.cell? ⟨g2, 5, none⟩ = some (.int .i64 Q.x.a) ∧ w'.cell? ⟨g2, 6, none⟩ = some (.int .i64 Q.x.l) ∧ w'.cell? ⟨g2, 7, none⟩ = some (.int .i64 Q.x.c) ∧ w'.cell? ⟨g2, 8, none⟩ = some (.int .i64 Q.x.n) ∧ w'.cell? ⟨g2, 9, none⟩ = some (.int .i64 Q.x.i) ∧ w'.cell? ⟨g2, 10, none⟩ = some (.string Q.nm) ∧ w'.cell? ⟨g2, 11, none⟩ = some (.slice ao2 Q.l.length cap2)) ∧ Below W.heap.size W w') (exact ⟨(HBX.out _ (by repeat (first | assumption | exact Below.refl _ _ | refine Below.drew ?_))).1.cells, (HBX.out _ (by repeat (first | assumption | exact Below.refl _ _ | refine Below.drew ?_))).2.1.cells, by repeat (first | assumption | exact Below.refl _ _ | refine Below.drew ?_)⟩) (first
    | (go_at_call 38; refine (HG1.out _ (by first | assumption | exact Below.drew (Below.refl _ _))).mono ?_; rintro e w5 ⟨ao5, cap5, rfl, hb5, hk5⟩)
    | (go_at_call 41; refine (HG2.out _ _ _ hk5 hb5).mono ?_; rintro e w6 ⟨rfl, hk6⟩))
  clear hb5 hk5
  have hk : Below W.heap.size W w6 := hk6
  have hK6 := HBX.out _ hk
  obtain ⟨c0, c1, c2, c3, c4, c5, c6, c7, c8, c9, c10, c11⟩ := hK6.2.1.cells
  go_wp2_with fail
  refine (HCL.out _ _ _ hK6.2.2.2.1).mono ?_
  rintro e w3 ⟨ao3, cap3, rfl, ho3, b3⟩
  have hz3 := hK6.2.2.1.kept b3
  have B3 := andThen hK6.2.2.2.2.2 b3
  have hlt : w.heap.size + 1 < w6.heap.size := hK6.2.2.1.lt
  obtain ⟨z0, z1, z2, z3, z4, z5, z6, z7, z8, z9, z10, z11⟩ := hz3.cells
  have f0 := hz3.free' 0
  have f1 := hz3.free' 1
  have f2 := hz3.free' 2
  have f3 := hz3.free' 3
  have f4 := hz3.free' 4
  have f5 := hz3.free' 5
  have f6 := hz3.free' 6
  have f7 := hz3.free' 7
  have f8 := hz3.free' 8
  have f9 := hz3.free' 9
  have f10 := hz3.free' 10
  have f11 := hz3.free' 11
  have HTH : Hid (w3.there (w.heap.size + 1) 0 12) := hz3.there
  have HBF : Hid (Below w.heap.size w (w3.setCells (w.heap.size + 1) 0 [.int .i64 Q.x.v, .int .i64 Q.x.k, .int .i64 Q.x.s, .int .i64 Q.x.p, .int .i64 Q.x.t, .int .i64 Q.x.a, .int .i64 Q.x.l, .int .i64 Q.x.c, .int .i64 Q.x.n, .int .i64 Q.x.i, .string Q.nm, .slice ao3 Q.l.length cap3]) ∧ Bs (w3.setCells (w.heap.size + 1) 0 [.int .i64 Q.x.v, .int .i64 Q.x.k, .int .i64 Q.x.s, .int .i64 Q.x.p, .int .i64 Q.x.t, .int .i64 Q.x.a, .int .i64 Q.x.l, .int .i64 Q.x.c, .int .i64 Q.x.n, .int .i64 Q.x.i, .string Q.nm, .slice ao3 Q.l.length cap3]) (.slice ao3 Q.l.length cap3) Q.l) := ⟨below_cells (by omega) _ 0 _ B3, (Own.cells ho3 _ _ _ hlt).bs⟩
  clear c0 c1 c2 c3 c4 c5 c6 c7 c8 c9 c10 c11 hz3 b3 ho3 B3 HCL hK6 hk hk6 HBX HG1 HG2
  go_wp2
  have HRG := World.rangeAt_setCells_same w3 (w.heap.size + 1) 0 [.int .i64 Q.x.v, .int .i64 Q.x.k, .int .i64 Q.x.s, .int .i64 Q.x.p, .int .i64 Q.x.t, .int .i64 Q.x.a, .int .i64 Q.x.l, .int .i64 Q.x.c, .int .i64 Q.x.n, .int .i64 Q.x.i, .string Q.nm, .slice ao3 Q.l.length cap3] HTH.out
  refine bodyPost_ret (results_cell_slot (p := 4) (s := 5) (ty := 38) rfl _ _ (w.heap.size + 1) [.int .i64 Q.x.v, .int .i64 Q.x.k, .int .i64 Q.x.s, .int .i64 Q.x.p, .int .i64 Q.x.t, .int .i64 Q.x.a, .int .i64 Q.x.l, .int .i64 Q.x.c, .int .i64 Q.x.n, .int .i64 Q.x.i, .string Q.nm, .slice ao3 Q.l.length cap3] _ rfl HRG Tryd.underlying38 rfl HIR.out) rfl ?_
  exact ⟨ao3, cap3, rfl, HBF.out.2, HBF.out.1⟩
theorem down_any (to : Int) (r : Rec) (d : Value) (w : World) (h : Bs w d r.l) (hT : LTabs w) (hnm : r.nm.size ≤ 1048576) (hf : r.x.fit) :
    Calls Tryd.prog 28 #[rv r.x r.nm d, .int .i64 to] w fun e w' => ∃ ao, ∃ cap : Nat, e = .returned (.tuple #[rv (downP to r).2.x (downP to r).2.nm (.slice ao (downP to r).2.l.length cap), .int .i64 (downP to r).1]) ∧ Bs w' (.slice ao (downP to r).2.l.length cap) (downP to r).2.l ∧ Below w.heap.size w w' := by
  by_cases hc : lckE to r = 0
  · by_cases hv : r.x.v < to
    · exact down_e2 to r d w h hT hnm hc hv
    · cases he : eqR (carP r.x.v (carP to r)) r with
      | true => exact down_ok to r d w h hT hnm (small_of r hf (chk_of_lck hc)) hc hv he
      | false => exact down_loss to r d w h hT hnm (small_of r hf (chk_of_lck hc)) hc hv he
  · exact down_e1 to r d w h hT hnm hc
end Go.Proofs.YtjhgjlnckidjkaaDoor
