import Derived.BigRegion
import Derived.Deep.RegionHeld3
import Derived.Test.YtodcakplmoajiaaDoorGP1
import Derived.Test.YtodcakplmoajiaaDoorGS8
set_option maxRecDepth 100000
set_option maxHeartbeats 4000000
namespace Go.Proofs.YtodcakplmoajiaaDoor
open Go Go.RowKit
open Wb

def fitP (p : Pln) (S : Sg) : Int :=
 if (fErr p).1 ≠ 0 then (fErr p).1 else if chkS S = false then 100
 else if (!(S.nm.toList == p.nm.toList)) = true then 154 else if (S.x.cnt != (p.ss.length : Int)) = true then 154 else if (S.x.piv != p.piv) = true then 154 else 0
def flightP (p : Pln) (S : Sg) : Int := if fitP p S ≠ 0 then fitP p S else if S.x.fl = false then 105 else 0
def deedK (x : SN) : Int :=
 if x.ph = 1 then (if x.fl then 2 else if x.nx < x.cnt then 1 else 5) else if x.ph = 2 then (if x.fl then 4 else if 0 < x.nx then 3 else 6) else 0
structure PA (w : World) (p : Pln) (v : Value) (S : Sg) (h : SH) : Prop where
 s : StsAt w v p.ss
 k : SgAt w S h
 t : Text.TabP 3 .i32 Text.Tx.lets w
 f : PFit p
 n : S.nm.size ≤ 140737488355000
theorem PA.kept {w w' : World} {p : Pln} {v : Value} {S : Sg} {h : SH} (a : PA w p v S h) (hb : Below w.heap.size w w') : PA w' p v S h := ⟨a.s.kept hb, a.k.kept hb, a.t.kept hb, a.f, a.n⟩

theorem pfit_any (p : Pln) (v : Value) (S : Sg) (h : SH) (w : World) (a : PA w p v S h) : Calls Tryd.prog 16 #[plv p v, sv S h] w fun e w' => e = .returned (.int .i64 (fitP p S)) ∧ Below w.heap.size w w' := by
 have HCK0 : ∀ w', Below w.heap.size w w' → Calls Tryd.prog 9 #[plv p v] w' fun e w'' => e = .returned (.int .i64 (fErr p).1) ∧ Below w'.heap.size w' w'' := fun w' hb => pcheck_any p v w' (a.kept hb).s (a.kept hb).t a.f
 have HSC0 : ∀ w', Below w.heap.size w w' → Calls Tryd.prog 26 #[sv S h] w' fun e w'' => e = .returned (.int .i64 (if chkS S then 0 else 100)) ∧ Below w'.heap.size w' w'' := fun w' hb => scheck_any S h w' (a.kept hb).k (a.kept hb).t a.n
 have HR : Hid (fitP p S = if (fErr p).1 ≠ 0 then (fErr p).1 else if chkS S = false then 100 else if (!(S.nm.toList == p.nm.toList)) = true then 154 else if (S.x.cnt != (p.ss.length : Int)) = true then 154 else if (S.x.piv != p.piv) = true then 154 else 0) := rfl
 obtain ⟨ao, cap, rfl, -⟩ := a.s
 generalize fitP p S = R at *
 generalize (fErr p).1 = E at *
 generalize hch : chkS S = ch at *
 clear hch a
 obtain ⟨C, hC, hM, hG⟩ := plv_letter p (.slice ao p.ss.length cap)
 obtain ⟨D, hD, hL, hE⟩ := sv_letter S h
 rw [hC, hD]
 try rw [hC] at HCK0
 try rw [hD] at HCK0
 try rw [hC] at HSC0
 try rw [hD] at HSC0
 have HCK : Hid _ := HCK0
 have HSC : Hid _ := HSC0
 have HM : Hid _ := hM
 have HG : Hid (C = plvl p (.slice ao p.ss.length cap)) := hG
 have HL : Hid _ := hL
 have HE : Hid (D = scl S h) := hE
 clear hC hM hG hD hL hE HCK0 HSC0
 have HXW : Hid (LB ((w.alloc (.cells C.toArray 24)).alloc (.cells D.toArray 28)) w.heap.size 24 C ∧ LB ((w.alloc (.cells C.toArray 24)).alloc (.cells D.toArray 28)) (w.heap.size + 1) 28 D ∧ Below w.heap.size w ((w.alloc (.cells C.toArray 24)).alloc (.cells D.toArray 28))) := lb_new2 w C D 24 28
 go_enter Tryd.func16, Tryd.ntmps16
 go_wp2_with (first | (refine wpList_load_mid rfl 24 _ rfl w.heap.size 0 rfl C _ HXW.out.1.range Tryd.underlying24 rfl HM.out ?_) | (refine wpList_load_mid rfl 28 _ rfl (w.heap.size + 1) 0 rfl D _ HXW.out.2.1.range Tryd.underlying28 rfl HL.out ?_) | (refine wpList_load_midG rfl 24 _ rfl w.heap.size 0 rfl C _ HXW.out.1.range Tryd.underlying24 rfl HM.out ?_) | (refine wpList_load_midG rfl 28 _ rfl (w.heap.size + 1) 0 rfl D _ HXW.out.2.1.range Tryd.underlying28 rfl HL.out ?_) | fail)
 refine (HCK.out _ HXW.out.2.2).mono ?_
 rintro e w1 ⟨rfl, b1⟩
 have H1 : Hid (LB w1 w.heap.size 24 C ∧ LB w1 (w.heap.size + 1) 28 D ∧ Below w.heap.size w w1) := ⟨HXW.out.1.kept b1, HXW.out.2.1.kept b1, andThen HXW.out.2.2 b1⟩
 clear b1 HXW HCK
 by_cases hE : E = 0
 case neg =>
  have hE2 : (E != 0) = true := by simpa using hE
  have HR2 : Hid (R = E) := by show _ = _; rw [HR.out, if_pos hE]
  clear hE
  go_wp2_with fail
  go_ret
  exact ⟨by rw [HR2.out]; rfl, H1.out.2.2⟩
 subst hE
 go_wp2_with (first | (refine wpList_load_mid rfl 24 _ rfl w.heap.size 0 rfl C _ H1.out.1.range Tryd.underlying24 rfl HM.out ?_) | (refine wpList_load_mid rfl 28 _ rfl (w.heap.size + 1) 0 rfl D _ H1.out.2.1.range Tryd.underlying28 rfl HL.out ?_) | (refine wpList_load_midG rfl 24 _ rfl w.heap.size 0 rfl C _ H1.out.1.range Tryd.underlying24 rfl HM.out ?_) | (refine wpList_load_midG rfl 28 _ rfl (w.heap.size + 1) 0 rfl D _ H1.out.2.1.range Tryd.underlying28 rfl HL.out ?_) | fail)
 refine (HSC.out _ H1.out.2.2).mono ?_
 rintro e w2 ⟨rfl, b2⟩
 have H2 : Hid (LB w2 w.heap.size 24 C ∧ LB w2 (w.heap.size + 1) 28 D ∧ Below w.heap.size w w2) := ⟨H1.out.1.kept b2, H1.out.2.1.kept b2, andThen H1.out.2.2 b2⟩
 clear b2 H1 HSC
 cases ch
 case false =>
  go_wp2_with fail
  go_ret
  exact ⟨by rw [HR.out]; rfl, H2.out.2.2⟩
 have c1 := H2.out.2.1.cell 1 (.string S.nm) (by rw [HE.out]; rfl)
 have c2 := H2.out.2.1.cell 2 (.int .i64 S.x.cnt) (by rw [HE.out]; rfl)
 have c3 := H2.out.2.1.cell 3 (.int .i64 S.x.piv) (by rw [HE.out]; rfl)
 have p0 := H2.out.1.cell 0 (.string p.nm) (by rw [HG.out]; rfl)
 have p1 := H2.out.1.cell 1 (.int .i64 p.piv) (by rw [HG.out]; rfl)
 have p2 := H2.out.1.cell 2 (.slice ao p.ss.length cap) (by rw [HG.out]; rfl)
 generalize hq1 : (S.nm.toList == p.nm.toList) = q1 at *
 generalize hq2 : (S.x.cnt != (p.ss.length : Int)) = q2 at *
 generalize hq3 : (S.x.piv != p.piv) = q3 at *
 cases q1
 case false =>
  go_wp2_with fail
  go_ret
  exact ⟨by rw [HR.out]; rfl, H2.out.2.2⟩
 cases q2
 case true =>
  go_wp2_with fail
  go_ret
  exact ⟨by rw [HR.out]; rfl, H2.out.2.2⟩
 cases q3
 case true =>
  go_wp2_with fail
  go_ret
  exact ⟨by rw [HR.out]; rfl, H2.out.2.2⟩
 go_wp2_with fail
 go_ret
 exact ⟨by rw [HR.out]; rfl, H2.out.2.2⟩
theorem pflight_any (p : Pln) (v : Value) (S : Sg) (h : SH) (w : World) (a : PA w p v S h) : Calls Tryd.prog 28 #[plv p v, sv S h] w fun e w' => e = .returned (.int .i64 (flightP p S)) ∧ Below w.heap.size w w' := by
 have HFI0 : ∀ w', Below w.heap.size w w' → Calls Tryd.prog 16 #[plv p v, sv S h] w' fun e w'' => e = .returned (.int .i64 (fitP p S)) ∧ Below w'.heap.size w' w'' := fun w' hb => pfit_any p v S h w' (a.kept hb)
 have HR : Hid (flightP p S = if fitP p S ≠ 0 then fitP p S else if S.x.fl = false then 105 else 0) := rfl
 generalize flightP p S = R at *
 generalize fitP p S = E at *
 clear a
 obtain ⟨C, hC, hM, hG⟩ := plv_letter p v
 obtain ⟨D, hD, hL, hE⟩ := sv_letter S h
 rw [hC, hD]
 try rw [hC] at HFI0
 try rw [hD] at HFI0
 have HFI : Hid _ := HFI0
 have HM : Hid _ := hM
 have HG : Hid (C = plvl p v) := hG
 have HL : Hid _ := hL
 have HE : Hid (D = scl S h) := hE
 clear hC hM hG hD hL hE HFI0
 have HXW : Hid (LB ((w.alloc (.cells C.toArray 24)).alloc (.cells D.toArray 28)) w.heap.size 24 C ∧ LB ((w.alloc (.cells C.toArray 24)).alloc (.cells D.toArray 28)) (w.heap.size + 1) 28 D ∧ Below w.heap.size w ((w.alloc (.cells C.toArray 24)).alloc (.cells D.toArray 28))) := lb_new2 w C D 24 28
 go_enter Tryd.func28, Tryd.ntmps28
 go_wp2_with (first | (refine wpList_load_mid rfl 24 _ rfl w.heap.size 0 rfl C _ HXW.out.1.range Tryd.underlying24 rfl HM.out ?_) | (refine wpList_load_mid rfl 28 _ rfl (w.heap.size + 1) 0 rfl D _ HXW.out.2.1.range Tryd.underlying28 rfl HL.out ?_) | (refine wpList_load_midG rfl 24 _ rfl w.heap.size 0 rfl C _ HXW.out.1.range Tryd.underlying24 rfl HM.out ?_) | (refine wpList_load_midG rfl 28 _ rfl (w.heap.size + 1) 0 rfl D _ HXW.out.2.1.range Tryd.underlying28 rfl HL.out ?_) | fail)
 refine (HFI.out _ HXW.out.2.2).mono ?_
 rintro e w1 ⟨rfl, b1⟩
 have H1 : Hid (LB w1 w.heap.size 24 C ∧ LB w1 (w.heap.size + 1) 28 D ∧ Below w.heap.size w w1) := ⟨HXW.out.1.kept b1, HXW.out.2.1.kept b1, andThen HXW.out.2.2 b1⟩
 clear b1 HXW HFI
 by_cases hE : E = 0
 case neg =>
  have hE2 : (E != 0) = true := by simpa using hE
  have HR2 : Hid (R = E) := by show _ = _; rw [HR.out, if_pos hE]
  clear hE
  go_wp2_with fail
  go_ret
  exact ⟨by rw [HR2.out]; rfl, H1.out.2.2⟩
 subst hE
 have c9 := H1.out.2.1.cell 9 (.bool S.x.fl) (by rw [HE.out]; rfl)
 generalize S.x.fl = q1 at *
 cases q1
 case false =>
  go_wp2_with fail
  go_ret
  exact ⟨by rw [HR.out]; rfl, H1.out.2.2⟩
 go_wp2_with fail
 go_ret
 exact ⟨by rw [HR.out]; rfl, H1.out.2.2⟩
theorem pdeed_any (S : Sg) (h : SH) (w : World) : Calls Tryd.prog 17 #[sv S h] w fun e w' => e = .returned (.int .i64 (deedK S.x)) ∧ Below w.heap.size w w' := by
 have HR : Hid (deedK S.x = if S.x.ph = 1 then (if S.x.fl then 2 else if S.x.nx < S.x.cnt then 1 else 5) else if S.x.ph = 2 then (if S.x.fl then 4 else if 0 < S.x.nx then 3 else 6) else 0) := rfl
 generalize deedK S.x = R at *
 obtain ⟨D, hD, -, hE⟩ := sv_letter S h
 rw [hD]
 have HXW : Hid (Below w.heap.size w (w.alloc (.cells D.toArray 28))) := up0 _ _
 have c2 := (lb_new w D 28).cell 2 (.int .i64 S.x.cnt) (by rw [hE]; rfl)
 have c7 := (lb_new w D 28).cell 7 (.int .i64 S.x.ph) (by rw [hE]; rfl)
 have c8 := (lb_new w D 28).cell 8 (.int .i64 S.x.nx) (by rw [hE]; rfl)
 have c9 := (lb_new w D 28).cell 9 (.bool S.x.fl) (by rw [hE]; rfl)
 clear hD hE
 generalize S.x.cnt = cnt at *
 generalize S.x.ph = ph at *
 generalize S.x.nx = nx at *
 generalize S.x.fl = fl at *
 by_cases h1 : ph = 1
 ·subst h1
  have HR1 : Hid (R = if fl then 2 else if nx < cnt then 1 else 5) := HR.out
  clear HR
  cases fl
  case true =>
   go_enter Tryd.func17, Tryd.ntmps17
   go_wp2_with fail
   go_ret
   exact ⟨by rw [HR1.out]; rfl, HXW.out⟩
  by_cases h2 : nx < cnt
  ·have HR2 : Hid (R = 1) := by show _ = _; rw [HR1.out, if_neg (by decide), if_pos h2]
   go_enter Tryd.func17, Tryd.ntmps17
   go_wp2_with fail
   go_ret
   exact ⟨by rw [HR2.out]; rfl, HXW.out⟩
  ·have HR2 : Hid (R = 5) := by show _ = _; rw [HR1.out, if_neg (by decide), if_neg h2]
   go_enter Tryd.func17, Tryd.ntmps17
   go_wp2_with fail
   go_ret
   exact ⟨by rw [HR2.out]; rfl, HXW.out⟩
 have e1 : (ph == 1) = false := by rw [beq_eq_false_iff_ne]; exact h1
 by_cases h2 : ph = 2
 ·subst h2
  have HR1 : Hid (R = if fl then 4 else if 0 < nx then 3 else 6) := HR.out
  clear HR
  cases fl
  case true =>
   go_enter Tryd.func17, Tryd.ntmps17
   go_wp2_with fail
   go_ret
   exact ⟨by rw [HR1.out]; rfl, HXW.out⟩
  by_cases h3 : 0 < nx
  ·have HR2 : Hid (R = 3) := by show _ = _; rw [HR1.out, if_neg (by decide), if_pos h3]
   go_enter Tryd.func17, Tryd.ntmps17
   go_wp2_with fail
   go_ret
   exact ⟨by rw [HR2.out]; rfl, HXW.out⟩
  ·have HR2 : Hid (R = 6) := by show _ = _; rw [HR1.out, if_neg (by decide), if_neg h3]
   go_enter Tryd.func17, Tryd.ntmps17
   go_wp2_with fail
   go_ret
   exact ⟨by rw [HR2.out]; rfl, HXW.out⟩
 have e2 : (ph == 2) = false := by rw [beq_eq_false_iff_ne]; exact h2
 have HR2 : Hid (R = 0) := by show _ = _; rw [HR.out, if_neg h1, if_neg h2]
 clear h1 h2 HR
 go_enter Tryd.func17, Tryd.ntmps17
 go_wp2_with fail
 go_ret
 exact ⟨by rw [HR2.out]; rfl, HXW.out⟩
theorem ponturn_1 (p : Pln) (v : Value) (S : Sg) (h : SH) (w : World) (i : Nat) (s : Stp) (hs : p.ss[i]? = some s) (a : StsAt w v p.ss) (h1 : S.x.ph = 1) (hn : S.x.nx = (i : Int)) : Calls Tryd.prog 18 #[plv p v, sv S h] w fun e w' => e = .returned (.tuple #[.int .i64 (i : Int), .string s.d]) ∧ Below w.heap.size w w' := by
 have hlt : i < p.ss.length := (List.getElem?_eq_some_iff.1 hs).1
 obtain ⟨ao, cap, rfl, q1, q2, q3⟩ := a
 obtain ⟨b, off, rfl, hr⟩ := q3 i s hs
 unfold maxLen at q2
 obtain ⟨C, hC, hM, hG⟩ := plv_letter p (.slice (some ⟨b, off, none⟩) p.ss.length cap)
 obtain ⟨D, hD, hL, hE⟩ := sv_letter S h
 rw [hC, hD]
 have HX : Hid (∃ W, W = (w.alloc (.cells C.toArray 24)).alloc (.cells D.toArray 28) ∧ W.cell? ⟨w.heap.size, 2, none⟩ = some (.slice (some ⟨b, off, none⟩) p.ss.length cap) ∧ W.cell? ⟨w.heap.size + 1, 7, none⟩ = some (.int .i64 1) ∧ W.cell? ⟨w.heap.size + 1, 8, none⟩ = some (.int .i64 (i : Int)) ∧ W.cell? ⟨b, off + i * 3, none⟩ = some (.string s.d) ∧ Below w.heap.size w W) := by
  obtain ⟨l1, l2, l3⟩ := lb_new2 w C D 24 28
  exact ⟨_, rfl, l1.cell 2 _ (by rw [hG]; rfl), l2.cell 7 _ (by rw [hE, ← h1]; rfl), l2.cell 8 _ (by rw [hE, ← hn]; rfl), range_kept hr l3 0 _ rfl, l3⟩
 have hi1 : (0 : Int) ≤ (i : Int) := by omega
 have hi2 : (i : Int) < (p.ss.length : Int) := by omega
 clear hC hM hG hD hL hE h1 hn q3 hr hs
 go_enter Tryd.func18, Tryd.ntmps18
 go_upto_region 1 with fail
 obtain ⟨W, eW, x0, x1, x2, x3, bW⟩ := HX.out
 rw [← eW]
 have HB : Hid (Below w.heap.size w W) := bW
 clear eW HX bW
 generalize w.heap.size + 1 = g2 at *
 go_upto_region 2 with fail
 go_region_held3 (fun w' => w'.cell? ⟨w.heap.size, 2, none⟩ = some (.slice (some ⟨b, off, none⟩) p.ss.length cap) ∧ w'.cell? ⟨g2, 8, none⟩ = some (.int .i64 (i : Int)) ∧ w'.cell? ⟨b, off + i * 3, none⟩ = some (.string s.d)) (go_keep) (fail)
 go_wp2_with fail
 go_ret2
 exact ⟨rfl, HB.out.drew⟩
theorem ponturn_2 (p : Pln) (v : Value) (S : Sg) (h : SH) (w : World) (i : Nat) (s : Stp) (hs : p.ss[i]? = some s) (hi : i < 1000) (a : StsAt w v p.ss) (h1 : S.x.ph ≠ 1) (hn : S.x.nx = ((i + 1 : Nat) : Int)) : Calls Tryd.prog 18 #[plv p v, sv S h] w fun e w' => e = .returned (.tuple #[.int .i64 (i : Int), .string s.u]) ∧ Below w.heap.size w w' := by
 have hlt : i < p.ss.length := (List.getElem?_eq_some_iff.1 hs).1
 obtain ⟨ao, cap, rfl, q1, q2, q3⟩ := a
 obtain ⟨b, off, rfl, hr⟩ := q3 i s hs
 unfold maxLen at q2
 obtain ⟨C, hC, hM, hG⟩ := plv_letter p (.slice (some ⟨b, off, none⟩) p.ss.length cap)
 obtain ⟨D, hD, hL, hE⟩ := sv_letter S h
 rw [hC, hD]
 obtain ⟨z, hz⟩ : ∃ z : Int, z = ((i + 1 : Nat) : Int) := ⟨_, rfl⟩
 have HX : Hid (∃ W, W = (w.alloc (.cells C.toArray 24)).alloc (.cells D.toArray 28) ∧ W.cell? ⟨w.heap.size, 2, none⟩ = some (.slice (some ⟨b, off, none⟩) p.ss.length cap) ∧ W.cell? ⟨w.heap.size + 1, 7, none⟩ = some (.int .i64 S.x.ph) ∧ W.cell? ⟨w.heap.size + 1, 8, none⟩ = some (.int .i64 z) ∧ W.cell? ⟨b, off + i * 3 + 1, none⟩ = some (.string s.u) ∧ Below w.heap.size w W) := by
  obtain ⟨l1, l2, l3⟩ := lb_new2 w C D 24 28
  exact ⟨_, rfl, l1.cell 2 _ (by rw [hG]; rfl), l2.cell 7 _ (by rw [hE]; rfl), l2.cell 8 _ (by rw [hE, hz, ← hn]; rfl), range_kept hr l3 1 _ rfl, l3⟩
 have hi1 : (0 : Int) ≤ (i : Int) := by omega
 have hi2 : (i : Int) < (p.ss.length : Int) := by omega
 have hw1 : IntKind.wrap .i64 (z - 1) = (i : Int) := by
  have e : z - 1 = (i : Int) := by omega
  rw [e]
  exact IntWalk.i64_in _ (by omega)
 have e1 : (S.x.ph == 1) = false := by rw [beq_eq_false_iff_ne]; exact h1
 generalize S.x.ph = ph at *
 clear hC hM hG hD hL hE h1 hn q3 hr hs hz
 go_enter Tryd.func18, Tryd.ntmps18
 go_upto_region 1 with fail
 obtain ⟨W, eW, x0, x1, x2, x3, bW⟩ := HX.out
 rw [← eW]
 have HB : Hid (Below w.heap.size w W) := bW
 clear eW HX bW
 generalize w.heap.size + 1 = g2 at *
 go_upto_region 3 with fail
 go_region_held3 (fun w' => w'.cell? ⟨w.heap.size, 2, none⟩ = some (.slice (some ⟨b, off, none⟩) p.ss.length cap) ∧ w'.cell? ⟨g2, 8, none⟩ = some (.int .i64 z) ∧ w'.cell? ⟨b, off + i * 3 + 1, none⟩ = some (.string s.u)) (go_keep) (fail)
 go_wp2_with fail
 go_ret2
 exact ⟨by first | rfl | (simp [hw1]), HB.out.drew⟩
end Go.Proofs.YtodcakplmoajiaaDoor
