import Derived.Test.YtgjlkkikgkbamaaGreatDoorQDA
/-
  SagaLifted: started.
-/
namespace Go.Proofs.YtgjlkkikgkbamaaGreatDoor
open Go Go.RowKit
open Wb

set_option maxRecDepth 100000 in
set_option maxHeartbeats 8000000 in
theorem sstarted_any (w : World) (hT : Tabs w) (hS : STabs w) : Calls Tryz.prog 4 #[] w fun e w' => e = .returned (.bool true) ∧ Below w.heap.size w w' := by
  have HBO : Hid (∀ w', Below w.heap.size w w' → Calls Tryz.prog 11 #[] w' fun e w'' => e = .returned (.bool true) ∧ Below w'.heap.size w' w'') := fun w' hb => both_any w' (hT.kept hb) (hS.kept hb)
  have HBE : Hid (∀ (d : Value) (w' : World), Below w.heap.size w w' → Bs w' d rec1.l → Calls Tryz.prog 7 #[rv rec1.x rec1.nm d] w' fun e w'' => ∃ h', e = .returned (.tuple #[sv sg1 h', .int .i64 0]) ∧ SgO 0 w'' sg1 h' ∧ Below w'.heap.size w' w'') := fun d w' hb' hd => by
    have e := begin_any rec1 d w' hd (hS.kept hb').e (by decide) first_fit
    rw [first_begin] at e
    exact e.mono fun e w'' ⟨h', e1, e2, e3⟩ => ⟨h', e1, e2.weak (Nat.zero_le _), e3⟩
  clear hT hS
  obtain ⟨Z, hZ⟩ : ∃ Z, Z = zcl := ⟨_, rfl⟩
  obtain ⟨ZR, hZR⟩ : ∃ ZR, ZR = zrl := ⟨_, rfl⟩
  have HZ : Hid (Z = zcl) := hZ
  have HZR : Hid (ZR = zrl) := hZR
  have HZL : Hid (Z.length = 16) := by show _ = _; rw [hZ]; rfl
  have HZRL : Hid (ZR.length = 12) := by show _ = _; rw [hZR]; rfl
  clear hZ hZR
  go_enter Tryz.func4, Tryz.ntmps4
  go_wp2_with fail
  refine (first_any _).mono ?_
  rintro e w1 ⟨a1, c1, h1, rfl, bs1, at1, b1⟩
  have H1 : Hid (Bs w1 (.slice a1 rec1.l.length c1) rec1.l ∧ SgAt w1 sg1 h1 ∧ Below w.heap.size w w1) := ⟨bs1, at1, b1⟩
  clear b1 bs1 at1
  obtain ⟨G1, hG1, hGL, hGE⟩ := rv_letter rec1.x rec1.nm (.slice a1 rec1.l.length c1)
  obtain ⟨D1, hD1, hDL, hDE⟩ := sv_letter sg1 h1
  rw [hG1, hD1]
  have HB1 : Hid (∀ w', Below w.heap.size w w' → Bs w' (.slice a1 rec1.l.length c1) rec1.l → Calls Tryz.prog 7 #[.agg G1.toArray] w' fun e w'' => ∃ h', e = .returned (.tuple #[sv sg1 h', .int .i64 0]) ∧ SgO 0 w'' sg1 h' ∧ Below w'.heap.size w' w'') := fun w' hb' hd => by
    have e := HBE.out _ w' hb' hd
    rw [hG1] at e
    exact e
  have HGL : Hid _ := hGL
  have HDL : Hid _ := hDL
  have HDV : Hid (sv sg1 h1 = .agg D1.toArray) := hD1
  have HG1 : Hid (∀ v ∈ G1, v.oneCell' = true) := by show ∀ v ∈ G1, _; rw [hGE]; exact rcE_one _ _ _ rfl
  have HD1 : Hid (∀ v ∈ D1, v.oneCell' = true) := by show ∀ v ∈ D1, _; rw [hDE]; exact scl_one _ _
  have HGZ : Hid (G1.length = ZR.length) := by show _ = _; rw [hGE, HZRL.out]; rfl
  have HDZ : Hid (D1.length = Z.length) := by show _ = _; rw [hDE, HZL.out]; rfl
  have HT1 : Hid (((w1.alloc (.cells ZR.toArray 27)).alloc (.cells Z.toArray 25)).there w1.heap.size 0 G1.toArray.size) := there_of (lb_new2 w1 ZR Z _ _).1 (by simpa using HGZ.out)
  have HT2 : Hid ((((w1.alloc (.cells ZR.toArray 27)).alloc (.cells Z.toArray 25)).setCells w1.heap.size 0 G1).there (w1.heap.size + 1) 0 D1.toArray.size) := there_of ((lb_new2 w1 ZR Z _ _).2.1.others _ _ _ (by omega)) (by simpa using HDZ.out)
  have H2 : Hid (∃ W2, W2 = (((w1.alloc (.cells ZR.toArray 27)).alloc (.cells Z.toArray 25)).setCells w1.heap.size 0 G1).setCells (w1.heap.size + 1) 0 D1 ∧ LB W2 w1.heap.size 27 G1 ∧ LB W2 (w1.heap.size + 1) 25 D1 ∧ Bs W2 (.slice a1 rec1.l.length c1) rec1.l ∧ SgAt W2 sg1 h1 ∧ Below w.heap.size w W2) := by
    obtain ⟨q1, q2, q3⟩ := two_boxes w1 27 25 ZR Z G1 D1 HGZ.out HDZ.out
    exact ⟨_, rfl, q1, q2, H1.out.1.kept q3, H1.out.2.1.kept q3, andThen H1.out.2.2 q3⟩
  clear hG1 hGL hGE hD1 hDL hDE H1 HBE
  go_wp2_with (first | (refine wpList_alloc_R HZR.out rfl rfl ?_) | (refine wpList_alloc_Z HZ.out rfl rfl ?_; (try simp only [heap_one])) | (refine wpList_store_mid rfl 27 (.tmp 1) (.tmp 7) rfl w1.heap.size 0 G1.toArray rfl rfl HT1.out (by simpa using HGL.out) (all_oneCell_toArray HG1.out) ?_; (rw [List.toList_toArray])) | (refine wpList_store_mid rfl 25 (.tmp 2) (.tmp 8) rfl (w1.heap.size + 1) 0 D1.toArray rfl rfl HT2.out (by simpa using HDL.out) (all_oneCell_toArray HD1.out) ?_; (obtain ⟨W2, hW2, hq⟩ := H2.out); (have H3 : Hid _ := hq); (rw [List.toList_toArray, ← hW2]); (clear hW2 hq H2 HT1 HT2)) | (refine wpList_load_mid rfl 27 _ rfl w1.heap.size 0 rfl G1 _ H3.out.1.range Tryz.underlying27 rfl HGL.out ?_) | fail)
  refine (HB1.out _ H3.out.2.2.2.2 H3.out.2.2.1).mono ?_
  rintro e w3 ⟨h3, rfl, o3, b3⟩
  obtain ⟨D3, hD3, hL3, hE3⟩ := sv_letter sg1 h3
  rw [hD3]
  have HL3 : Hid _ := hL3
  have H13 : Hid (∀ v ∈ D3, v.oneCell' = true) := by show ∀ v ∈ D3, _; rw [hE3]; exact scl_one _ _
  have HZ3 : Hid (D3.length = Z.length) := by show _ = _; rw [hE3, HZL.out]; rfl
  have HSM : Hid (∀ w', SgAt w' sg1 h1 → SgO 0 w' sg1 h3 → Calls Tryz.prog 9 #[.agg D1.toArray, .agg D3.toArray] w' fun e w'' => e = .returned (.bool true) ∧ Below w'.heap.size w' w'') := fun w' k1 k3 => by
    have e := same_any sg1 h1 h3 w' k1 k3.at
    rw [HDV.out, hD3] at e
    exact e
  have HT3 : Hid ((w3.alloc (.cells Z.toArray 25)).there w3.heap.size 0 D3.toArray.size) := there_of (lb_new w3 Z _) (by simpa using HZ3.out)
  have H4 : Hid (∃ W4, W4 = (w3.alloc (.cells Z.toArray 25)).setCells w3.heap.size 0 D3 ∧ LB W4 w3.heap.size 25 D3 ∧ LB W4 (w1.heap.size + 1) 25 D1 ∧ SgAt W4 sg1 h1 ∧ SgO 0 W4 sg1 h3 ∧ Below w.heap.size w W4) := by
    obtain ⟨q1, q3⟩ := one_box w3 25 Z D3 HZ3.out
    exact ⟨_, rfl, q1, (H3.out.2.1.kept b3).kept q3, (H3.out.2.2.2.1.kept b3).kept q3, o3.kept q3, andThen (andThen H3.out.2.2.2.2 b3) q3⟩
  clear hD3 hL3 hE3 o3 b3 H3 HB1
  go_wp2_with (first | (refine wpList_alloc_Z HZ.out rfl rfl ?_) | (refine wpList_store_mid rfl 25 (.tmp 3) (.tmp 12) rfl w3.heap.size 0 D3.toArray rfl rfl HT3.out (by simpa using HL3.out) (all_oneCell_toArray H13.out) ?_; (obtain ⟨W4, hW4, hq⟩ := H4.out); (have H5 : Hid _ := hq); (rw [List.toList_toArray, ← hW4]); (clear hW4 hq H4 HT3)) | fail)
  refine (snum_any 0 _).mono ?_
  rintro e _ ⟨rfl, rfl⟩
  go_wp2_with (first | (refine wpList_load_midG rfl 25 _ rfl (w1.heap.size + 1) 0 rfl D1 _ H5.out.2.1.range Tryz.underlying25 rfl HDL.out ?_) | (refine wpList_load_midG rfl 25 _ rfl w3.heap.size 0 rfl D3 _ H5.out.1.range Tryz.underlying25 rfl HL3.out ?_) | fail)
  refine (HSM.out _ H5.out.2.2.1 H5.out.2.2.2.1).mono ?_
  rintro e w5 ⟨rfl, b5⟩
  have H6 : Hid (Below w.heap.size w w5) := andThen H5.out.2.2.2.2 b5
  clear b5 H5
  go_wp2_with fail
  refine (HBO.out _ H6.out).mono ?_
  rintro e w6 ⟨rfl, b6⟩
  have H7 : Hid (Below w.heap.size w w6) := andThen H6.out b6
  clear b6
  go_wp2_with fail
  go_ret
  exact ⟨rfl, H7.out⟩
/-- what is lifted, is lifted to itself -/
theorem up_facts (r : Rec) (hok : ok r.l) (hf : r.x.fit) (h0 : (upP 3 r).1 = 0) : V3 (upP 3 r).2 ∧ (upP 3 r).2.nm.size ≤ 20000 ∧ (upP 3 r).2.x.fit ∧ (∀ S, applyP S (upP 3 r).2 = applyP S r) ∧ beginP (upP 3 r).2 = beginP r := by
  obtain ⟨hv, h3, _, hs⟩ := up3 r hok h0
  have hu := up_v3 _ hv h3
  have hn : (upP 3 r).2.nm.size ≤ 20000 := by
    obtain ⟨q1, _, _, _, q3⟩ := up_zero h0
    rw [q3]
    exact (carL_small _ r (small_of r hf q1)).1
  refine ⟨hv, hn, fit_v3 _ hv (by rw [hs]; exact (hf 2 (by omega) (by omega)).2), fun S => ?_, ?_⟩
  · unfold applyP
    rw [hu, h0]
  · unfold beginP
    rw [hu, h0]
end Go.Proofs.YtgjlkkikgkbamaaGreatDoor

/-
  SagaLifted: the walk.
-/
namespace Go.Proofs.YtgjlkkikgkbamaaGreatDoor
open Go Go.RowKit
open Wb

set_option maxRecDepth 100000 in
set_option maxHeartbeats 16000000 in
theorem sagaLifted_walk (S : Sg) (h : SH) (r : Rec) (d : Value) (w : World) (k : SgAt w S h) (hb : Bs w d r.l) (hT : Tabs w) (hS : STabs w) (hnm : S.nm.size ≤ 140737488355000) (hnm2 : r.nm.size ≤ 140737488355000) (hf : r.x.fit) :
    Calls Tryz.prog 3 #[sv S h, rv r.x r.nm d] w fun e w' => e = .returned (.bool true) ∧ Below w.heap.size w w' := by
  have HSD : Hid (∀ w', Below w.heap.size w w' → Calls Tryz.prog 4 #[] w' fun e w'' => e = .returned (.bool true) ∧ Below w'.heap.size w' w'') := fun w' hb' => sstarted_any w' (hT.kept hb') (hS.kept hb')
  have HUP0 : ∀ w', Below w.heap.size w w' → Calls Tryz.prog 5 #[rv r.x r.nm d, .int .i64 3] w' fun e w'' => OwnT w' w'' (upP 3 r) e := fun w' hb' => up_O 3 r d w' (hb.kept hb') (hS.kept hb').e hnm2 hf
  have HAR0 : ∀ w', Below w.heap.size w w' → Calls Tryz.prog 8 #[sv S h, rv r.x r.nm d] w' fun e w'' => ∃ h'', e = .returned (.tuple #[sv (applyP S r).2 h'', .int .i64 (applyP S r).1]) ∧ SgO 0 w'' (applyP S r).2 h'' ∧ Below w'.heap.size w' w'' := fun w' hb' =>
    (apply_any S h r d w' (k.kept hb') (hb.kept hb') (hS.kept hb') hnm hnm2 hf).mono fun e w'' ⟨h'', e1, e2, e3⟩ => ⟨h'', e1, e2.weak (Nat.zero_le _), e3⟩
  have HAU0 : (upP 3 r).1 = 0 → ∀ (dv : Value) (w' : World), Below w.heap.size w w' → Bs w' dv (upP 3 r).2.l → Calls Tryz.prog 8 #[sv S h, rv (upP 3 r).2.x (upP 3 r).2.nm dv] w' fun e w'' => ∃ h'', e = .returned (.tuple #[sv (applyP S r).2 h'', .int .i64 (applyP S r).1]) ∧ SgO 0 w'' (applyP S r).2 h'' ∧ Below w'.heap.size w' w'' := fun h0 dv w' hb' hd => by
    obtain ⟨q1, q2, q3, q4, _⟩ := up_facts r hb.good hf h0
    have e := apply_any S h (upP 3 r).2 dv w' (k.kept hb') hd (hS.kept hb') hnm (by omega) q3
    rw [q4 S] at e
    exact e.mono fun e w'' ⟨h'', e1, e2, e3⟩ => ⟨h'', e1, e2.weak (Nat.zero_le _), e3⟩
  have HBR0 : ∀ w', Below w.heap.size w w' → Calls Tryz.prog 7 #[rv r.x r.nm d] w' fun e w'' => ∃ h'', e = .returned (.tuple #[sv (beginP r).2 h'', .int .i64 (beginP r).1]) ∧ SgO 0 w'' (beginP r).2 h'' ∧ Below w'.heap.size w' w'' := fun w' hb' =>
    (begin_any r d w' (hb.kept hb') (hS.kept hb').e hnm2 hf).mono fun e w'' ⟨h'', e1, e2, e3⟩ => ⟨h'', e1, e2.weak (Nat.zero_le _), e3⟩
  have HBU0 : (upP 3 r).1 = 0 → ∀ (dv : Value) (w' : World), Below w.heap.size w w' → Bs w' dv (upP 3 r).2.l → Calls Tryz.prog 7 #[rv (upP 3 r).2.x (upP 3 r).2.nm dv] w' fun e w'' => ∃ h'', e = .returned (.tuple #[sv (beginP r).2 h'', .int .i64 (beginP r).1]) ∧ SgO 0 w'' (beginP r).2 h'' ∧ Below w'.heap.size w' w'' := fun h0 dv w' hb' hd => by
    obtain ⟨q1, q2, q3, _, q5⟩ := up_facts r hb.good hf h0
    have e := begin_any (upP 3 r).2 dv w' hd (hS.kept hb').e (by omega) q3
    rw [q5] at e
    exact e.mono fun e w'' ⟨h'', e1, e2, e3⟩ => ⟨h'', e1, e2.weak (Nat.zero_le _), e3⟩
  have HBZ : Hid ((upP 3 r).1 ≠ 0 → beginP r = ((upP 3 r).1, zSg)) := fun h0 => by unfold beginP; rw [if_pos h0]
  clear k hb hT hS hnm hnm2 hf
  obtain ⟨z, hz⟩ : ∃ z, (upP 3 r).1 = z := ⟨_, rfl⟩
  obtain ⟨u, hu⟩ : ∃ u, (upP 3 r).2 = u := ⟨_, rfl⟩
  have HUP1 : ∀ w', Below w.heap.size w w' → Calls Tryz.prog 5 #[rv r.x r.nm d, .int .i64 3] w' fun e w'' => ∃ ad, ∃ cd : Nat, e = .returned (.tuple #[rv u.x u.nm (.slice ad u.l.length cd), .int .i64 z]) ∧ Bs w'' (.slice ad u.l.length cd) u.l ∧ Below w'.heap.size w' w'' := fun w' hb' => (HUP0 w' hb').mono fun e w'' ⟨ad, cd, he, ho, hb''⟩ => by
    rw [hu, hz] at he
    rw [hu] at ho
    exact ⟨ad, cd, he, ho.bs, hb''⟩
  rw [hz, hu] at HAU0 HBU0
  rw [hz] at HBZ
  clear HUP0 hz hu
  obtain ⟨A, hA⟩ : ∃ A, applyP S r = A := ⟨_, rfl⟩
  obtain ⟨B, hB⟩ : ∃ B, beginP r = B := ⟨_, rfl⟩
  rw [hA] at HAR0 HAU0
  rw [hB] at HBR0 HBU0 HBZ
  clear hA hB
  obtain ⟨Z, hZ⟩ : ∃ Z, Z = zcl := ⟨_, rfl⟩
  obtain ⟨ZR, hZR⟩ : ∃ ZR, ZR = zrl := ⟨_, rfl⟩
  have HZ : Hid (Z = zcl) := hZ
  have HZR : Hid (ZR = zrl) := hZR
  have HZL : Hid (Z.length = 16) := by show _ = _; rw [hZ]; rfl
  have HZRL : Hid (ZR.length = 12) := by show _ = _; rw [hZR]; rfl
  clear hZ hZR
  obtain ⟨D, hD, hL, hE⟩ := sv_letter S h
  obtain ⟨E, hD2, hL2, hE2⟩ := rv_letter r.x r.nm d
  rw [hD2] at HUP1 HBR0
  rw [hD, hD2] at HAR0
  rw [hD] at HAU0
  rw [hD, hD2]
  have HUP : Hid _ := HUP1
  have HAR : Hid _ := HAR0
  have HAU : Hid _ := HAU0
  have HBR : Hid _ := HBR0
  have HBU : Hid _ := HBU0
  have HL : Hid _ := hL
  have HL2 : Hid _ := hL2
  have HX : Hid (LB ((w.alloc (.cells D.toArray 25)).alloc (.cells E.toArray 27)) w.heap.size 25 D ∧ LB ((w.alloc (.cells D.toArray 25)).alloc (.cells E.toArray 27)) (w.heap.size + 1) 27 E ∧ Below w.heap.size w ((w.alloc (.cells D.toArray 25)).alloc (.cells E.toArray 27))) := lb_new2 w D E _ _
  clear hD hL hE hD2 hL2 hE2 HUP1 HAR0 HAU0 HBR0 HBU0
  go_enter Tryz.func3, Tryz.ntmps3
  go_wp2_with fail
  refine (HSD.out _ HX.out.2.2).mono ?_
  rintro e w1 ⟨rfl, b1⟩
  have H1 : Hid (LB w1 w.heap.size 25 D ∧ LB w1 (w.heap.size + 1) 27 E ∧ Below w.heap.size w w1) := ⟨HX.out.1.kept b1, HX.out.2.1.kept b1, andThen HX.out.2.2 b1⟩
  clear b1 HX HSD
  go_wp2_with (first | (refine wpList_load_mid rfl 27 _ rfl (w.heap.size + 1) 0 rfl E _ H1.out.2.1.range Tryz.underlying27 rfl HL2.out ?_) | fail)
  refine (HUP.out _ H1.out.2.2).mono ?_
  rintro e w2 ⟨ad, cd, rfl, bs2, b2⟩
  obtain ⟨G, hG, hGL, hGE⟩ := rv_letter u.x u.nm (.slice ad u.l.length cd)
  rw [hG]
  have HGV : Hid (rv u.x u.nm (.slice ad u.l.length cd) = .agg G.toArray) := hG
  have HGL : Hid _ := hGL
  have HG1 : Hid (∀ v ∈ G, v.oneCell' = true) := by show ∀ v ∈ G, _; rw [hGE]; exact rcE_one _ _ _ rfl
  have HGZ : Hid (G.length = ZR.length) := by show _ = _; rw [hGE, HZRL.out]; rfl
  have HTZ : Hid ((w2.alloc (.cells ZR.toArray 27)).there w2.heap.size 0 G.toArray.size) := there_of (lb_new w2 ZR _) (by simpa using HGZ.out)
  have H2 : Hid (∃ W3, W3 = (w2.alloc (.cells ZR.toArray 27)).setCells w2.heap.size 0 G ∧ LB W3 w.heap.size 25 D ∧ LB W3 (w.heap.size + 1) 27 E ∧ LB W3 w2.heap.size 27 G ∧ Bs W3 (.slice ad u.l.length cd) u.l ∧ Below w.heap.size w W3) := by
    obtain ⟨q1, q2⟩ := one_boxR w2 27 ZR G HGZ.out
    exact ⟨_, rfl, (H1.out.1.kept b2).kept q2, (H1.out.2.1.kept b2).kept q2, q1, bs2.kept q2, andThen (andThen H1.out.2.2 b2) q2⟩
  clear hG hGL hGE bs2 b2 H1 HUP
  go_wp2_with (first | (refine wpList_alloc_R HZR.out rfl rfl ?_) | (refine wpList_store_mid rfl 27 (.tmp 6) (.tmp 22) rfl w2.heap.size 0 G.toArray rfl rfl HTZ.out (by simpa using HGL.out) (all_oneCell_toArray HG1.out) ?_; (obtain ⟨W3, hW3, hq⟩ := H2.out); (have H3 : Hid _ := hq); (rw [List.toList_toArray, ← hW3]); (clear hW3 hq H2 HTZ)) | fail)
  refine (snum_any z _).mono ?_
  rintro e _ ⟨rfl, rfl⟩
  clear HG1 HGZ HZRL
  generalize w2.heap.size = g at *
  cases hz0 : (z != 0) with
  | true =>
    have hBe := HBZ.out (by simpa using hz0)
    subst hBe
    go_wp2_with (first | (refine wpList_load_mid rfl 27 _ rfl (w.heap.size + 1) 0 rfl E _ H3.out.2.1.range Tryz.underlying27 rfl HL2.out ?_) | fail)
    refine (HBR.out _ H3.out.2.2.2.2).mono ?_
    rintro e x ⟨k, rfl, o, b⟩
    obtain ⟨T, hT, hTL, hTE⟩ := sv_letter zSg k
    rw [hT]
    have TL : Hid _ := hTL
    have T1 : Hid (∀ v ∈ T, v.oneCell' = true) := by show ∀ v ∈ T, _; rw [hTE]; exact scl_one _ _
    have TZ : Hid (T.length = Z.length) := by show _ = _; rw [hTE, HZL.out]; rfl
    have TT : Hid ((x.alloc (.cells Z.toArray 25)).there x.heap.size 0 T.toArray.size) := there_of (lb_new x Z _) (by simpa using TZ.out)
    have H4 : Hid (∃ Y, Y = (x.alloc (.cells Z.toArray 25)).setCells x.heap.size 0 T ∧ Below w.heap.size w Y) := ⟨_, rfl, andThen (andThen H3.out.2.2.2.2 b) (one_box x 25 Z T TZ.out).2⟩
    clear hT hTL hTE o b H3 HBR
    go_wp2_with (first | (refine wpList_alloc_Z HZ.out rfl rfl ?_) | (refine wpList_store_mid rfl 25 (.tmp 8) (.tmp 30) rfl x.heap.size 0 T.toArray rfl rfl TT.out (by simpa using TL.out) (all_oneCell_toArray T1.out) ?_; (obtain ⟨Y, hY, hq⟩ := H4.out); (have H5 : Hid (Below w.heap.size w Y) := hq); (rw [List.toList_toArray, ← hY]); (clear hY hq H4 TT)) | fail)
    refine (snum_any z _).mono ?_
    rintro e _ ⟨rfl, rfl⟩
    go_wp2_with fail
    go_ret
    exact ⟨rfl, H5.out⟩
  | false =>
    have hz1 : z = 0 := by simpa using hz0
    have HAG : Hid (∀ w', Below w.heap.size w w' → Bs w' (.slice ad u.l.length cd) u.l → Calls Tryz.prog 8 #[.agg D.toArray, .agg G.toArray] w' fun e w'' => ∃ h'', e = .returned (.tuple #[sv A.2 h'', .int .i64 A.1]) ∧ SgO 0 w'' A.2 h'' ∧ Below w'.heap.size w' w'') := fun w' hb' hd => by have e := HAU.out hz1 _ w' hb' hd; rw [HGV.out] at e; exact e
    have HBG : Hid (∀ w', Below w.heap.size w w' → Bs w' (.slice ad u.l.length cd) u.l → Calls Tryz.prog 7 #[.agg G.toArray] w' fun e w'' => ∃ h'', e = .returned (.tuple #[sv B.2 h'', .int .i64 B.1]) ∧ SgO 0 w'' B.2 h'' ∧ Below w'.heap.size w' w'') := fun w' hb' hd => by have e := HBU.out hz1 _ w' hb' hd; rw [HGV.out] at e; exact e
    obtain ⟨Ae, hAe⟩ : ∃ Ae, A.1 = Ae := ⟨_, rfl⟩
    obtain ⟨As, hAs⟩ : ∃ As, A.2 = As := ⟨_, rfl⟩
    obtain ⟨Be, hBe⟩ : ∃ Be, B.1 = Be := ⟨_, rfl⟩
    obtain ⟨Bsg, hBs⟩ : ∃ Bsg, B.2 = Bsg := ⟨_, rfl⟩
    rw [hAe, hAs] at HAR HAG
    rw [hBe, hBs] at HBR HBG
    clear hAe hAs hBe hBs HAU HBU HBZ HGV hz1
    have S0 : Hid ((LB W3 w.heap.size 25 D ∧ LB W3 (w.heap.size + 1) 27 E ∧ LB W3 g 27 G ∧ Bs W3 (.slice ad u.l.length cd) u.l ∧ Below w.heap.size w W3)) := H3.out
    clear H3
    go_wp2_with (first | (refine wpList_load_mid rfl 25 _ rfl w.heap.size 0 rfl D _ S0.out.1.range Tryz.underlying25 rfl HL.out ?_) | (refine wpList_load_mid rfl 27 _ rfl (w.heap.size + 1) 0 rfl E _ S0.out.2.1.range Tryz.underlying27 rfl HL2.out ?_) | fail)
    refine (HAR.out _ S0.out.2.2.2.2).mono ?_
    rintro e x0 ⟨k0, rfl, o0, b0⟩
    obtain ⟨T0, hT0, hTL0, hTE0⟩ := sv_letter As k0
    rw [hT0]
    have TL0 : Hid _ := hTL0
    have TV0 : Hid (sv As k0 = .agg T0.toArray) := hT0
    have TO0 : Hid (∀ v ∈ T0, v.oneCell' = true) := by show ∀ v ∈ T0, _; rw [hTE0]; exact scl_one _ _
    have TZ0 : Hid (T0.length = Z.length) := by show _ = _; rw [hTE0, HZL.out]; rfl
    have TT0 : Hid ((x0.alloc (.cells Z.toArray 25)).there x0.heap.size 0 T0.toArray.size) := there_of (lb_new x0 Z _) (by simpa using TZ0.out)
    have E0 : Hid (∃ Y0, Y0 = (x0.alloc (.cells Z.toArray 25)).setCells x0.heap.size 0 T0 ∧ ((LB Y0 w.heap.size 25 D ∧ LB Y0 (w.heap.size + 1) 27 E ∧ LB Y0 g 27 G ∧ Bs Y0 (.slice ad u.l.length cd) u.l ∧ Below w.heap.size w Y0) ∧ (LB Y0 x0.heap.size 25 T0 ∧ SgO 0 Y0 As k0))) := ⟨_, rfl, ⟨S0.out.1.kept (andThen b0 (one_box x0 25 Z T0 TZ0.out).2), S0.out.2.1.kept (andThen b0 (one_box x0 25 Z T0 TZ0.out).2), S0.out.2.2.1.kept (andThen b0 (one_box x0 25 Z T0 TZ0.out).2), S0.out.2.2.2.1.kept (andThen b0 (one_box x0 25 Z T0 TZ0.out).2), andThen S0.out.2.2.2.2 (andThen b0 (one_box x0 25 Z T0 TZ0.out).2)⟩, ⟨(one_box x0 25 Z T0 TZ0.out).1, o0.kept (one_box x0 25 Z T0 TZ0.out).2⟩⟩
    clear hT0 hTL0 hTE0 o0 b0 S0
    go_wp2_with (first | (refine wpList_alloc_Z HZ.out rfl rfl ?_) | (refine wpList_store_mid rfl 25 (.tmp 10) (.tmp 42) rfl x0.heap.size 0 T0.toArray rfl rfl TT0.out (by simpa using TL0.out) (all_oneCell_toArray TO0.out) ?_; (obtain ⟨Y0, hY0, hq⟩ := E0.out); (have S1 : Hid ((LB Y0 w.heap.size 25 D ∧ LB Y0 (w.heap.size + 1) 27 E ∧ LB Y0 g 27 G ∧ Bs Y0 (.slice ad u.l.length cd) u.l ∧ Below w.heap.size w Y0) ∧ (LB Y0 x0.heap.size 25 T0 ∧ SgO 0 Y0 As k0)) := hq); (rw [List.toList_toArray, ← hY0]); (clear hY0 hq E0 TT0)) | (refine wpList_load_mid rfl 25 _ rfl w.heap.size 0 rfl D _ S1.out.1.1.range Tryz.underlying25 rfl HL.out ?_) | (refine wpList_load_mid rfl 27 _ rfl g 0 rfl G _ S1.out.1.2.2.1.range Tryz.underlying27 rfl HGL.out ?_) | fail)
    generalize x0.heap.size = p0 at *
    refine (HAG.out _ S1.out.1.2.2.2.2 S1.out.1.2.2.2.1).mono ?_
    rintro e x1 ⟨k1, rfl, o1, b1⟩
    obtain ⟨T1, hT1, hTL1, hTE1⟩ := sv_letter As k1
    rw [hT1]
    have TL1 : Hid _ := hTL1
    have TV1 : Hid (sv As k1 = .agg T1.toArray) := hT1
    have TO1 : Hid (∀ v ∈ T1, v.oneCell' = true) := by show ∀ v ∈ T1, _; rw [hTE1]; exact scl_one _ _
    have TZ1 : Hid (T1.length = Z.length) := by show _ = _; rw [hTE1, HZL.out]; rfl
    have TT1 : Hid ((x1.alloc (.cells Z.toArray 25)).there x1.heap.size 0 T1.toArray.size) := there_of (lb_new x1 Z _) (by simpa using TZ1.out)
    have E1 : Hid (∃ Y1, Y1 = (x1.alloc (.cells Z.toArray 25)).setCells x1.heap.size 0 T1 ∧ ((LB Y1 w.heap.size 25 D ∧ LB Y1 (w.heap.size + 1) 27 E ∧ LB Y1 g 27 G ∧ Bs Y1 (.slice ad u.l.length cd) u.l ∧ Below w.heap.size w Y1) ∧ (LB Y1 p0 25 T0 ∧ SgO 0 Y1 As k0) ∧ (LB Y1 x1.heap.size 25 T1 ∧ SgO 0 Y1 As k1))) := ⟨_, rfl, ⟨S1.out.1.1.kept (andThen b1 (one_box x1 25 Z T1 TZ1.out).2), S1.out.1.2.1.kept (andThen b1 (one_box x1 25 Z T1 TZ1.out).2), S1.out.1.2.2.1.kept (andThen b1 (one_box x1 25 Z T1 TZ1.out).2), S1.out.1.2.2.2.1.kept (andThen b1 (one_box x1 25 Z T1 TZ1.out).2), andThen S1.out.1.2.2.2.2 (andThen b1 (one_box x1 25 Z T1 TZ1.out).2)⟩, ⟨S1.out.2.1.kept (andThen b1 (one_box x1 25 Z T1 TZ1.out).2), S1.out.2.2.kept (andThen b1 (one_box x1 25 Z T1 TZ1.out).2)⟩, ⟨(one_box x1 25 Z T1 TZ1.out).1, o1.kept (one_box x1 25 Z T1 TZ1.out).2⟩⟩
    clear hT1 hTL1 hTE1 o1 b1 S1
    go_wp2_with (first | (refine wpList_alloc_Z HZ.out rfl rfl ?_) | (refine wpList_store_mid rfl 25 (.tmp 12) (.tmp 48) rfl x1.heap.size 0 T1.toArray rfl rfl TT1.out (by simpa using TL1.out) (all_oneCell_toArray TO1.out) ?_; (obtain ⟨Y1, hY1, hq⟩ := E1.out); (have S2 : Hid ((LB Y1 w.heap.size 25 D ∧ LB Y1 (w.heap.size + 1) 27 E ∧ LB Y1 g 27 G ∧ Bs Y1 (.slice ad u.l.length cd) u.l ∧ Below w.heap.size w Y1) ∧ (LB Y1 p0 25 T0 ∧ SgO 0 Y1 As k0) ∧ (LB Y1 x1.heap.size 25 T1 ∧ SgO 0 Y1 As k1)) := hq); (rw [List.toList_toArray, ← hY1]); (clear hY1 hq E1 TT1)) | (refine wpList_load_mid rfl 27 _ rfl (w.heap.size + 1) 0 rfl E _ S2.out.1.2.1.range Tryz.underlying27 rfl HL2.out ?_) | fail)
    generalize x1.heap.size = p1 at *
    refine (HBR.out _ S2.out.1.2.2.2.2).mono ?_
    rintro e x2 ⟨k2, rfl, o2, b2⟩
    obtain ⟨T2, hT2, hTL2, hTE2⟩ := sv_letter Bsg k2
    rw [hT2]
    have TL2 : Hid _ := hTL2
    have TV2 : Hid (sv Bsg k2 = .agg T2.toArray) := hT2
    have TO2 : Hid (∀ v ∈ T2, v.oneCell' = true) := by show ∀ v ∈ T2, _; rw [hTE2]; exact scl_one _ _
    have TZ2 : Hid (T2.length = Z.length) := by show _ = _; rw [hTE2, HZL.out]; rfl
    have TT2 : Hid ((x2.alloc (.cells Z.toArray 25)).there x2.heap.size 0 T2.toArray.size) := there_of (lb_new x2 Z _) (by simpa using TZ2.out)
    have E2 : Hid (∃ Y2, Y2 = (x2.alloc (.cells Z.toArray 25)).setCells x2.heap.size 0 T2 ∧ ((LB Y2 w.heap.size 25 D ∧ LB Y2 (w.heap.size + 1) 27 E ∧ LB Y2 g 27 G ∧ Bs Y2 (.slice ad u.l.length cd) u.l ∧ Below w.heap.size w Y2) ∧ (LB Y2 p0 25 T0 ∧ SgO 0 Y2 As k0) ∧ (LB Y2 p1 25 T1 ∧ SgO 0 Y2 As k1) ∧ (LB Y2 x2.heap.size 25 T2 ∧ SgO 0 Y2 Bsg k2))) := ⟨_, rfl, ⟨S2.out.1.1.kept (andThen b2 (one_box x2 25 Z T2 TZ2.out).2), S2.out.1.2.1.kept (andThen b2 (one_box x2 25 Z T2 TZ2.out).2), S2.out.1.2.2.1.kept (andThen b2 (one_box x2 25 Z T2 TZ2.out).2), S2.out.1.2.2.2.1.kept (andThen b2 (one_box x2 25 Z T2 TZ2.out).2), andThen S2.out.1.2.2.2.2 (andThen b2 (one_box x2 25 Z T2 TZ2.out).2)⟩, ⟨S2.out.2.1.1.kept (andThen b2 (one_box x2 25 Z T2 TZ2.out).2), S2.out.2.1.2.kept (andThen b2 (one_box x2 25 Z T2 TZ2.out).2)⟩, ⟨S2.out.2.2.1.kept (andThen b2 (one_box x2 25 Z T2 TZ2.out).2), S2.out.2.2.2.kept (andThen b2 (one_box x2 25 Z T2 TZ2.out).2)⟩, ⟨(one_box x2 25 Z T2 TZ2.out).1, o2.kept (one_box x2 25 Z T2 TZ2.out).2⟩⟩
    clear hT2 hTL2 hTE2 o2 b2 S2
    go_wp2_with (first | (refine wpList_alloc_Z HZ.out rfl rfl ?_) | (refine wpList_store_mid rfl 25 (.tmp 14) (.tmp 53) rfl x2.heap.size 0 T2.toArray rfl rfl TT2.out (by simpa using TL2.out) (all_oneCell_toArray TO2.out) ?_; (obtain ⟨Y2, hY2, hq⟩ := E2.out); (have S3 : Hid ((LB Y2 w.heap.size 25 D ∧ LB Y2 (w.heap.size + 1) 27 E ∧ LB Y2 g 27 G ∧ Bs Y2 (.slice ad u.l.length cd) u.l ∧ Below w.heap.size w Y2) ∧ (LB Y2 p0 25 T0 ∧ SgO 0 Y2 As k0) ∧ (LB Y2 p1 25 T1 ∧ SgO 0 Y2 As k1) ∧ (LB Y2 x2.heap.size 25 T2 ∧ SgO 0 Y2 Bsg k2)) := hq); (rw [List.toList_toArray, ← hY2]); (clear hY2 hq E2 TT2)) | (refine wpList_load_mid rfl 27 _ rfl g 0 rfl G _ S3.out.1.2.2.1.range Tryz.underlying27 rfl HGL.out ?_) | fail)
    generalize x2.heap.size = p2 at *
    refine (HBG.out _ S3.out.1.2.2.2.2 S3.out.1.2.2.2.1).mono ?_
    rintro e x3 ⟨k3, rfl, o3, b3⟩
    obtain ⟨T3, hT3, hTL3, hTE3⟩ := sv_letter Bsg k3
    rw [hT3]
    have TL3 : Hid _ := hTL3
    have TV3 : Hid (sv Bsg k3 = .agg T3.toArray) := hT3
    have TO3 : Hid (∀ v ∈ T3, v.oneCell' = true) := by show ∀ v ∈ T3, _; rw [hTE3]; exact scl_one _ _
    have TZ3 : Hid (T3.length = Z.length) := by show _ = _; rw [hTE3, HZL.out]; rfl
    have TT3 : Hid ((x3.alloc (.cells Z.toArray 25)).there x3.heap.size 0 T3.toArray.size) := there_of (lb_new x3 Z _) (by simpa using TZ3.out)
    have E3 : Hid (∃ Y3, Y3 = (x3.alloc (.cells Z.toArray 25)).setCells x3.heap.size 0 T3 ∧ ((LB Y3 w.heap.size 25 D ∧ LB Y3 (w.heap.size + 1) 27 E ∧ LB Y3 g 27 G ∧ Bs Y3 (.slice ad u.l.length cd) u.l ∧ Below w.heap.size w Y3) ∧ (LB Y3 p0 25 T0 ∧ SgO 0 Y3 As k0) ∧ (LB Y3 p1 25 T1 ∧ SgO 0 Y3 As k1) ∧ (LB Y3 p2 25 T2 ∧ SgO 0 Y3 Bsg k2) ∧ (LB Y3 x3.heap.size 25 T3 ∧ SgO 0 Y3 Bsg k3))) := ⟨_, rfl, ⟨S3.out.1.1.kept (andThen b3 (one_box x3 25 Z T3 TZ3.out).2), S3.out.1.2.1.kept (andThen b3 (one_box x3 25 Z T3 TZ3.out).2), S3.out.1.2.2.1.kept (andThen b3 (one_box x3 25 Z T3 TZ3.out).2), S3.out.1.2.2.2.1.kept (andThen b3 (one_box x3 25 Z T3 TZ3.out).2), andThen S3.out.1.2.2.2.2 (andThen b3 (one_box x3 25 Z T3 TZ3.out).2)⟩, ⟨S3.out.2.1.1.kept (andThen b3 (one_box x3 25 Z T3 TZ3.out).2), S3.out.2.1.2.kept (andThen b3 (one_box x3 25 Z T3 TZ3.out).2)⟩, ⟨S3.out.2.2.1.1.kept (andThen b3 (one_box x3 25 Z T3 TZ3.out).2), S3.out.2.2.1.2.kept (andThen b3 (one_box x3 25 Z T3 TZ3.out).2)⟩, ⟨S3.out.2.2.2.1.kept (andThen b3 (one_box x3 25 Z T3 TZ3.out).2), S3.out.2.2.2.2.kept (andThen b3 (one_box x3 25 Z T3 TZ3.out).2)⟩, ⟨(one_box x3 25 Z T3 TZ3.out).1, o3.kept (one_box x3 25 Z T3 TZ3.out).2⟩⟩
    clear hT3 hTL3 hTE3 o3 b3 S3
    go_wp2_with (first | (refine wpList_alloc_Z HZ.out rfl rfl ?_) | (refine wpList_store_mid rfl 25 (.tmp 16) (.tmp 58) rfl x3.heap.size 0 T3.toArray rfl rfl TT3.out (by simpa using TL3.out) (all_oneCell_toArray TO3.out) ?_; (obtain ⟨Y3, hY3, hq⟩ := E3.out); (have S4 : Hid ((LB Y3 w.heap.size 25 D ∧ LB Y3 (w.heap.size + 1) 27 E ∧ LB Y3 g 27 G ∧ Bs Y3 (.slice ad u.l.length cd) u.l ∧ Below w.heap.size w Y3) ∧ (LB Y3 p0 25 T0 ∧ SgO 0 Y3 As k0) ∧ (LB Y3 p1 25 T1 ∧ SgO 0 Y3 As k1) ∧ (LB Y3 p2 25 T2 ∧ SgO 0 Y3 Bsg k2) ∧ (LB Y3 x3.heap.size 25 T3 ∧ SgO 0 Y3 Bsg k3)) := hq); (rw [List.toList_toArray, ← hY3]); (clear hY3 hq E3 TT3)) | fail)
    refine (snum_any Ae _).mono ?_
    rintro e _ ⟨rfl, rfl⟩
    generalize x3.heap.size = p3 at *
    have yA : (Ae == Ae) = true := by simp
    have yB : (Be == Be) = true := by simp
    have HS1 : Hid (∀ w', SgO 0 w' As k0 → SgO 0 w' As k1 → Calls Tryz.prog 9 #[.agg T0.toArray, .agg T1.toArray] w' fun e w'' => e = .returned (.bool true) ∧ Below w'.heap.size w' w'') := fun w' q1 q2 => by have e := same_any As k0 k1 w' q1.at q2.at; rw [TV0.out, TV1.out] at e; exact e
    have HS2 : Hid (∀ w', SgO 0 w' Bsg k2 → SgO 0 w' Bsg k3 → Calls Tryz.prog 9 #[.agg T2.toArray, .agg T3.toArray] w' fun e w'' => e = .returned (.bool true) ∧ Below w'.heap.size w' w'') := fun w' q1 q2 => by have e := same_any Bsg k2 k3 w' q1.at q2.at; rw [TV2.out, TV3.out] at e; exact e
    go_wp2_with fail
    refine (snum_any Ae _).mono ?_
    rintro e _ ⟨rfl, rfl⟩
    go_wp2_with (first | (refine wpList_load_midG rfl 25 _ rfl p0 0 rfl T0 _ S4.out.2.1.1.range Tryz.underlying25 rfl TL0.out ?_) | (refine wpList_load_midG rfl 25 _ rfl p1 0 rfl T1 _ S4.out.2.2.1.1.range Tryz.underlying25 rfl TL1.out ?_) | fail)
    refine (HS1.out _ S4.out.2.1.2 S4.out.2.2.1.2).mono ?_
    rintro e y1 ⟨rfl, c1⟩
    have F1 : Hid ((LB y1 p2 25 T2 ∧ SgO 0 y1 Bsg k2) ∧ (LB y1 p3 25 T3 ∧ SgO 0 y1 Bsg k3) ∧ Below w.heap.size w y1) := ⟨⟨S4.out.2.2.2.1.1.kept c1, S4.out.2.2.2.1.2.kept c1⟩, ⟨S4.out.2.2.2.2.1.kept c1, S4.out.2.2.2.2.2.kept c1⟩, andThen S4.out.1.2.2.2.2 c1⟩
    clear c1 S4 HS1
    go_wp2_with fail
    refine (snum_any Be _).mono ?_
    rintro e _ ⟨rfl, rfl⟩
    go_wp2_with fail
    refine (snum_any Be _).mono ?_
    rintro e _ ⟨rfl, rfl⟩
    go_wp2_with (first | (refine wpList_load_midG rfl 25 _ rfl p2 0 rfl T2 _ F1.out.1.1.range Tryz.underlying25 rfl TL2.out ?_) | (refine wpList_load_midG rfl 25 _ rfl p3 0 rfl T3 _ F1.out.2.1.1.range Tryz.underlying25 rfl TL3.out ?_) | fail)
    refine (HS2.out _ F1.out.1.2 F1.out.2.1.2).mono ?_
    rintro e y2 ⟨rfl, c2⟩
    have F2 : Hid (Below w.heap.size w y2) := andThen F1.out.2.2 c2
    clear c2 F1
    go_wp2_with fail
    go_ret
    exact ⟨rfl, F2.out⟩
end Go.Proofs.YtgjlkkikgkbamaaGreatDoor
