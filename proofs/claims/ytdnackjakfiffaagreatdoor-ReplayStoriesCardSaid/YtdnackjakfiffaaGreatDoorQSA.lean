import Derived.Test.YtdnackjakfiffaaGreatDoorQS9
/-
  Package saga: Apply, a record of kind 2 to 7 that may come.
-/
namespace Go.Proofs.YtdnackjakfiffaaGreatDoor
open Go Go.RowKit
open Wb

set_option maxRecDepth 100000 in
set_option maxHeartbeats 4000000 in
theorem apply_m (S : Sg) (h : SH) (r : Rec) (d : Value) (w : World) (k : SgAt w S h) (hb : Bs w d r.l) (hT : STabs w) (hnm : S.nm.size ≤ 140737488355000) (hnm2 : r.nm.size ≤ 140737488355000) (hf : r.x.fit) (hc : chkS S = true) (h0 : (upP 3 r).1 = 0) (h1 : refP S.x (upP 3 r).2.x = 0) (hk : 2 ≤ (upP 3 r).2.x.k ∧ (upP 3 r).2.x.k ≤ 7) : Calls Tryz.prog 73 #[sv S h, rv r.x r.nm d] w fun e w' => ApPost w (0, deedS S (upP 3 r).2) e w' := by
  have HCK0 : ∀ w', Below w.heap.size w w' → Calls Tryz.prog 15 #[sv S h] w' fun e w'' => e = .returned (.int .i64 0) ∧ Below w'.heap.size w' w'' := fun w' hb' => by have e := scheck_any S h w' (k.kept hb') (hT.kept hb').e.tabs.lets hnm; rw [hc] at e; exact e
  have HUP0 : ∀ w', Below w.heap.size w w' → Calls Tryz.prog 11 #[rv r.x r.nm d, .int .i64 3] w' fun e w'' => OwnT w' w'' (upP 3 r) e := fun w' hb' => up_O 3 r d w' (hb.kept hb') (hT.kept hb').e hnm2 hf
  have HKT : Hid (∀ w', Below w.heap.size w w' → KindsT w') := fun w' hb' => (hT.kept hb').k
  have HBN : Hid ((0 ≤ S.x.nx ∧ S.x.nx ≤ 32) ∧ (0 ≤ S.x.tr ∧ S.x.tr ≤ 1000)) := bnd_of S hc
  have HV3 : Hid (V3 (upP 3 r).2) := (up3 r hb.good h0).1
  have HCL0 : ∀ w', Below w.heap.size w w' → Calls Tryz.prog 47 #[sv S h] w' fun e w'' => ∃ h', e = .returned (sv S h') ∧ SgOwn w'.heap.size w'' S h' ∧ Below w'.heap.size w' w'' := fun w' hb' => sclone_any S h w' (k.kept hb') (light_of S hc)
  obtain ⟨Z, hZ⟩ : ∃ Z, Z = zcl := ⟨_, rfl⟩
  have HZ : Hid (Z = zcl) := hZ
  have HZL : Hid (Z.length = 16) := by show _ = _; rw [hZ]; rfl
  have HZI : Hid ((Tryz.prog.info? 43).map (·.size) = some Z.length) := by show _ = _; rw [hZ]; exact infoSaga
  have HZ1 : Hid (∀ v ∈ Z, v.oneCell' = true) := by show ∀ v ∈ Z, _; rw [hZ]; exact scl_one zSg ⟨none, 0, none, 0, none, 0, none, 0⟩
  clear hZ
  obtain ⟨D, hD, hL, hE⟩ := sv_letter S h
  obtain ⟨E, hD2, hL2, hE2⟩ := rv_letter r.x r.nm d
  rw [hD, hD2]
  rw [hD] at HCK0
  rw [hD2] at HUP0
  have HUP : Hid _ := HUP0
  have HCK : Hid _ := HCK0
  have HL : Hid _ := hL
  have HE : Hid (D = scl S h) := hE
  have HL2 : Hid _ := hL2
  have HX : Hid (∀ t t2 t3, LB (((w.alloc (.cells D.toArray t)).alloc (.cells E.toArray t2)).alloc (.cells Z.toArray t3)) w.heap.size t D ∧ LB (((w.alloc (.cells D.toArray t)).alloc (.cells E.toArray t2)).alloc (.cells Z.toArray t3)) (w.heap.size + 1) t2 E ∧ LB (((w.alloc (.cells D.toArray t)).alloc (.cells E.toArray t2)).alloc (.cells Z.toArray t3)) (w.heap.size + 1 + 1) t3 Z ∧ Below w.heap.size w (((w.alloc (.cells D.toArray t)).alloc (.cells E.toArray t2)).alloc (.cells Z.toArray t3))) := fun t t2 t3 => lb_new3 w D E Z t t2 t3
  clear hD hL hE hD2 hL2 hE2 HCK0 HUP0
  go_enter Tryz.func73, Tryz.ntmps73
  go_wp2_with (first | (refine wpList_alloc_Z HZ.out rfl rfl ?_) | (refine wpList_load_mid rfl 43 _ rfl w.heap.size 0 rfl D _ (HX.out _ _ _).1.range Tryz.underlying43 rfl HL.out ?_))
  refine (HCK.out _ (HX.out _ _ _).2.2.2).mono ?_
  rintro e w1 ⟨rfl, b1⟩
  have H1 : Hid (LB w1 w.heap.size 43 D ∧ LB w1 (w.heap.size + 1) 32 E ∧ LB w1 (w.heap.size + 1 + 1) 43 Z ∧ Below w.heap.size w w1) := ⟨(HX.out _ _ _).1.kept b1, (HX.out _ _ _).2.1.kept b1, (HX.out _ _ _).2.2.1.kept b1, andThen (HX.out _ _ _).2.2.2 b1⟩
  clear b1 HX HCK
  clear k hT hnm hnm2 hf hb
  go_wp2_with (refine wpList_load_mid rfl 32 _ rfl (w.heap.size + 1) 0 rfl E _ H1.out.2.1.range Tryz.underlying32 rfl HL2.out ?_)
  refine (HUP.out _ H1.out.2.2.2).mono ?_
  rintro e w2 ⟨ad, cd, rfl, ho2, b2⟩
  have H2 : Hid (LB w2 w.heap.size 43 D ∧ LB w2 (w.heap.size + 1 + 1) 43 Z ∧ Own (w.heap.size + 3) w2 (.slice ad (upP 3 r).2.l.length cd) (upP 3 r).2.l ∧ Below w.heap.size w w2) := ⟨H1.out.1.kept b2, H1.out.2.2.1.kept b2, own_weak ho2 H1.out.2.2.1.lt, andThen H1.out.2.2.2 b2⟩
  clear b2 ho2 H1 HUP HL2
  obtain ⟨u, hu⟩ : ∃ u, (upP 3 r).2 = u := ⟨_, rfl⟩
  have HU : Hid ((upP 3 r).2 = u) := hu
  rw [hu] at H2 ⊢
  clear hu
  rw [h0]
  obtain ⟨G, hG, hGL, hGE⟩ := rv_letter u.x u.nm (.slice ad u.l.length cd)
  rw [hG]
  have HGL : Hid _ := hGL
  have HGE : Hid (G = rcE u.x u.nm (.slice ad u.l.length cd)) := hGE
  have HG1 : Hid (∀ v ∈ G, v.oneCell' = true) := by show ∀ v ∈ G, _; rw [hGE]; exact rcE_one _ _ _ rfl
  clear hG hGL hGE
  obtain ⟨ZR, hZR⟩ : ∃ ZR, ZR = zrl := ⟨_, rfl⟩
  have HZR : Hid (ZR = zrl) := hZR
  have HZRL : Hid (G.length = ZR.length) := by show _ = _; rw [hZR, HGE.out]; rfl
  clear hZR
  have HTZ : Hid (∀ t, (w2.alloc (.cells ZR.toArray t)).there w2.heap.size 0 G.toArray.size) := fun t => there_of (lb_new w2 ZR t) (by simpa using HZRL.out)
  have H3 : Hid (∃ W3, W3 = (w2.alloc (.cells ZR.toArray 32)).setCells w2.heap.size 0 G ∧ LB W3 w.heap.size 43 D ∧ LB W3 (w.heap.size + 1 + 1) 43 Z ∧ Own (w.heap.size + 3) W3 (.slice ad u.l.length cd) u.l ∧ LB W3 w2.heap.size 32 G ∧ w.heap.size + 1 + 1 < w2.heap.size ∧ Below w.heap.size w W3) := ⟨_, rfl, (H2.out.1.kept (up0 _ _)).others _ _ _ (Nat.ne_of_lt H2.out.1.lt), (H2.out.2.1.kept (up0 _ _)).others _ _ _ (Nat.ne_of_lt H2.out.2.1.lt), own_keptB (H2.out.2.2.1.alloc _) (fun b e => cells_other _ _ _ _ _ (Nat.ne_of_lt (own_block H2.out.2.2.1 b e).2)), (lb_new w2 ZR _).sets G HZRL.out, H2.out.2.1.lt, below_cells (Nat.le_of_lt H2.out.1.lt) _ 0 _ (up H2.out.2.2.2 _)⟩
  have HRF : Hid (∀ w', Below w.heap.size w w' → Calls Tryz.prog 89 #[.agg D.toArray, .agg G.toArray] w' fun e w'' => e = .returned (.int .i64 0) ∧ Below w'.heap.size w' w'') := fun w' hb' => by
    have e := refusal_any S h u.x u.nm (.slice ad u.l.length cd) w' (HKT.out w' hb') HBN.out.1 HBN.out.2 (by have e9 := HV3.out; rw [HU.out] at e9; obtain ⟨_, _, _, e8⟩ := e9; omega)
    rw [show sv S h = .agg D.toArray by rw [HE.out]; rfl, show rv u.x u.nm (.slice ad u.l.length cd) = .agg G.toArray by rw [HGE.out]; rfl, show refP S.x u.x = 0 by rw [← HU.out]; exact h1] at e
    exact e
  go_wp2_with (first | (refine wpList_alloc_R HZR.out rfl rfl ?_) | (refine wpList_store_mid rfl 32 (.tmp 7) (.tmp 20) rfl w2.heap.size 0 G.toArray rfl rfl (HTZ.out _) (by simpa using HGL.out) (all_oneCell_toArray HG1.out) ?_; (obtain ⟨W3, hW3, hq⟩ := H3.out); (have H4 : Hid _ := hq); (rw [List.toList_toArray, ← hW3]); (clear hW3 hq H3 HTZ)) | (refine wpList_load_mid rfl 43 _ rfl w.heap.size 0 rfl D _ H4.out.1.range Tryz.underlying43 rfl HL.out ?_) | (refine wpList_load_mid rfl 32 _ rfl w2.heap.size 0 rfl G _ H4.out.2.2.2.1.range Tryz.underlying32 rfl HGL.out ?_) | fail)
  refine (HRF.out _ H4.out.2.2.2.2.2).mono ?_
  rintro e w4 ⟨rfl, b4⟩
  have H5 : Hid (LB w4 w.heap.size 43 D ∧ LB w4 (w.heap.size + 1 + 1) 43 Z ∧ Own (w.heap.size + 3) w4 (.slice ad u.l.length cd) u.l ∧ LB w4 w2.heap.size 32 G ∧ w.heap.size + 1 + 1 < w2.heap.size ∧ Below w.heap.size w w4) := ⟨H4.out.1.kept b4, H4.out.2.1.kept b4, H4.out.2.2.1.kept b4, H4.out.2.2.2.1.kept b4, H4.out.2.2.2.2.1, andThen H4.out.2.2.2.2.2 b4⟩
  clear b4 HRF H4 HKT HBN
  have HCL : Hid (∀ w', Below w.heap.size w w' → Calls Tryz.prog 47 #[.agg D.toArray] w' fun e w'' => ∃ h', e = .returned (sv S h') ∧ SgOwn w'.heap.size w'' S h' ∧ Below w'.heap.size w' w'') := fun w' hb' => by
    have e := HCL0 w' hb'
    rw [show sv S h = .agg D.toArray by rw [HE.out]; rfl] at e
    exact e
  clear HCL0
  go_wp2_with (refine wpList_load_mid rfl 43 _ rfl w.heap.size 0 rfl D _ H5.out.1.range Tryz.underlying43 rfl HL.out ?_)
  refine (HCL.out _ H5.out.2.2.2.2.2).mono ?_
  rintro e w5 ⟨h5, rfl, ow5, b5⟩
  have H6 : Hid (LB w5 (w.heap.size + 1 + 1) 43 Z ∧ Own (w.heap.size + 3) w5 (.slice ad u.l.length cd) u.l ∧ LB w5 w2.heap.size 32 G ∧ SgOwn w4.heap.size w5 S h5 ∧ w.heap.size + 3 ≤ w4.heap.size ∧ Below w.heap.size w w5) := ⟨H5.out.2.1.kept b5, H5.out.2.2.1.kept b5, H5.out.2.2.2.1.kept b5, ow5, H5.out.2.1.lt, andThen H5.out.2.2.2.2.2 b5⟩
  clear b5 ow5 H5 HCL
  obtain ⟨C, hC, hCL, hCE⟩ := sv_letter S h5
  rw [hC]
  have HCL : Hid _ := hCL
  have HCE : Hid (C = scl S h5) := hCE
  have HC1 : Hid (∀ v ∈ C, v.oneCell' = true) := by show ∀ v ∈ C, _; rw [hCE]; exact scl_one _ _
  have HCZ : Hid (C.length = Z.length) := by show _ = _; rw [HZ.out, hCE]; rfl
  clear hC hCL hCE
  have HTC : Hid (∀ t, (w5.alloc (.cells Z.toArray t)).there w5.heap.size 0 C.toArray.size) := fun t => there_of (lb_new w5 Z t) (by simpa using HCZ.out)
  have HCI : Hid ((Tryz.prog.info? 126).map (·.size) = some C.toArray.size) := by show _ = _; rw [HCE.out]; exact infoCourse
  have H7 : Hid (∃ W6, W6 = (w5.alloc (.cells Z.toArray 126)).setCells w5.heap.size 0 C ∧ LB W6 (w.heap.size + 1 + 1) 43 Z ∧ Own (w.heap.size + 3) W6 (.slice ad u.l.length cd) u.l ∧ LB W6 w2.heap.size 32 G ∧ SgOwn (w.heap.size + 3) W6 S h5 ∧ LB W6 w5.heap.size 126 C ∧ w.heap.size + 3 ≤ w5.heap.size ∧ W6.heap.size = w5.heap.size + 1 ∧ Below w.heap.size w W6) := ⟨_, rfl, (H6.out.1.kept (up0 _ _)).others _ _ _ (Nat.ne_of_lt H6.out.1.lt), own_keptB (H6.out.2.1.alloc _) (fun b e => cells_other _ _ _ _ _ (Nat.ne_of_lt (own_block H6.out.2.1 b e).2)), (H6.out.2.2.1.kept (up0 _ _)).others _ _ _ (Nat.ne_of_lt H6.out.2.2.1.lt), sgOwn_fresh H6.out.2.2.2.1 H6.out.2.2.2.2.1 Z C 126, (lb_new w5 Z _).sets C HCZ.out, H6.out.1.lt, by rw [size_cells, heap_one], below_cells H6.out.2.2.2.2.2.size _ 0 _ (up H6.out.2.2.2.2.2 _)⟩
  go_wp2_with (first | (refine wpList_alloc_C HZ.out rfl rfl ?_) | (refine wpList_store_mid rfl 126 (.tmp 10) (.tmp 34) rfl w5.heap.size 0 C.toArray rfl rfl (HTC.out _) HCI.out (all_oneCell_toArray HC1.out) ?_; (obtain ⟨W6, hW6, hq⟩ := H7.out); (have H8 : Hid _ := hq); (rw [List.toList_toArray, ← hW6]); (clear hW6 hq H7 HTC); (have g5 := H8.out.2.2.1.cell 5 (.int .i64 u.x.a) (by rw [HGE.out]; rfl)); (have c5 := H8.out.2.2.2.2.1.cell 5 (.int .i64 S.x.la) (by rw [HCE.out]; rfl)); (have f5 := H8.out.2.2.2.2.1.free 5)) | fail)
  have hne : w5.heap.size ≠ w2.heap.size := Ne.symm (Nat.ne_of_lt H6.out.2.2.1.lt)
  have H9 : Hid (∃ W7, W7 = W6.setCell ⟨w5.heap.size, 5, none⟩ (.int .i64 u.x.a) ∧ LB W7 (w.heap.size + 1 + 1) 43 Z ∧ Own (w.heap.size + 3) W7 (.slice ad u.l.length cd) u.l ∧ LB W7 w2.heap.size 32 G ∧ SgOwn (w.heap.size + 3) W7 S h5 ∧ LB W7 w5.heap.size 126 (scl { S with x := { S.x with la := u.x.a } } h5) ∧ w.heap.size + 3 ≤ w5.heap.size ∧ W7.heap.size = w5.heap.size + 1 ∧ Below w.heap.size w W7) := by
    obtain ⟨q1, q2, q3, q4, q5, q6, q7, q8⟩ := H8.out
    refine ⟨_, rfl, q1.other _ _ (show w.heap.size + 1 + 1 ≠ w5.heap.size by omega), own_keptB q2 (fun b e => set_other _ _ _ _ (own_ne_g q2 q5 b e)), q3.other _ _ (Ne.symm hne), sgOwn_set q4 q5 _ _, ?_, q6, by rw [← q7]; exact size_set _ _ _, Below.setCell q8 (show w.heap.size ≤ w5.heap.size by omega) _⟩
    have e := q5.set 5 (.int .i64 u.x.a)
    rw [HCE.out] at e
    exact e
  obtain ⟨W7, hW7, hq⟩ := H9.out
  have H10 : Hid _ := hq
  rw [← hW7]
  clear hW7 hq H9 H8 g5 c5 f5 H6
  have HGC : Hid (∀ w' : World, w'.rangeAt w2.heap.size 0 G → w'.cell? ⟨w2.heap.size, 1, none⟩ = some (.int .i64 u.x.k)) := fun w' e => range_cell e 1 _ (by rw [HGE.out]; rfl)
  have H11 : Hid (LB W7.drew (w.heap.size + 1 + 1) 43 Z ∧ Own (w.heap.size + 3) W7.drew (.slice ad u.l.length cd) u.l ∧ LB W7.drew w2.heap.size 32 G ∧ SgOwn (w.heap.size + 3) W7.drew S h5 ∧ LB W7.drew w5.heap.size 126 (scl { S with x := { S.x with la := u.x.a } } h5) ∧ w.heap.size + 3 ≤ w5.heap.size ∧ W7.drew.heap.size = w5.heap.size + 1 ∧ Below w.heap.size w W7.drew) := ⟨H10.out.1.kept (Below.drew (Below.refl _ _)), H10.out.2.1.kept (Below.drew (Below.refl _ _)), H10.out.2.2.1.kept (Below.drew (Below.refl _ _)), sgOwn_kept H10.out.2.2.2.1 (Below.drew (Below.refl _ _)), H10.out.2.2.2.2.1.kept (Below.drew (Below.refl _ _)), H10.out.2.2.2.2.2.1, H10.out.2.2.2.2.2.2.1, Below.drew H10.out.2.2.2.2.2.2.2⟩
  refine wp_region_held_drew (S := fun w' : World => w'.rangeAt w2.heap.size 0 G ∧ w'.cell? ⟨w2.heap.size, 1, none⟩ = some (.int .i64 u.x.k)) (by kernel_rfl) ?_ (fun hH => ?_)
  · exact ⟨H11.out.2.2.1.range, HGC.out _ H11.out.2.2.1.range⟩
  clear H10
  generalize W7.drew = W8 at *
  have HDE : Hid (∃ fn, (∀ W, Calls Tryz.prog 90 #[.int .i64 u.x.k] W fun e w' => e = .returned (.func (.func fn) #[] #[]) ∧ W = w') ∧ (Calls Tryz.prog fn #[.pointer (some ⟨w5.heap.size, 0, none⟩), .agg G.toArray] W8 fun e w' => DoPost (w.heap.size + 3) w5.heap.size W8 (deedS S u) e w') ∧ ∀ a W, (callFunc fn a).run Tryz.prog W = .ok (.enter fn a) W) := by
    have hku : u.x.k = 2 ∨ u.x.k = 3 ∨ u.x.k = 4 ∨ u.x.k = 5 ∨ u.x.k = 6 ∨ u.x.k = 7 := by rw [← HU.out]; omega
    refine ⟨fK u.x.k, fun W => ?_, ?_, fun a W => ?_⟩
    · rcases hku with e | e | e | e | e | e <;> rw [e] <;> first | exact deed_2 W | exact deed_3 W | exact deed_4 W | exact deed_5 W | exact deed_6 W | exact deed_7 W
    · have e := do_any S h5 u ad cd (w.heap.size + 3) w5.heap.size W8 H11.out.2.2.2.2.1 (by rw [H11.out.2.2.2.2.2.2.1]; omega) H11.out.2.2.2.2.2.1 H11.out.2.2.2.1 H11.out.2.1 hc (by rw [← HU.out]; exact HV3.out) (by rw [← HU.out]; omega)
      rw [show rv u.x u.nm (.slice ad u.l.length cd) = .agg G.toArray by rw [HGE.out]; rfl] at e
      exact e
    · rcases hku with e | e | e | e | e | e <;> rw [e] <;> rfl
  obtain ⟨fn, hDE, hDO, hCF⟩ := HDE.out
  have HCF : Hid (∀ a W, (callFunc fn a).run Tryz.prog W = .ok (.enter fn a) W) := hCF
  have HDD : Hid _ := hDE
  have HDO : Hid (Calls Tryz.prog fn #[.pointer (some ⟨w5.heap.size, 0, none⟩), .agg G.toArray] W8 fun e w' => DoPost (w.heap.size + 3) w5.heap.size W8 (deedS S u) e w') := hDO
  clear hDE hDO hCF HDE
  refine wpAnyH_take (i := 0) (v := ?v1) rfl (by kernel_rfl) (by kernel_rfl) (by kernel_rfl) (fun _ _ _ h => h) (Or.inl ⟨by rfl, ?hy1⟩) hH ?rest1
  case hy1 => intro w' hSw; (try dsimp only at hSw); go_simp; all_goals rfl
  simp only [Act.put, List.setIfInBounds_toArray, List.set_cons_zero, List.set_cons_succ, List.getElem_toArray, List.getElem_cons_zero]
  refine wpAnyH_take (i := 1) (v := ?v2) rfl (by kernel_rfl) (by kernel_rfl) (by kernel_rfl) (fun _ _ _ h => h) (Or.inl ⟨by rfl, ?hy2⟩) hH ?rest2
  case hy2 => intro w' hSw; (try dsimp only at hSw); go_simp; all_goals rfl
  simp only [Act.put, List.setIfInBounds_toArray, List.set_cons_zero, List.set_cons_succ, List.getElem_toArray, List.getElem_cons_zero, List.getElem_cons_succ]
  refine wpAnyH_take (i := 3) rfl (by kernel_rfl) (by kernel_rfl) (by kernel_rfl) (fun _ _ _ h => h) (yieldsIf_load_mid (by rfl) _ _ rfl _ _ rfl G _ (fun w' hSw => hSw.1) Tryz.underlying32 rfl HGL.out) hH ?_
  simp only [Act.put, List.setIfInBounds_toArray, List.set_cons_zero, List.set_cons_succ, List.getElem_toArray, List.getElem_cons_zero, List.getElem_cons_succ]
  refine wpAnyH_ready (rs := [2]) (by kernel_rfl) (by simp) ?_
  refine AllReadyH.cons rfl (fun K hK => ?_) AllReadyH.nil
  go_simp
  refine (HDD.out _).mono ?_
  rintro e _ ⟨rfl, rfl⟩
  refine hK.out _ _ ?_ (fun hH2 => ?_)
  · exact hH
  clear hK K hH
  have hH := hH2
  clear hH2
  refine wpAnyH_ready (rs := [4]) (by kernel_rfl) (by simp) ?_
  refine AllReadyH.cons rfl (fun K hK => ?_) AllReadyH.nil
  go_simp
  rw [HCF.out, Oper.upon_enter]
  refine HDO.out.mono ?_
  rintro e w9 ⟨h9, rfl, l9, o9, b9, k9⟩
  have H12 : Hid (LB w9 (w.heap.size + 1 + 1) 43 Z ∧ LB w9 w2.heap.size 32 G ∧ LB w9 w5.heap.size 126 (scl (deedS S u) h9) ∧ SgO (w.heap.size + 3) w9 (deedS S u) h9 ∧ Below w.heap.size w w9) := ⟨k9 _ _ _ (by have := H11.out.2.2.2.2.2.1; omega) (by decide) H11.out.1, k9 _ _ _ (Nat.lt_of_le_of_ne (by have e1 := H11.out.2.2.1.lt; rw [H11.out.2.2.2.2.2.2.1] at e1; omega) (Ne.symm hne)) (by decide) H11.out.2.2.1, l9, o9, H11.out.2.2.2.2.2.2.2.trans (b9.mono (by omega))⟩
  refine hK.out _ _ ?_ (fun hH2 => ?_)
  · exact ⟨H12.out.2.1.range, HGC.out _ H12.out.2.1.range⟩
  clear hK K hH hH2 l9 o9 b9 k9 H11 HDO HGC
  refine wpAnyH_done (by kernel_rfl) ?_ _
  obtain ⟨C9, hC9⟩ : ∃ C9, C9 = scl (deedS S u) h9 := ⟨_, rfl⟩
  have HC9 : Hid (C9 = scl (deedS S u) h9) := hC9
  rw [← hC9] at H12
  have HI9 : Hid ((Tryz.prog.info? 126).map (·.size) = some C9.length) := by show _ = _; rw [hC9]; exact infoCourse
  have HJ9 : Hid ((Tryz.prog.info? 43).map (·.size) = some C9.length) := by show _ = _; rw [hC9]; exact infoSaga
  have H19 : Hid (∀ v ∈ C9, v.oneCell' = true) := by show ∀ v ∈ C9, _; rw [hC9]; exact scl_one _ _
  have HLZ : Hid (C9.length = Z.length) := by show _ = _; rw [HZ.out, hC9]; rfl
  clear hC9
  have HF : Hid (SgO w.heap.size (w9.setCells (w.heap.size + 1 + 1) 0 C9) (deedS S u) h9 ∧ Below w.heap.size w (w9.setCells (w.heap.size + 1 + 1) 0 C9)) := ⟨(H12.out.2.2.2.1.sets _ _ _ (by omega)).weak (by omega), below_cells (by omega) _ 0 _ H12.out.2.2.2.2⟩
  have HT9 : Hid (w9.there (w.heap.size + 1 + 1) 0 C9.toArray.size) := there_of H12.out.1 (by simpa using HLZ.out)
  have HR9 : Hid ((w9.setCells (w.heap.size + 1 + 1) 0 C9).rangeAt (w.heap.size + 1 + 1) 0 C9) := (H12.out.1.sets C9 HLZ.out).range
  have HRC : Hid (w9.rangeAt w5.heap.size 0 C9) := H12.out.2.2.1.range
  clear H12
  go_wp2_with (first | (refine wpList_load_mid rfl 126 _ rfl w5.heap.size 0 rfl C9 _ HRC.out Tryz.underlying126 rfl HI9.out ?_) | (refine wpList_store_mid rfl 43 (.tmp 4) (.tmp 43) rfl (w.heap.size + 1 + 1) 0 C9.toArray rfl rfl HT9.out (by simpa using HJ9.out) (all_oneCell_toArray H19.out) ?_))
  refine bodyPost_ret (results_cell_slot (p := 4) (s := 5) (ty := 43) rfl _ (w9.setCells (w.heap.size + 1 + 1) 0 C9) (w.heap.size + 1 + 1) C9 _ rfl HR9.out Tryz.underlying43 rfl HJ9.out) rfl ?_
  refine ⟨h9, ?_, ?_, HF.out.2⟩
  · rw [HC9.out, HU.out]; rfl
  · rw [HU.out]; exact HF.out.1
end Go.Proofs.YtdnackjakfiffaaGreatDoor
