import Derived.Deep.CutRange
import Derived.Test.YtgmkjcfdpiinpaaGreatDoorVF8
import Derived.Test.YtgmkjcfdpiinpaaGreatDoorVM4
set_option maxRecDepth 100000
set_option maxHeartbeats 8000000
namespace Go.Proofs.YtgmkjcfdpiinpaaGreatDoor
open Go Go.RowKit
open Wb

theorem rxmoved_any (S : Sg) (h : SH) (r : Rec) (d : Value) (w : World) (k : SgAt w S h) (hb : Bs w d r.l) (hc : chkS S = true) (hv : V3 r) (h0 : refP S.x r.x = 0) :
  Calls Tryz.prog 72 #[sv S h, rv r.x r.nm d] w fun e w' => ∃ h', e = .returned (sv (deedS S r) h') ∧ SgOwn w.heap.size w' (deedS S r) h' ∧ Below w.heap.size w w' := by
 obtain ⟨_, _, _, _, _, g6, g7, _⟩ := good_nums S hc
 obtain ⟨l1, l2, l3, l4, _⟩ := good_lists S hc
 have HCL0 : ∀ w', Below w.heap.size w w' → Calls Tryz.prog 20 #[sv S h] w' fun e w'' => ∃ h', e = .returned (sv S h') ∧ SgOwn w'.heap.size w'' S h' ∧ Below w'.heap.size w' w'' := fun w' hb' => rxclone_any S h w' (k.kept hb') (by omega) (by omega) (short_each l3) (short_each l4) (by omega) (by omega)
 have HLI0 : ∀ (h' : SH) (B : Nat) (w' : World), Below w.heap.size w w' → B ≤ w'.heap.size → SgOwn B w' S h' → Calls Tryz.prog 70 #[sv S h', rv r.x r.nm d] w' fun e w'' => LiPost B (deedS S r) w' e w'' := fun h' B w' hb' hB k' => rxlight_any S h' r d w' B k' hB (hb.kept hb') hc hv h0
 obtain ⟨Q, hQ⟩ : ∃ Q, deedS S r = Q := ⟨_, rfl⟩
 rw [hQ] at HLI0 ⊢
 clear k hb hc hv h0 hQ
 obtain ⟨Z, hZ⟩ : ∃ Z, Z = zcl := ⟨_, rfl⟩
 have HZ : Hid (Z = zcl) := hZ
 have HZL : Hid (Z.length = 16) := by show _ = _; rw [hZ]; rfl
 obtain ⟨D, hD, hL, hE⟩ := sv_letter S h
 obtain ⟨E, hD2, hL2, hE2⟩ := rv_letter r.x r.nm d
 rw [hD] at HCL0
 rw [hD2] at HLI0
 rw [hD, hD2]
 have HCL : Hid _ := HCL0
 have HLI : Hid _ := HLI0
 have HL : Hid _ := hL
 have HL2 : Hid _ := hL2
 have HX : Hid (LB (((w.alloc (.cells D.toArray 31)).alloc (.cells E.toArray 28)).alloc (.cells Z.toArray 31)) w.heap.size 31 D ∧ LB (((w.alloc (.cells D.toArray 31)).alloc (.cells E.toArray 28)).alloc (.cells Z.toArray 31)) (w.heap.size + 1) 28 E ∧ LB (((w.alloc (.cells D.toArray 31)).alloc (.cells E.toArray 28)).alloc (.cells Z.toArray 31)) (w.heap.size + 2) 31 Z ∧ Below w.heap.size w (((w.alloc (.cells D.toArray 31)).alloc (.cells E.toArray 28)).alloc (.cells Z.toArray 31))) := lb_new3 w D E Z _ _ _
 clear hD hL hE hD2 hL2 hE2 HCL0 HLI0 hZ
 go_enter Tryz.func72, Tryz.ntmps72
 go_wp2_with (first | (refine wpList_alloc_Z HZ.out rfl rfl ?_; (try simp only [heap_one]); (obtain ⟨W1, hW1⟩ : ∃ W1, ((w.alloc (.cells D.toArray 31)).alloc (.cells E.toArray 28)).alloc (.cells Z.toArray 31) = W1 := ⟨_, rfl⟩); (rw [hW1] at HX ⊢); (clear hW1)) | fail)
 have H1 : Hid (LB W1.drew w.heap.size 31 D ∧ LB W1.drew (w.heap.size + 1) 28 E ∧ LB W1.drew (w.heap.size + 2) 31 Z ∧ Below w.heap.size w W1.drew) := ⟨HX.out.1.kept (Below.drew (Below.refl _ _)), HX.out.2.1.kept (Below.drew (Below.refl _ _)), HX.out.2.2.1.kept (Below.drew (Below.refl _ _)), Below.drew HX.out.2.2.2⟩
 clear HX
 refine wp_region_held_drew (S := fun w' : World => w'.rangeAt w.heap.size 0 D ∧ w'.rangeAt (w.heap.size + 1) 0 E) (by kernel_rfl) ⟨H1.out.1.range, H1.out.2.1.range⟩ (fun hH => ?_)
 generalize W1.drew = V1 at *
 refine zql 0 rfl (yieldsIf_load_mid (by rfl) _ _ rfl _ _ rfl D _ (fun w' hSw => hSw.1) Tryz.underlying31 rfl HL.out) hH ?_
 simp only [zq]
 refine zql 2 rfl (yieldsIf_load_mid (by rfl) _ _ rfl _ _ rfl E _ (fun w' hSw => hSw.2) Tryz.underlying28 rfl HL2.out) hH ?_
 simp only [zq]
 refine zqr 1 rfl (fun K hK => ?_)
 go_simp
 refine (HCL.out _ H1.out.2.2.2).mono ?_
 rintro e w2 ⟨h2, rfl, o2, b2⟩
 have H2 : Hid (LB w2 w.heap.size 31 D ∧ LB w2 (w.heap.size + 1) 28 E ∧ LB w2 (w.heap.size + 2) 31 Z ∧ Below w.heap.size w w2 ∧ SgOwn V1.heap.size w2 S h2) := ⟨H1.out.1.kept b2, H1.out.2.1.kept b2, H1.out.2.2.1.kept b2, andThen H1.out.2.2.2 b2, o2⟩
 have HVL : Hid (w.heap.size + 2 < V1.heap.size ∧ V1.heap.size ≤ w2.heap.size) := ⟨H1.out.2.2.1.lt, b2.size⟩
 obtain ⟨D2, hD2, hL2, hE2⟩ := sv_letter S h2
 rw [hD2]
 have HLI2 : Hid (∀ w', Below w.heap.size w w' → V1.heap.size ≤ w'.heap.size → SgOwn V1.heap.size w' S h2 → Calls Tryz.prog 70 #[.agg D2.toArray, .agg E.toArray] w' fun e w'' => LiPost V1.heap.size Q w' e w'') := fun w' hb' hs k' => by have e := HLI.out h2 _ w' hb' hs k'; rw [hD2] at e; exact e
 clear hD2 hL2 hE2
 refine hK.out _ _ ⟨H2.out.1.range, H2.out.2.1.range⟩ (fun hH2 => ?_)
 clear hK K hH
 have hH := hH2
 clear hH2
 clear b2 o2 H1 HCL HLI
 refine zqr 3 rfl (fun K hK => ?_)
 go_simp
 refine (HLI2.out _ H2.out.2.2.2.1 HVL.out.2 H2.out.2.2.2.2).mono ?_
 rintro e w3 ⟨h3, rfl, o3, b3, f3⟩
 have H3 : Hid (LB w3 w.heap.size 31 D ∧ LB w3 (w.heap.size + 1) 28 E ∧ LB w3 (w.heap.size + 2) 31 Z ∧ Below w.heap.size w w3 ∧ SgOwn V1.heap.size w3 Q h3) := ⟨lb_frs H2.out.1 f3 (by decide), lb_frs H2.out.2.1 f3 (by decide), lb_frs H2.out.2.2.1 f3 (by decide), H2.out.2.2.2.1.trans (b3.mono (by have := HVL.out.1; omega)), o3⟩
 obtain ⟨M, hM, hML, hME⟩ := sv_letter Q h3
 rw [hM]
 have HMV : Hid (sv Q h3 = .agg M.toArray) := hM
 have HML : Hid _ := hML
 have HM1 : Hid (∀ v ∈ M, v.oneCell' = true) := by show ∀ v ∈ M, _; rw [hME]; exact scl_one _ _
 have HMZ : Hid (M.length = Z.length) := by show _ = _; rw [hME, HZL.out]; rfl
 clear hM hML hME
 refine hK.out _ _ ⟨H3.out.1.range, H3.out.2.1.range⟩ (fun hH2 => ?_)
 clear hK K hH
 have hH := hH2
 clear hH2
 clear b3 f3 o3 H2 HLI2
 refine zqr 4 rfl (fun K hK => ?_)
 refine step_storeX rfl 31 (.tmp 4) (.tmp 8) rfl (w.heap.size + 2) 0 M.toArray rfl rfl (there_of H3.out.2.2.1 (by simpa using HMZ.out)) (by simpa using HML.out) (all_oneCell_toArray HM1.out) ?_
 rw [List.toList_toArray]
 refine hK.out _ _ ⟨(H3.out.1.others _ _ _ (by omega)).range, (H3.out.2.1.others _ _ _ (by omega)).range⟩ (fun hH2 => ?_)
 clear hK K hH
 have hH := hH2
 clear hH2
 simp only [Act.put, zq4, zq5, zq6]
 refine wpAnyH_done (by kernel_rfl) ?_ _
 clear hH
 go_wp2
 have HR9 : Hid ((w3.setCells (w.heap.size + 2) 0 M).rangeAt (w.heap.size + 2) 0 M) := (H3.out.2.2.1.sets M HMZ.out).range
 refine bodyPost_ret (results_cell_mid rfl _ (w3.setCells (w.heap.size + 2) 0 M) (w.heap.size + 2) M _ rfl HR9.out Tryz.underlying31 rfl HML.out) rfl ?_
 exact ⟨h3, by rw [HMV.out], (sgown_oth H3.out.2.2.2.2 H3.out.2.2.1 (Oth.sets _ _ _ _)).weak (by have := HVL.out.1; omega), below_cells (by omega) _ 0 _ H3.out.2.2.2.1⟩
theorem rxstep_any (S : Sg) (h : SH) (r : Rec) (d : Value) (w : World) (k : SgAt w S h) (hb : Bs w d r.l) (hT : Tabs w) (hc : chkS S = true) (hnm : r.nm.size ≤ 1048576) (hf : r.x.fit) : Calls Tryz.prog 35 #[sv S h, rv r.x r.nm d] w fun e w' => AxPost w (applyP S r) e w' := by
 have HCK0 : ∀ w', Below w.heap.size w w' → Calls Tryz.prog 68 #[rv r.x r.nm d] w' fun e w'' => e = .returned (.int .i64 (upP 3 r).1) ∧ Below w'.heap.size w' w'' := fun w' hb' => by
  have e := refcheck_any r.x r.nm d r.l w' (hb.kept hb') (hT.kept hb').rlets (hT.kept hb').rows hf.c (by omega)
  rw [← up_err] at e
  exact e
 have HTH0 : ∀ w', Below w.heap.size w w' → Calls Tryz.prog 71 #[rv r.x r.nm d] w' fun e w'' => ∃ ao, ∃ cap : Nat, e = .returned (rv (upP 3 r).2.x (upP 3 r).2.nm (.slice ao (upP 3 r).2.l.length cap)) ∧ Bs w'' (.slice ao (upP 3 r).2.l.length cap) (upP 3 r).2.l ∧ Below w'.heap.size w' w'' := fun w' hb' => rxthird_any r d w' (hb.kept hb') (hT.kept hb') hnm hf
 have HV : Hid ((upP 3 r).1 = 0 → V3 (upP 3 r).2) := fun h0 => (up3 r hb.good h0).1
 have HAP : Hid (applyP S r = if (upP 3 r).1 ≠ 0 then ((upP 3 r).1, zSg) else if refP S.x (upP 3 r).2.x ≠ 0 then (refP S.x (upP 3 r).2.x, zSg) else (0, deedS S (upP 3 r).2)) := by show _ = _; unfold applyP; rw [if_neg (by simp [hc])]
 obtain ⟨z, hz⟩ : ∃ z, (upP 3 r).1 = z := ⟨_, rfl⟩
 obtain ⟨u, hu⟩ : ∃ u, (upP 3 r).2 = u := ⟨_, rfl⟩
 rw [hz] at HCK0 HV HAP
 rw [hu] at HTH0 HV HAP
 obtain ⟨A, hA⟩ : ∃ A, applyP S r = A := ⟨_, rfl⟩
 rw [hA] at HAP ⊢
 clear hz hu hA
 obtain ⟨y, hy⟩ : ∃ y, refP S.x u.x = y := ⟨_, rfl⟩
 obtain ⟨Q, hQ⟩ : ∃ Q, deedS S u = Q := ⟨_, rfl⟩
 have HRF0 : z = 0 → ∀ (v : Value) (w' : World), Calls Tryz.prog 69 #[sv S h, rv u.x u.nm v] w' fun e w'' => e = .returned (.int .i64 y) ∧ Below w'.heap.size w' w'' := fun e0 v w' => by
  have e := rref_any S h u v w' hc (HV.out e0)
  rw [hy] at e
  exact e
 have HMV0 : z = 0 → y = 0 → ∀ (v : Value) (w' : World), Below w.heap.size w w' → Bs w' v u.l → Calls Tryz.prog 72 #[sv S h, rv u.x u.nm v] w' fun e w'' => ∃ h', e = .returned (sv Q h') ∧ SgOwn w'.heap.size w'' Q h' ∧ Below w'.heap.size w' w'' := fun e0 e1 v w' hb' hv => by
  have e := rxmoved_any S h u v w' (k.kept hb') hv hc (HV.out e0) (by rw [hy]; exact e1)
  rw [hQ] at e
  exact e
 rw [hy, hQ] at HAP
 clear hy hQ HV
 obtain ⟨ZR, hZR⟩ : ∃ ZR, ZR = zrl := ⟨_, rfl⟩
 have HZR : Hid (ZR = zrl) := hZR
 have HZRL : Hid (ZR.length = 12) := by show _ = _; rw [hZR]; rfl
 obtain ⟨Z, hZ⟩ : ∃ Z, Z = zcl := ⟨_, rfl⟩
 have HZ : Hid (Z = zcl) := hZ
 have HZL : Hid (Z.length = 16) := by show _ = _; rw [hZ]; rfl
 have HZI : Hid ((Tryz.prog.info? 31).map (·.size) = some Z.length) := by show _ = _; rw [hZ]; exact infoSaga
 have HZ1 : Hid (∀ v ∈ Z, v.oneCell' = true) := by show ∀ v ∈ Z, _; rw [hZ]; exact scl_one zSg ⟨none, 0, none, 0, none, 0, none, 0⟩
 obtain ⟨D, hD, hL, hE⟩ := sv_letter S h
 obtain ⟨E, hD2, hL2, hE2⟩ := rv_letter r.x r.nm d
 rw [hD] at HRF0 HMV0
 rw [hD2] at HCK0 HTH0
 rw [hD, hD2]
 have HCK : Hid _ := HCK0
 have HTH : Hid _ := HTH0
 have HRF : Hid _ := HRF0
 have HMV : Hid _ := HMV0
 have HL : Hid _ := hL
 have HL2 : Hid _ := hL2
 have HX : Hid (LB (((w.alloc (.cells D.toArray 31)).alloc (.cells E.toArray 28)).alloc (.cells Z.toArray 31)) w.heap.size 31 D ∧ LB (((w.alloc (.cells D.toArray 31)).alloc (.cells E.toArray 28)).alloc (.cells Z.toArray 31)) (w.heap.size + 1) 28 E ∧ LB (((w.alloc (.cells D.toArray 31)).alloc (.cells E.toArray 28)).alloc (.cells Z.toArray 31)) (w.heap.size + 2) 31 Z ∧ Below w.heap.size w (((w.alloc (.cells D.toArray 31)).alloc (.cells E.toArray 28)).alloc (.cells Z.toArray 31))) := lb_new3 w D E Z _ _ _
 clear hD hL hE hD2 hL2 hE2 HCK0 HTH0 HRF0 HMV0 hZ hZR hb hT hc hnm hf k
 go_enter Tryz.func35, Tryz.ntmps35
 go_wp2_with (first | (refine wpList_alloc_Z HZ.out rfl rfl ?_; (try simp only [heap_one])) | (refine wpList_load_mid rfl 28 _ rfl (w.heap.size + 1) 0 rfl E _ HX.out.2.1.range Tryz.underlying28 rfl HL2.out ?_) | fail)
 refine (HCK.out _ HX.out.2.2.2).mono ?_
 rintro e w1 ⟨rfl, b1⟩
 have H1 : Hid (LB w1 w.heap.size 31 D ∧ LB w1 (w.heap.size + 1) 28 E ∧ LB w1 (w.heap.size + 2) 31 Z ∧ Below w.heap.size w w1) := ⟨HX.out.1.kept b1, HX.out.2.1.kept b1, HX.out.2.2.1.kept b1, andThen HX.out.2.2.2 b1⟩
 clear b1 HX HCK
 cases hz0 : (z != 0) with
 | true =>
  have hAe : A = (z, zSg) := by rw [HAP.out, if_pos (by simpa using hz0)]
  subst hAe
  go_wp2_with (first | (refine wpList_build_Z HZ.out rfl rfl ?_) | (refine wpList_store_mid rfl 31 (.tmp 4) (.tmp 12) rfl (w.heap.size + 2) 0 Z.toArray rfl rfl (there_of H1.out.2.2.1 (by simp)) (by simpa using HZI.out) (all_oneCell_toArray HZ1.out) ?_; (rw [List.toList_toArray])) | fail)
  have HR9 : Hid ((w1.setCells (w.heap.size + 2) 0 Z).rangeAt (w.heap.size + 2) 0 Z) := (H1.out.2.2.1.sets Z rfl).range
  refine bodyPost_ret (results_cell_slot (p := 4) (s := 5) (ty := 31) rfl _ (w1.setCells (w.heap.size + 2) 0 Z) (w.heap.size + 2) Z _ rfl HR9.out Tryz.underlying31 rfl HZI.out) rfl ?_
  exact ⟨⟨none, 0, none, 0, none, 0, none, 0⟩, by rw [HZ.out]; rfl, sgown_zero _ _, below_cells (by omega) _ 0 _ H1.out.2.2.2⟩
 | false =>
  have e0 : z = 0 := by simpa using hz0
  go_wp2_with (first | (refine wpList_load_mid rfl 28 _ rfl (w.heap.size + 1) 0 rfl E _ H1.out.2.1.range Tryz.underlying28 rfl HL2.out ?_) | fail)
  refine (HTH.out _ H1.out.2.2.2).mono ?_
  rintro e w2 ⟨a3, c3, rfl, bs2, b2⟩
  obtain ⟨G, hG, hGL, hGE⟩ := rv_letter u.x u.nm (.slice a3 u.l.length c3)
  rw [hG]
  have HRG : Hid (∀ w', Calls Tryz.prog 69 #[.agg D.toArray, .agg G.toArray] w' fun e w'' => e = .returned (.int .i64 y) ∧ Below w'.heap.size w' w'') := fun w' => by
   have e := HRF.out e0 (.slice a3 u.l.length c3) w'
   rw [hG] at e
   exact e
  have HMG : Hid (y = 0 → ∀ w', Below w.heap.size w w' → Bs w' (.slice a3 u.l.length c3) u.l → Calls Tryz.prog 72 #[.agg D.toArray, .agg G.toArray] w' fun e w'' => ∃ h', e = .returned (sv Q h') ∧ SgOwn w'.heap.size w'' Q h' ∧ Below w'.heap.size w' w'') := fun e1 w' hb' hv => by
   have e := HMV.out e0 e1 (.slice a3 u.l.length c3) w' hb' hv
   rw [hG] at e
   exact e
  have HGL : Hid _ := hGL
  have HG1 : Hid (∀ v ∈ G, v.oneCell' = true) := by show ∀ v ∈ G, _; rw [hGE]; exact rcE_one _ _ _ rfl
  have HGZ : Hid (G.length = ZR.length) := by show _ = _; rw [hGE, HZRL.out]; rfl
  have HTZ : Hid ((w2.alloc (.cells ZR.toArray 28)).there w2.heap.size 0 G.toArray.size) := there_of (lb_new w2 ZR _) (by simpa using HGZ.out)
  have H3 : Hid (∃ W3, W3 = (w2.alloc (.cells ZR.toArray 28)).setCells w2.heap.size 0 G ∧ LB W3 w.heap.size 31 D ∧ LB W3 (w.heap.size + 2) 31 Z ∧ LB W3 w2.heap.size 28 G ∧ Below w.heap.size w W3 ∧ Bs W3 (.slice a3 u.l.length c3) u.l) := by
   obtain ⟨q1, q2⟩ := one_boxR w2 28 ZR G HGZ.out
   exact ⟨_, rfl, (H1.out.1.kept b2).kept q2, (H1.out.2.2.1.kept b2).kept q2, q1, andThen (andThen H1.out.2.2.2 b2) q2, bs2.kept q2⟩
  clear hG hGL hGE b2 bs2 H1 HTH HRF HMV HL2 hz0
  go_wp2_with (first | (refine wpList_alloc_R HZR.out rfl rfl ?_) | (refine wpList_store_mid rfl 28 (.tmp 7) (.tmp 15) rfl w2.heap.size 0 G.toArray rfl rfl HTZ.out (by simpa using HGL.out) (all_oneCell_toArray HG1.out) ?_; (obtain ⟨W3, hW3, hq⟩ := H3.out); (have H4 : Hid _ := hq); (rw [List.toList_toArray, ← hW3]); (clear hW3 hq H3 HTZ)) | (refine wpList_load_mid rfl 31 _ rfl w.heap.size 0 rfl D _ H4.out.1.range Tryz.underlying31 rfl HL.out ?_) | (refine wpList_load_mid rfl 28 _ rfl w2.heap.size 0 rfl G _ H4.out.2.2.1.range Tryz.underlying28 rfl HGL.out ?_) | fail)
  refine (HRG.out _).mono ?_
  rintro e w4 ⟨rfl, b4⟩
  have H5 : Hid (LB w4 w.heap.size 31 D ∧ LB w4 (w.heap.size + 2) 31 Z ∧ LB w4 w2.heap.size 28 G ∧ Below w.heap.size w w4 ∧ Bs w4 (.slice a3 u.l.length c3) u.l) := ⟨H4.out.1.kept b4, H4.out.2.1.kept b4, H4.out.2.2.1.kept b4, andThen H4.out.2.2.2.1 b4, H4.out.2.2.2.2.kept b4⟩
  clear b4 H4 HRG HG1 HGZ
  cases hy0 : (y != 0) with
  | true =>
   have hAe : A = (y, zSg) := by rw [HAP.out, if_neg (by simpa using e0), if_pos (by simpa using hy0)]
   subst hAe
   go_wp2_with (first | (refine wpList_build_Z HZ.out rfl rfl ?_) | (refine wpList_store_mid rfl 31 (.tmp 4) (.tmp 21) rfl (w.heap.size + 2) 0 Z.toArray rfl rfl (there_of H5.out.2.1 (by simp)) (by simpa using HZI.out) (all_oneCell_toArray HZ1.out) ?_; (rw [List.toList_toArray])) | fail)
   have HR9 : Hid ((w4.setCells (w.heap.size + 2) 0 Z).rangeAt (w.heap.size + 2) 0 Z) := (H5.out.2.1.sets Z rfl).range
   refine bodyPost_ret (results_cell_slot (p := 4) (s := 5) (ty := 31) rfl _ (w4.setCells (w.heap.size + 2) 0 Z) (w.heap.size + 2) Z _ rfl HR9.out Tryz.underlying31 rfl HZI.out) rfl ?_
   exact ⟨⟨none, 0, none, 0, none, 0, none, 0⟩, by rw [HZ.out]; rfl, sgown_zero _ _, below_cells (by omega) _ 0 _ H5.out.2.2.2.1⟩
  | false =>
   have e1 : y = 0 := by simpa using hy0
   have hAe : A = (0, Q) := by rw [HAP.out, if_neg (by simpa using e0), if_neg (by simpa using e1)]
   subst hAe
   have HMQ : Hid (∀ w', Below w.heap.size w w' → Bs w' (.slice a3 u.l.length c3) u.l → Calls Tryz.prog 72 #[.agg D.toArray, .agg G.toArray] w' fun e w'' => ∃ h', e = .returned (sv Q h') ∧ SgOwn w'.heap.size w'' Q h' ∧ Below w'.heap.size w' w'') := HMG.out e1
   clear HMG HAP
   go_wp2_with (first | (refine wpList_load_mid rfl 31 _ rfl w.heap.size 0 rfl D _ H5.out.1.range Tryz.underlying31 rfl HL.out ?_) | (refine wpList_load_mid rfl 28 _ rfl w2.heap.size 0 rfl G _ H5.out.2.2.1.range Tryz.underlying28 rfl HGL.out ?_) | fail)
   refine (HMQ.out _ H5.out.2.2.2.1 H5.out.2.2.2.2).mono ?_
   rintro e w6 ⟨h6, rfl, o6, b6⟩
   obtain ⟨M, hM, hML, hME⟩ := sv_letter Q h6
   rw [hM]
   have HMVx : Hid (sv Q h6 = .agg M.toArray) := hM
   have HML : Hid _ := hML
   have HM1 : Hid (∀ v ∈ M, v.oneCell' = true) := by show ∀ v ∈ M, _; rw [hME]; exact scl_one _ _
   have HMZ : Hid (M.length = Z.length) := by show _ = _; rw [hME, HZL.out]; rfl
   have H6 : Hid (LB w6 (w.heap.size + 2) 31 Z ∧ Below w.heap.size w w6 ∧ SgOwn w.heap.size w6 Q h6) := ⟨H5.out.2.1.kept b6, andThen H5.out.2.2.2.1 b6, o6.weak H5.out.2.2.2.1.size⟩
   clear hM hML hME b6 o6 H5 HMQ
   go_wp2_with (first | (refine wpList_store_mid rfl 31 (.tmp 4) (.tmp 25) rfl (w.heap.size + 2) 0 M.toArray rfl rfl (there_of H6.out.1 (by simpa using HMZ.out)) (by simpa using HML.out) (all_oneCell_toArray HM1.out) ?_; (rw [List.toList_toArray])) | fail)
   have HR9 : Hid ((w6.setCells (w.heap.size + 2) 0 M).rangeAt (w.heap.size + 2) 0 M) := (H6.out.1.sets M HMZ.out).range
   refine bodyPost_ret (results_cell_slot (p := 4) (s := 5) (ty := 31) rfl _ (w6.setCells (w.heap.size + 2) 0 M) (w.heap.size + 2) M _ rfl HR9.out Tryz.underlying31 rfl HML.out) rfl ?_
   exact ⟨h6, by rw [HMVx.out]; rfl, sgown_oth H6.out.2.2 H6.out.1 (Oth.sets _ _ _ _), below_cells (by omega) _ 0 _ H6.out.2.1⟩
theorem rxapply_any (S : Sg) (h : SH) (r : Rec) (d : Value) (w : World) (k : SgAt w S h) (hb : Bs w d r.l) (hT : Tabs w) (hc : chkS S = true) (hfc : -9223372036854775808 ≤ S.x.fc ∧ S.x.fc ≤ 9223372036854775807) (hns : S.nm.size ≤ 1048576) (hnm : r.nm.size ≤ 1048576) (hf : r.x.fit) : Calls Tryz.prog 19 #[sv S h, rv r.x r.nm d] w fun e w' => AxPost w (applyP S r) e w' := by
 have HST0 : ∀ w', Below w.heap.size w w' → Calls Tryz.prog 35 #[sv S h, rv r.x r.nm d] w' fun e w'' => ∃ h', e = .returned (.tuple #[sv (applyP S r).2 h', .int .i64 (applyP S r).1]) ∧ SgOwn w'.heap.size w'' (applyP S r).2 h' ∧ Below w'.heap.size w' w'' := fun w' hb' => rxstep_any S h r d w' (k.kept hb') (hb.kept hb') (hT.kept hb') hc hnm hf
 have HCK0 : ∀ w', Below w.heap.size w w' → Calls Tryz.prog 34 #[sv S h] w' fun e w'' => e = .returned (.int .i64 0) ∧ Below w'.heap.size w' w'' := fun w' hb' => rxcheck_ok S h w' (k.kept hb') (hT.kept hb') hns hc hfc
 unfold AxPost
 obtain ⟨A, hA⟩ : ∃ A, applyP S r = A := ⟨_, rfl⟩
 rw [hA] at HST0 ⊢
 obtain ⟨z, hz⟩ : ∃ z, A.1 = z := ⟨_, rfl⟩
 obtain ⟨Q, hQ⟩ : ∃ Q, A.2 = Q := ⟨_, rfl⟩
 rw [hz, hQ] at HST0 ⊢
 clear hA hz hQ
 obtain ⟨Z, hZ⟩ : ∃ Z, Z = zcl := ⟨_, rfl⟩
 have HZ : Hid (Z = zcl) := hZ
 have HZL : Hid (Z.length = 16) := by show _ = _; rw [hZ]; rfl
 have HZI : Hid ((Tryz.prog.info? 31).map (·.size) = some Z.length) := by show _ = _; rw [hZ]; exact infoSaga
 have HZ1 : Hid (∀ v ∈ Z, v.oneCell' = true) := by show ∀ v ∈ Z, _; rw [hZ]; exact scl_one zSg ⟨none, 0, none, 0, none, 0, none, 0⟩
 obtain ⟨D, hD, hL, hE⟩ := sv_letter S h
 obtain ⟨E, hD2, hL2, hE2⟩ := rv_letter r.x r.nm d
 rw [hD] at HCK0
 rw [hD, hD2] at HST0
 rw [hD, hD2]
 have HCK : Hid _ := HCK0
 have HST : Hid _ := HST0
 have HL : Hid _ := hL
 have HL2 : Hid _ := hL2
 have HX : Hid (LB (((w.alloc (.cells D.toArray 31)).alloc (.cells E.toArray 28)).alloc (.cells Z.toArray 31)) w.heap.size 31 D ∧ LB (((w.alloc (.cells D.toArray 31)).alloc (.cells E.toArray 28)).alloc (.cells Z.toArray 31)) (w.heap.size + 1) 28 E ∧ LB (((w.alloc (.cells D.toArray 31)).alloc (.cells E.toArray 28)).alloc (.cells Z.toArray 31)) (w.heap.size + 2) 31 Z ∧ Below w.heap.size w (((w.alloc (.cells D.toArray 31)).alloc (.cells E.toArray 28)).alloc (.cells Z.toArray 31))) := lb_new3 w D E Z _ _ _
 clear hD hL hE hD2 hL2 hE2 HCK0 HST0 hZ hb hT hc hnm hf k
 go_enter Tryz.func19, Tryz.ntmps19
 go_wp2_with (first | (refine wpList_alloc_Z HZ.out rfl rfl ?_; (try simp only [heap_one])) | (refine wpList_load_mid rfl 31 _ rfl w.heap.size 0 rfl D _ HX.out.1.range Tryz.underlying31 rfl HL.out ?_) | fail)
 refine (HCK.out _ HX.out.2.2.2).mono ?_
 rintro e w1 ⟨rfl, b1⟩
 have H1 : Hid (LB w1 w.heap.size 31 D ∧ LB w1 (w.heap.size + 1) 28 E ∧ LB w1 (w.heap.size + 2) 31 Z ∧ Below w.heap.size w w1) := ⟨HX.out.1.kept b1, HX.out.2.1.kept b1, HX.out.2.2.1.kept b1, andThen HX.out.2.2.2 b1⟩
 clear b1 HX HCK
 go_wp2_with (first | (refine wpList_load_mid rfl 31 _ rfl w.heap.size 0 rfl D _ H1.out.1.range Tryz.underlying31 rfl HL.out ?_) | (refine wpList_load_mid rfl 28 _ rfl (w.heap.size + 1) 0 rfl E _ H1.out.2.1.range Tryz.underlying28 rfl HL2.out ?_) | fail)
 refine (HST.out _ H1.out.2.2.2).mono ?_
 rintro e w2 ⟨h2, rfl, o2, b2⟩
 obtain ⟨G, hG, hGL, hGE⟩ := sv_letter Q h2
 rw [hG]
 have HGL : Hid _ := hGL
 have HG : Hid (sv Q h2 = .agg G.toArray) := hG
 have HG1 : Hid (∀ v ∈ G, v.oneCell' = true) := by show ∀ v ∈ G, _; rw [hGE]; exact scl_one _ _
 have HGZ : Hid (G.length = Z.length) := by show _ = _; rw [hGE, HZL.out]; rfl
 have H5 : Hid (LB w2 (w.heap.size + 2) 31 Z ∧ Below w.heap.size w w2 ∧ SgOwn w.heap.size w2 Q h2) := ⟨H1.out.2.2.1.kept b2, andThen H1.out.2.2.2 b2, o2.weak H1.out.2.2.2.size⟩
 clear hG hGL hGE b2 o2 H1 HST
 go_wp2_with (first | (refine wpList_store_mid rfl 31 (.tmp 4) (.tmp 16) rfl (w.heap.size + 2) 0 G.toArray rfl rfl (there_of H5.out.1 (by simpa using HGZ.out)) (by simpa using HGL.out) (all_oneCell_toArray HG1.out) ?_; (rw [List.toList_toArray])) | fail)
 have HR9 : Hid ((w2.setCells (w.heap.size + 2) 0 G).rangeAt (w.heap.size + 2) 0 G) := (H5.out.1.sets G HGZ.out).range
 refine bodyPost_ret (results_cell_slot (p := 4) (s := 5) (ty := 31) rfl _ (w2.setCells (w.heap.size + 2) 0 G) (w.heap.size + 2) G _ rfl HR9.out Tryz.underlying31 rfl HGL.out) rfl ?_
 exact ⟨h2, by rw [HG.out]; rfl, sgown_oth H5.out.2.2 H5.out.1 (Oth.sets _ _ _ _), below_cells (by omega) _ 0 _ H5.out.2.1⟩
theorem rxapply_bad (S : Sg) (h : SH) (r : Rec) (d : Value) (w : World) (k : SgAt w S h) (hT : Tabs w) (hF : Fits S) (hc : chkS S = false) : Calls Tryz.prog 19 #[sv S h, rv r.x r.nm d] w fun e w' => AxPost w (applyP S r) e w' := by
 have hA : applyP S r = (100, zSg) := by unfold applyP; rw [if_pos hc]
 rw [hA]
 have HCK0 : ∀ w', Below w.heap.size w w' → Calls Tryz.prog 34 #[sv S h] w' fun e w'' => e = .returned (.int .i64 100) ∧ Below w'.heap.size w' w'' := fun w' hb' => rxcheck_bad S h w' (k.kept hb') (hT.kept hb') hF hc
 obtain ⟨Z, hZ⟩ : ∃ Z, Z = zcl := ⟨_, rfl⟩
 have HZ : Hid (Z = zcl) := hZ
 have HZL : Hid (Z.length = 16) := by show _ = _; rw [hZ]; rfl
 have HZI : Hid ((Tryz.prog.info? 31).map (·.size) = some Z.length) := by show _ = _; rw [hZ]; exact infoSaga
 have HZ1 : Hid (∀ v ∈ Z, v.oneCell' = true) := by show ∀ v ∈ Z, _; rw [hZ]; exact scl_one zSg ⟨none, 0, none, 0, none, 0, none, 0⟩
 obtain ⟨D, hD, hL, hE⟩ := sv_letter S h
 obtain ⟨E, hD2, hL2, hE2⟩ := rv_letter r.x r.nm d
 rw [hD] at HCK0
 rw [hD, hD2]
 have HCK : Hid _ := HCK0
 have HL : Hid _ := hL
 have HX : Hid (LB (((w.alloc (.cells D.toArray 31)).alloc (.cells E.toArray 28)).alloc (.cells Z.toArray 31)) w.heap.size 31 D ∧ LB (((w.alloc (.cells D.toArray 31)).alloc (.cells E.toArray 28)).alloc (.cells Z.toArray 31)) (w.heap.size + 1) 28 E ∧ LB (((w.alloc (.cells D.toArray 31)).alloc (.cells E.toArray 28)).alloc (.cells Z.toArray 31)) (w.heap.size + 2) 31 Z ∧ Below w.heap.size w (((w.alloc (.cells D.toArray 31)).alloc (.cells E.toArray 28)).alloc (.cells Z.toArray 31))) := lb_new3 w D E Z _ _ _
 clear hD hL hE hD2 hL2 hE2 HCK0 hZ hT hc k hF hA
 go_enter Tryz.func19, Tryz.ntmps19
 go_wp2_with (first | (refine wpList_alloc_Z HZ.out rfl rfl ?_; (try simp only [heap_one])) | (refine wpList_load_mid rfl 31 _ rfl w.heap.size 0 rfl D _ HX.out.1.range Tryz.underlying31 rfl HL.out ?_) | fail)
 refine (HCK.out _ HX.out.2.2.2).mono ?_
 rintro e w1 ⟨rfl, b1⟩
 have H1 : Hid (LB w1 w.heap.size 31 D ∧ LB w1 (w.heap.size + 1) 28 E ∧ LB w1 (w.heap.size + 2) 31 Z ∧ Below w.heap.size w w1) := ⟨HX.out.1.kept b1, HX.out.2.1.kept b1, HX.out.2.2.1.kept b1, andThen HX.out.2.2.2 b1⟩
 clear b1 HX HCK
 have HT4 : Hid (w1.there (w.heap.size + 2) 0 Z.toArray.size) := there_of H1.out.2.2.1 (by simp)
 go_wp2_with (first | (refine wpList_build_Z HZ.out rfl rfl ?_) | (refine wpList_store_mid rfl 31 (.tmp 4) (.tmp 11) rfl (w.heap.size + 2) 0 Z.toArray rfl rfl HT4.out (by simpa using HZI.out) (all_oneCell_toArray HZ1.out) ?_; (rw [List.toList_toArray])) | fail)
 have HR9 : Hid ((w1.setCells (w.heap.size + 2) 0 Z).rangeAt (w.heap.size + 2) 0 Z) := (H1.out.2.2.1.sets Z rfl).range
 refine bodyPost_ret (results_cell_slot (p := 4) (s := 5) (ty := 31) rfl _ (w1.setCells (w.heap.size + 2) 0 Z) (w.heap.size + 2) Z _ rfl HR9.out Tryz.underlying31 rfl HZI.out) rfl ?_
 exact ⟨⟨none, 0, none, 0, none, 0, none, 0⟩, by rw [HZ.out]; rfl, sgown_zero _ _, below_cells (by omega) _ 0 _ H1.out.2.2.2⟩

theorem rxapply_all (S : Sg) (h : SH) (r : Rec) (d : Value) (w : World) (k : SgAt w S h) (hb : Bs w d r.l) (hT : Tabs w) (hF : Fits S) (hnm : r.nm.size ≤ 1048576) (hf : r.x.fit) : Calls Tryz.prog 19 #[sv S h, rv r.x r.nm d] w fun e w' => AxPost w (applyP S r) e w' := by
 cases hc : chkS S with
 | true => exact rxapply_any S h r d w k hb hT hc hF.fc hF.nm hnm hf
 | false => exact rxapply_bad S h r d w k hT hF hc
theorem answered_1 (S : Sg) (h : SH) (r : Rec) (d : Value) (w : World) (hb : Bs w d r.l) (hT : STabs w) (hR : Tabs w) (hnm : r.nm.size ≤ 1048576) (hf : r.x.fit) : Calls Tryz.prog 24 #[ov 1 S h r.x r.nm d] w fun e w' => e = .returned (.bool true) ∧ Below w.heap.size w w' := by
 have HA0 : ∀ w', Below w.heap.size w w' → Calls Tryz.prog 10 #[rv r.x r.nm d] w' fun e w'' => Mkd (beginP r).1 (beginP r).2 w' e w'' := fun w' hb' => (begin_any r d w' (hb.kept hb') (hT.kept hb').e (by omega) hf).mono fun e w'' ⟨h', e1, e2, e3⟩ => ⟨h', e1, e2.weak (Nat.zero_le _), e3⟩
 have HB0 : ∀ w', Below w.heap.size w w' → Calls Tryz.prog 39 #[rv r.x r.nm d] w' fun e w'' => Mkd (beginP r).1 (beginP r).2 w' e w'' := fun w' hb' => (rxbegin_any r d w' (hb.kept hb') (hR.kept hb') hnm hf).mono fun e w'' ⟨h', e1, e2, e3⟩ => ⟨h', e1, (own_o e2).weak (Nat.zero_le _), e3⟩
 obtain ⟨z, hz⟩ : ∃ z, (beginP r).1 = z := ⟨_, rfl⟩
 obtain ⟨Q, hQ⟩ : ∃ Q, (beginP r).2 = Q := ⟨_, rfl⟩
 rw [hz, hQ] at HA0 HB0
 clear hz hQ
 obtain ⟨Z, hZ⟩ : ∃ Z, Z = zcl := ⟨_, rfl⟩
 have HZ : Hid (Z = zcl) := hZ
 have HZL : Hid (Z.length = 16) := by show _ = _; rw [hZ]; rfl
 obtain ⟨D, hD, hL, hE⟩ := sv_letter S h
 obtain ⟨E, hD2, hL2, hE2⟩ := rv_letter r.x r.nm d
 have hov : ov 1 S h r.x r.nm d = .agg (.int .i64 1 :: (D ++ E)).toArray := by unfold ov; rw [hE, hE2]
 rw [hov]
 have HL : Hid _ := hL
 have HL2 : Hid _ := hL2
 have hDl : D.length = 16 := by rw [hE]; rfl
 have k0 := (lb_new w (.int .i64 1 :: (D ++ E)) 40).cell 0 (.int .i64 1) rfl
 obtain ⟨L, hLL⟩ : ∃ L, (.int .i64 1 :: (D ++ E) : List Value) = L := ⟨_, rfl⟩
 have HRD : Hid (∀ wx, LB wx w.heap.size 40 L → wx.rangeAt w.heap.size 1 D ∧ wx.rangeAt w.heap.size 17 E) := fun wx l => by
  rw [← hLL] at l
  exact ⟨mid_range l.range, end_range l.range hDl⟩
 rw [hLL] at k0 ⊢
 have HX : Hid (LB (w.alloc (.cells L.toArray 40)) w.heap.size 40 L ∧ Below w.heap.size w (w.alloc (.cells L.toArray 40))) := ⟨lb_new w L _, up0 _ _⟩
 clear hov hLL
 rw [hD2] at HA0 HB0
 have HA : Hid _ := HA0
 have HB : Hid _ := HB0
 clear hD hL hE hD2 hL2 hE2 HA0 HB0 hZ hb hT hR hnm hf hDl
 go_enter Tryz.func24, Tryz.ntmps24
 go_wp2_with (first | (refine wpList_load_mid rfl 31 _ rfl w.heap.size 1 rfl D _ (HRD.out _ HX.out.1).1 Tryz.underlying31 rfl HL.out ?_) | (refine wpList_load_mid rfl 28 _ rfl w.heap.size 17 rfl E _ (HRD.out _ HX.out.1).2 Tryz.underlying28 rfl HL2.out ?_) | fail)
 refine (HA.out _ HX.out.2).mono ?_
 rintro e w1 ⟨h1, rfl, o1, b1⟩
 obtain ⟨T1, hT1, hTL1, hTE1⟩ := sv_letter Q h1
 rw [hT1]
 have TL1 : Hid _ := hTL1
 have TV1 : Hid (sv Q h1 = .agg T1.toArray) := hT1
 have TO1 : Hid (∀ v ∈ T1, v.oneCell' = true) := by show ∀ v ∈ T1, _; rw [hTE1]; exact scl_one _ _
 have TZ1 : Hid (T1.length = Z.length) := by show _ = _; rw [hTE1, HZL.out]; rfl
 have TT1 : Hid ((w1.alloc (.cells Z.toArray 31)).there w1.heap.size 0 T1.toArray.size) := there_of (lb_new w1 Z _) (by simpa using TZ1.out)
 have E1 : Hid (∃ Y, Y = (w1.alloc (.cells Z.toArray 31)).setCells w1.heap.size 0 T1 ∧ LB Y w.heap.size 40 L ∧ LB Y w1.heap.size 31 T1 ∧ SgO 0 Y Q h1 ∧ Below w.heap.size w Y) := by
  obtain ⟨q1, q2⟩ := one_boxR w1 31 Z T1 TZ1.out
  exact ⟨_, rfl, (HX.out.1.kept b1).kept q2, q1, o1.kept q2, andThen (andThen HX.out.2 b1) q2⟩
 clear hT1 hTL1 hTE1 o1 b1 HX HA k0
 go_wp2_with (first | (refine wpList_alloc_Z HZ.out rfl rfl ?_) | (refine wpList_store_mid rfl 31 (.tmp 3) (.tmp 24) rfl w1.heap.size 0 T1.toArray rfl rfl TT1.out (by simpa using TL1.out) (all_oneCell_toArray TO1.out) ?_; (obtain ⟨Y, hY, hq⟩ := E1.out); (have H1 : Hid _ := hq); (rw [List.toList_toArray, ← hY]); (clear hY hq E1 TT1)) | (refine wpList_load_mid rfl 31 _ rfl w.heap.size 1 rfl D _ (HRD.out _ H1.out.1).1 Tryz.underlying31 rfl HL.out ?_) | (refine wpList_load_mid rfl 28 _ rfl w.heap.size 17 rfl E _ (HRD.out _ H1.out.1).2 Tryz.underlying28 rfl HL2.out ?_) | fail)
 generalize w1.heap.size = p1 at *
 refine (HB.out _ H1.out.2.2.2).mono ?_
 rintro e w2 ⟨h2, rfl, o2, b2⟩
 obtain ⟨T2, hT2, hTL2, hTE2⟩ := sv_letter Q h2
 rw [hT2]
 have TL2 : Hid _ := hTL2
 have TV2 : Hid (sv Q h2 = .agg T2.toArray) := hT2
 have TO2 : Hid (∀ v ∈ T2, v.oneCell' = true) := by show ∀ v ∈ T2, _; rw [hTE2]; exact scl_one _ _
 have TZ2 : Hid (T2.length = Z.length) := by show _ = _; rw [hTE2, HZL.out]; rfl
 have TT2 : Hid ((w2.alloc (.cells Z.toArray 31)).there w2.heap.size 0 T2.toArray.size) := there_of (lb_new w2 Z _) (by simpa using TZ2.out)
 have E2 : Hid (∃ Y, Y = (w2.alloc (.cells Z.toArray 31)).setCells w2.heap.size 0 T2 ∧ LB Y p1 31 T1 ∧ SgO 0 Y Q h1 ∧ LB Y w2.heap.size 31 T2 ∧ SgO 0 Y Q h2 ∧ Below w.heap.size w Y) := by
  obtain ⟨q1, q2⟩ := one_boxR w2 31 Z T2 TZ2.out
  exact ⟨_, rfl, (H1.out.2.1.kept b2).kept q2, (H1.out.2.2.1.kept b2).kept q2, q1, o2.kept q2, andThen (andThen H1.out.2.2.2 b2) q2⟩
 have HSM : Hid (∀ w', SgO 0 w' Q h1 → SgO 0 w' Q h2 → Calls Tryz.prog 12 #[.agg T1.toArray, .agg T2.toArray] w' fun e w'' => e = .returned (.bool true) ∧ Below w'.heap.size w' w'') := fun w' q1 q2 => by have e := same_any Q h1 h2 w' q1.at q2.at; rw [TV1.out, TV2.out] at e; exact e
 clear hT2 hTL2 hTE2 o2 b2 H1 HB
 go_wp2_with (first | (refine wpList_alloc_Z HZ.out rfl rfl ?_) | (refine wpList_store_mid rfl 31 (.tmp 5) (.tmp 30) rfl w2.heap.size 0 T2.toArray rfl rfl TT2.out (by simpa using TL2.out) (all_oneCell_toArray TO2.out) ?_; (obtain ⟨Y2, hY2, hq⟩ := E2.out); (have H2 : Hid _ := hq); (rw [List.toList_toArray, ← hY2]); (clear hY2 hq E2 TT2)) | (refine wpList_load_mid rfl 31 _ rfl p1 0 rfl T1 _ H2.out.1.range Tryz.underlying31 rfl TL1.out ?_) | (refine wpList_load_mid rfl 31 _ rfl w2.heap.size 0 rfl T2 _ H2.out.2.2.1.range Tryz.underlying31 rfl TL2.out ?_) | fail)
 refine (HSM.out _ H2.out.2.1 H2.out.2.2.2.1).mono ?_
 rintro e w3 ⟨rfl, b3⟩
 have H3 : Hid (Below w.heap.size w w3) := andThen H2.out.2.2.2.2 b3
 clear b3 H2 HSM
 have yz : (z == z) = true := by simp
 go_wp2_with fail
 refine (snum_any z _).mono ?_
 rintro e _ ⟨rfl, rfl⟩
 go_wp2
 go_ret
 exact ⟨rfl, H3.out⟩
theorem answered_2 (S : Sg) (h : SH) (r : Rec) (d : Value) (w : World) (k : SgAt w S h) (hb : Bs w d r.l) (hT : STabs w) (hR : Tabs w) (hF : Fits S) (hnm : r.nm.size ≤ 1048576) (hf : r.x.fit) : Calls Tryz.prog 24 #[ov 2 S h r.x r.nm d] w fun e w' => e = .returned (.bool true) ∧ Below w.heap.size w w' := by
 have HA0 : ∀ w', Below w.heap.size w w' → Calls Tryz.prog 18 #[sv S h, rv r.x r.nm d] w' fun e w'' => Mkd (applyP S r).1 (applyP S r).2 w' e w'' := fun w' hb' => (apply_any S h r d w' (k.kept hb') (hb.kept hb') (hT.kept hb') (by have := hF.nm; omega) (by omega) hf).mono fun e w'' ⟨h', e1, e2, e3⟩ => ⟨h', e1, e2.weak (Nat.zero_le _), e3⟩
 have HB0 : ∀ w', Below w.heap.size w w' → Calls Tryz.prog 19 #[sv S h, rv r.x r.nm d] w' fun e w'' => Mkd (applyP S r).1 (applyP S r).2 w' e w'' := fun w' hb' => (rxapply_all S h r d w' (k.kept hb') (hb.kept hb') (hR.kept hb') hF hnm hf).mono fun e w'' ⟨h', e1, e2, e3⟩ => ⟨h', e1, (own_o e2).weak (Nat.zero_le _), e3⟩
 obtain ⟨z, hz⟩ : ∃ z, (applyP S r).1 = z := ⟨_, rfl⟩
 obtain ⟨Q, hQ⟩ : ∃ Q, (applyP S r).2 = Q := ⟨_, rfl⟩
 rw [hz, hQ] at HA0 HB0
 clear hz hQ
 obtain ⟨Z, hZ⟩ : ∃ Z, Z = zcl := ⟨_, rfl⟩
 have HZ : Hid (Z = zcl) := hZ
 have HZL : Hid (Z.length = 16) := by show _ = _; rw [hZ]; rfl
 obtain ⟨D, hD, hL, hE⟩ := sv_letter S h
 obtain ⟨E, hD2, hL2, hE2⟩ := rv_letter r.x r.nm d
 have hov : ov 2 S h r.x r.nm d = .agg (.int .i64 2 :: (D ++ E)).toArray := by unfold ov; rw [hE, hE2]
 rw [hov]
 have HL : Hid _ := hL
 have HL2 : Hid _ := hL2
 have hDl : D.length = 16 := by rw [hE]; rfl
 have k0 := (lb_new w (.int .i64 2 :: (D ++ E)) 40).cell 0 (.int .i64 2) rfl
 obtain ⟨L, hLL⟩ : ∃ L, (.int .i64 2 :: (D ++ E) : List Value) = L := ⟨_, rfl⟩
 have HRD : Hid (∀ wx, LB wx w.heap.size 40 L → wx.rangeAt w.heap.size 1 D ∧ wx.rangeAt w.heap.size 17 E) := fun wx l => by
  rw [← hLL] at l
  exact ⟨mid_range l.range, end_range l.range hDl⟩
 rw [hLL] at k0 ⊢
 have HX : Hid (LB (w.alloc (.cells L.toArray 40)) w.heap.size 40 L ∧ Below w.heap.size w (w.alloc (.cells L.toArray 40))) := ⟨lb_new w L _, up0 _ _⟩
 clear hov hLL
 rw [hD, hD2] at HA0 HB0
 have HA : Hid _ := HA0
 have HB : Hid _ := HB0
 clear hD hL hE hD2 hL2 hE2 HA0 HB0 hZ hb hT hR hnm hf hDl k hF
 go_enter Tryz.func24, Tryz.ntmps24
 go_wp2_with (first | (refine wpList_load_mid rfl 31 _ rfl w.heap.size 1 rfl D _ (HRD.out _ HX.out.1).1 Tryz.underlying31 rfl HL.out ?_) | (refine wpList_load_mid rfl 28 _ rfl w.heap.size 17 rfl E _ (HRD.out _ HX.out.1).2 Tryz.underlying28 rfl HL2.out ?_) | fail)
 refine (HA.out _ HX.out.2).mono ?_
 rintro e w1 ⟨h1, rfl, o1, b1⟩
 obtain ⟨T1, hT1, hTL1, hTE1⟩ := sv_letter Q h1
 rw [hT1]
 have TL1 : Hid _ := hTL1
 have TV1 : Hid (sv Q h1 = .agg T1.toArray) := hT1
 have TO1 : Hid (∀ v ∈ T1, v.oneCell' = true) := by show ∀ v ∈ T1, _; rw [hTE1]; exact scl_one _ _
 have TZ1 : Hid (T1.length = Z.length) := by show _ = _; rw [hTE1, HZL.out]; rfl
 have TT1 : Hid ((w1.alloc (.cells Z.toArray 31)).there w1.heap.size 0 T1.toArray.size) := there_of (lb_new w1 Z _) (by simpa using TZ1.out)
 have E1 : Hid (∃ Y, Y = (w1.alloc (.cells Z.toArray 31)).setCells w1.heap.size 0 T1 ∧ LB Y w.heap.size 40 L ∧ LB Y w1.heap.size 31 T1 ∧ SgO 0 Y Q h1 ∧ Below w.heap.size w Y) := by
  obtain ⟨q1, q2⟩ := one_boxR w1 31 Z T1 TZ1.out
  exact ⟨_, rfl, (HX.out.1.kept b1).kept q2, q1, o1.kept q2, andThen (andThen HX.out.2 b1) q2⟩
 clear hT1 hTL1 hTE1 o1 b1 HX HA k0
 go_wp2_with (first | (refine wpList_alloc_Z HZ.out rfl rfl ?_) | (refine wpList_store_mid rfl 31 (.tmp 7) (.tmp 49) rfl w1.heap.size 0 T1.toArray rfl rfl TT1.out (by simpa using TL1.out) (all_oneCell_toArray TO1.out) ?_; (obtain ⟨Y, hY, hq⟩ := E1.out); (have H1 : Hid _ := hq); (rw [List.toList_toArray, ← hY]); (clear hY hq E1 TT1)) | (refine wpList_load_mid rfl 31 _ rfl w.heap.size 1 rfl D _ (HRD.out _ H1.out.1).1 Tryz.underlying31 rfl HL.out ?_) | (refine wpList_load_mid rfl 28 _ rfl w.heap.size 17 rfl E _ (HRD.out _ H1.out.1).2 Tryz.underlying28 rfl HL2.out ?_) | fail)
 generalize w1.heap.size = p1 at *
 refine (HB.out _ H1.out.2.2.2).mono ?_
 rintro e w2 ⟨h2, rfl, o2, b2⟩
 obtain ⟨T2, hT2, hTL2, hTE2⟩ := sv_letter Q h2
 rw [hT2]
 have TL2 : Hid _ := hTL2
 have TV2 : Hid (sv Q h2 = .agg T2.toArray) := hT2
 have TO2 : Hid (∀ v ∈ T2, v.oneCell' = true) := by show ∀ v ∈ T2, _; rw [hTE2]; exact scl_one _ _
 have TZ2 : Hid (T2.length = Z.length) := by show _ = _; rw [hTE2, HZL.out]; rfl
 have TT2 : Hid ((w2.alloc (.cells Z.toArray 31)).there w2.heap.size 0 T2.toArray.size) := there_of (lb_new w2 Z _) (by simpa using TZ2.out)
 have E2 : Hid (∃ Y, Y = (w2.alloc (.cells Z.toArray 31)).setCells w2.heap.size 0 T2 ∧ LB Y p1 31 T1 ∧ SgO 0 Y Q h1 ∧ LB Y w2.heap.size 31 T2 ∧ SgO 0 Y Q h2 ∧ Below w.heap.size w Y) := by
  obtain ⟨q1, q2⟩ := one_boxR w2 31 Z T2 TZ2.out
  exact ⟨_, rfl, (H1.out.2.1.kept b2).kept q2, (H1.out.2.2.1.kept b2).kept q2, q1, o2.kept q2, andThen (andThen H1.out.2.2.2 b2) q2⟩
 have HSM : Hid (∀ w', SgO 0 w' Q h1 → SgO 0 w' Q h2 → Calls Tryz.prog 12 #[.agg T1.toArray, .agg T2.toArray] w' fun e w'' => e = .returned (.bool true) ∧ Below w'.heap.size w' w'') := fun w' q1 q2 => by have e := same_any Q h1 h2 w' q1.at q2.at; rw [TV1.out, TV2.out] at e; exact e
 clear hT2 hTL2 hTE2 o2 b2 H1 HB
 go_wp2_with (first | (refine wpList_alloc_Z HZ.out rfl rfl ?_) | (refine wpList_store_mid rfl 31 (.tmp 9) (.tmp 57) rfl w2.heap.size 0 T2.toArray rfl rfl TT2.out (by simpa using TL2.out) (all_oneCell_toArray TO2.out) ?_; (obtain ⟨Y2, hY2, hq⟩ := E2.out); (have H2 : Hid _ := hq); (rw [List.toList_toArray, ← hY2]); (clear hY2 hq E2 TT2)) | (refine wpList_load_mid rfl 31 _ rfl p1 0 rfl T1 _ H2.out.1.range Tryz.underlying31 rfl TL1.out ?_) | (refine wpList_load_mid rfl 31 _ rfl w2.heap.size 0 rfl T2 _ H2.out.2.2.1.range Tryz.underlying31 rfl TL2.out ?_) | fail)
 refine (HSM.out _ H2.out.2.1 H2.out.2.2.2.1).mono ?_
 rintro e w3 ⟨rfl, b3⟩
 have H3 : Hid (Below w.heap.size w w3) := andThen H2.out.2.2.2.2 b3
 clear b3 H2 HSM
 have yz : (z == z) = true := by simp
 go_wp2_with fail
 refine (snum_any z _).mono ?_
 rintro e _ ⟨rfl, rfl⟩
 go_wp2
 go_ret
 exact ⟨rfl, H3.out⟩
end Go.Proofs.YtgmkjcfdpiinpaaGreatDoor
namespace Go.Proofs.YtgmkjcfdpiinpaaGreatDoor
open Go Go.RowKit Go.ChangeShapes Go.WideShapes Go.ChangeAt
open Wb

end Go.Proofs.YtgmkjcfdpiinpaaGreatDoor
namespace Go.Proofs.YtgmkjcfdpiinpaaGreatDoor
open Go Go.RowKit
open Wb

theorem sagaMoves_an (x : OpX) (h' : SH) (d' : Value) (w' : World) (q : x.fine) (hk : 1 ≤ x.k ∧ x.k ≤ 2) (t1 : STabs w') (t2 : Tabs w') (k1 : SgAt w' x.s h') (k2 : Bs w' d' x.r.l) : Calls Tryz.prog 24 #[ov x.k x.s h' x.r.x x.r.nm d'] w' fun e w'' => e = .returned (.bool true) ∧ Below w'.heap.size w' w'' := by
 have hk9 : x.k = 1 ∨ x.k = 2 := by omega
 rcases hk9 with e | e
 ·rw [e]; exact answered_1 x.s h' x.r d' w' k2 t1 t2 q.2.1 q.2.2.1
 ·rw [e]; exact answered_2 x.s h' x.r d' w' k1 k2 t1 t2 q.1 q.2.1 q.2.2.1
theorem sagaMoves_any (v : Value) (os : List OpX) (w : World) (h : OpsAt w v os) (hT : STabs w) (hR : Tabs w) : Calls Tryz.prog 3 #[v] w fun e w' => e = .returned (.bool true) ∧ Below w.heap.size w w' := by
 have HST : Hid (Calls Tryz.prog 7 #[] w fun e w' => e = .returned (.bool true) ∧ Below w.heap.size w w') := sstarted_any w hR hT
 have HUP : Hid (∀ w', Below w.heap.size w w' → Calls Tryz.prog 8 #[v, .int .i64 1, .int .i64 2] w' fun e w'' => e = .returned (.bool true) ∧ Below w'.heap.size w' w'') := fun w' hb => upTo_any v os 1 2 w' (by
  obtain ⟨ao, cap, e, hm, hc⟩ := h
  refine ⟨ao, cap, e, hm, fun k o ho => ?_⟩
  obtain ⟨b, off, e2, q1, q2⟩ := hc k o ho
  exact ⟨b, off, e2, fun j u hu => by rw [hb.cell (World.block_lt_of_cell? w _ (q1 j u hu))]; exact q1 j u hu, q2.kept hb⟩) (hT.kept hb) (hR.kept hb) sagaMoves_an
 clear h hT hR
 go_enter Tryz.func3, Tryz.ntmps3
 go_wp2_with fail
 refine Calls.mono HST.out ?_
 rintro e w1 ⟨rfl, b1⟩
 have H1 : Hid (Below w.heap.size w w1) := b1
 clear b1 HST
 go_wp2_with fail
 refine (HUP.out _ H1.out).mono ?_
 rintro e w2 ⟨rfl, b2⟩
 have H2 : Hid (Below w.heap.size w w2) := andThen H1.out b2
 clear b2 H1 HUP
 go_wp2
 go_ret
 exact ⟨rfl, H2.out⟩
end Go.Proofs.YtgmkjcfdpiinpaaGreatDoor

