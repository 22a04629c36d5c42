import Derived.Deep.CutRange
import Derived.Test.YtgjlkkikgkbamaaDoorQC6
/-
  SagaTold: the walk.
-/
namespace Go.Proofs.YtgjlkkikgkbamaaDoor
open Go Go.RowKit
open Wb

set_option maxRecDepth 100000 in
set_option maxHeartbeats 16000000 in
theorem sagaTold_walk (S : Sg) (h : SH) (r : Rec) (d : Value) (w : World) (k : SgAt w S h) (hb : Bs w d r.l) (hT : STabs w) (hnm : S.nm.size ≤ 140737488355000) (hnm2 : r.nm.size ≤ 140737488355000) (hf : r.x.fit) (hfc : -9223372036854775808 ≤ S.x.fc ∧ S.x.fc ≤ 9223372036854775807) :
    Calls Tryd.prog 6 #[sv S h, rv r.x r.nm d] w fun e w' => e = .returned (.bool true) ∧ Below w.heap.size w w' := by
  have HS1 : Hid (∀ (h1 : SH) (w' : World), Below w.heap.size w w' → SgAt w' sg1 h1 → Calls Tryd.prog 19 #[sv sg1 h1] w' fun e w'' => ∃ g cap d1, e = .returned (.tuple #[.slice (some ⟨g, 0, none⟩) 1 cap, .int .i64 0]) ∧ w''.rangeAt g 0 (rcl (rec1, d1)) ∧ Bs w'' d1 rec1.l ∧ Below w'.heap.size w' w'') := fun h1 w' hb' k' => story_first h1 w' k' (hT.kept hb').e.tabs.lets
  have HAP : Hid (∀ (S' : Sg) (h' : SH) (r' : Rec) (d' : Value) (w' : World), Below w.heap.size w w' → SgAt w' S' h' → S'.nm.size ≤ 140737488355000 → Bs w' d' r'.l → r'.nm.size ≤ 140737488355000 → r'.x.fit → Calls Tryd.prog 9 #[sv S' h', rv r'.x r'.nm d'] w' fun e w'' => ∃ h'', e = .returned (.tuple #[sv (applyP S' r').2 h'', .int .i64 (applyP S' r').1]) ∧ SgO 0 w'' (applyP S' r').2 h'' ∧ Below w'.heap.size w' w'') := fun S' h' r' d' w' hb' k' hn' hd h1 h2 =>
    (apply_any S' h' r' d' w' k' hd (hT.kept hb') hn' h1 h2).mono fun e w'' ⟨h'', e1, e2, e3⟩ => ⟨h'', e1, e2.weak (Nat.zero_le _), e3⟩
  have HCH : Hid (∀ (S' : Sg) (h' : SH) (w' : World), Below w.heap.size w w' → SgAt w' S' h' → S'.nm.size ≤ 140737488355000 → Calls Tryd.prog 18 #[sv S' h'] w' fun e w'' => e = .returned (.int .i64 (ckE (chkS S'))) ∧ Below w'.heap.size w' w'') := fun S' h' w' hb' k' hn' => scheck_any S' h' w' k' (hT.kept hb').e.tabs.lets hn'
  have HSA : Hid (∀ (d1 d2 : Value) (w' : World), Bs w' d1 rec1.l → Bs w' d2 rec1.l → Calls Tryd.prog 20 #[rv rec1.x rec1.nm d1, rv rec1.x rec1.nm d2] w' fun e w'' => e = .returned (.bool true) ∧ Below w'.heap.size w' w'') := fun d1 d2 w' h1 h2 => (refsame_any rec1.x rec1.x rec1.nm rec1.nm d1 d2 rec1.l rec1.l w' h1 h2).mono fun e w'' ⟨he, hk'⟩ => ⟨by rw [he]; simp [recEq], hk'⟩
  have HK : Hid (∀ w', Below w.heap.size w w' → SgAt w' S h ∧ Bs w' d r.l) := fun w' hb' => ⟨k.kept hb', hb.kept hb'⟩
  have HB : Hid (S.nm.size ≤ 140737488355000 ∧ r.nm.size ≤ 140737488355000 ∧ r.x.fit) := ⟨hnm, hnm2, hf⟩
  have HTL : Hid (∀ w', Below w.heap.size w w' → Text.TabP 3 .i32 Text.Tx.lets w' ∧ ETabs w') := fun w' hb' => ⟨(hT.kept hb').e.tabs.lets, (hT.kept hb').e⟩
  have HOK : Hid (ok r.l ∧ ok S.inp) := ⟨hb.good, k.inp.good⟩
  clear k hb hT hnm hnm2 hf
  obtain ⟨Z, hZ⟩ : ∃ Z, Z = zcl := ⟨_, rfl⟩
  obtain ⟨ZR, hZR⟩ : ∃ ZR, ZR = zrl := ⟨_, rfl⟩
  have HZ : Hid (Z = zcl) := hZ
  have HZR : Hid (ZR = zrl) := hZR
  have HZL : Hid (Z.length = 16) := by show _ = _; rw [hZ]; rfl
  have HZRL : Hid (ZR.length = 12) := by show _ = _; rw [hZR]; rfl
  clear hZ hZR
  obtain ⟨D, hD, hL, hE⟩ := sv_letter S h
  obtain ⟨E, hD2, hL2, hE2⟩ := rv_letter r.x r.nm d
  rw [hD, hD2]
  have HDS : Hid (sv S h = .agg D.toArray) := hD
  have HDR : Hid (rv r.x r.nm d = .agg E.toArray) := hD2
  have HL : Hid _ := hL
  have HL2 : Hid _ := hL2
  have HE : Hid (D = scl S h) := hE
  have HE2 : Hid (E = rcE r.x r.nm d) := hE2
  have HX : Hid (∀ t t2, LB ((w.alloc (.cells D.toArray t)).alloc (.cells E.toArray t2)) w.heap.size t D ∧ LB ((w.alloc (.cells D.toArray t)).alloc (.cells E.toArray t2)) (w.heap.size + 1) t2 E ∧ Below w.heap.size w ((w.alloc (.cells D.toArray t)).alloc (.cells E.toArray t2))) := fun t t2 => lb_new2 w D E t t2
  clear hD hL hE hD2 hL2 hE2
  have HX1 : Hid _ := HX.out 28 25
  clear HX
  go_enter Tryd.func6, Tryd.ntmps6
  go_wp2_with fail
  refine (first_any _).mono ?_
  rintro e w1 ⟨a1, c1, h1, rfl, bs1, at1, b1⟩
  have H1 : Hid (LB w1 w.heap.size 28 D ∧ LB w1 (w.heap.size + 1) 25 E ∧ Below w.heap.size w w1 ∧ Bs w1 (.slice a1 rec1.l.length c1) rec1.l ∧ SgAt w1 sg1 h1) := ⟨HX1.out.1.kept b1, HX1.out.2.1.kept b1, andThen HX1.out.2.2 b1, bs1, at1⟩
  clear b1 bs1 at1 HX1
  obtain ⟨G1, hG1, hGL, hGE⟩ := rv_letter rec1.x rec1.nm (.slice a1 rec1.l.length c1)
  obtain ⟨D1, hD1, hDL, hDE⟩ := sv_letter sg1 h1
  rw [hG1, hD1]
  have HS1' : Hid (∀ w', Below w.heap.size w w' → SgAt w' sg1 h1 → Calls Tryd.prog 19 #[.agg D1.toArray] w' fun e w'' => ∃ g cap d1, e = .returned (.tuple #[.slice (some ⟨g, 0, none⟩) 1 cap, .int .i64 0]) ∧ w''.rangeAt g 0 (rcl (rec1, d1)) ∧ Bs w'' d1 rec1.l ∧ Below w'.heap.size w' w'') := fun w' hb' hd => by
    have e := HS1.out h1 w' hb' hd
    rw [hD1] at e
    exact e
  have HGE : Hid (G1 = rcE rec1.x rec1.nm (.slice a1 rec1.l.length c1)) := hGE
  have HG0 : Hid (rv rec1.x rec1.nm (.slice a1 rec1.l.length c1) = .agg G1.toArray) := hG1
  have HGL : Hid _ := hGL
  have HDL : Hid _ := hDL
  have HG1 : Hid (∀ v ∈ G1, v.oneCell' = true) := by show ∀ v ∈ G1, _; rw [hGE]; exact rcE_one _ _ _ rfl
  have HD1 : Hid (∀ v ∈ D1, v.oneCell' = true) := by show ∀ v ∈ D1, _; rw [hDE]; exact scl_one _ _
  have HGZ : Hid (G1.length = ZR.length) := by show _ = _; rw [hGE, HZRL.out]; rfl
  have HDZ : Hid (D1.length = Z.length) := by show _ = _; rw [hDE, HZL.out]; rfl
  have HT1 : Hid (((w1.alloc (.cells ZR.toArray 25)).alloc (.cells Z.toArray 28)).there w1.heap.size 0 G1.toArray.size) := there_of (lb_new2 w1 ZR Z _ _).1 (by simpa using HGZ.out)
  have HT2 : Hid ((((w1.alloc (.cells ZR.toArray 25)).alloc (.cells Z.toArray 28)).setCells w1.heap.size 0 G1).there (w1.heap.size + 1) 0 D1.toArray.size) := there_of ((lb_new2 w1 ZR Z _ _).2.1.others _ _ _ (by omega)) (by simpa using HDZ.out)
  have H2 : Hid (∃ W2, W2 = (((w1.alloc (.cells ZR.toArray 25)).alloc (.cells Z.toArray 28)).setCells w1.heap.size 0 G1).setCells (w1.heap.size + 1) 0 D1 ∧ LB W2 w1.heap.size 25 G1 ∧ LB W2 (w1.heap.size + 1) 28 D1 ∧ LB W2 w.heap.size 28 D ∧ LB W2 (w.heap.size + 1) 25 E ∧ Below w.heap.size w W2 ∧ Bs W2 (.slice a1 rec1.l.length c1) rec1.l ∧ SgAt W2 sg1 h1) := by
    obtain ⟨q1, q2, q3⟩ := two_boxes w1 25 28 ZR Z G1 D1 HGZ.out HDZ.out
    exact ⟨_, rfl, q1, q2, H1.out.1.kept q3, H1.out.2.1.kept q3, andThen H1.out.2.2.1 q3, H1.out.2.2.2.1.kept q3, H1.out.2.2.2.2.kept q3⟩
  clear hG1 hGL hGE hD1 hDL hDE HS1 H1
  go_wp2_with (first | (refine wpList_alloc_R HZR.out rfl rfl ?_) | (refine wpList_alloc_Z HZ.out rfl rfl ?_; (try simp only [heap_one])) | (refine wpList_store_mid rfl 25 (.tmp 5) (.tmp 20) rfl w1.heap.size 0 G1.toArray rfl rfl HT1.out (by simpa using HGL.out) (all_oneCell_toArray HG1.out) ?_; (rw [List.toList_toArray])) | (refine wpList_store_mid rfl 28 (.tmp 6) (.tmp 21) rfl (w1.heap.size + 1) 0 D1.toArray rfl rfl HT2.out (by simpa using HDL.out) (all_oneCell_toArray HD1.out) ?_; (obtain ⟨W2, hW2, hq⟩ := H2.out); (have H3 : Hid _ := hq); (rw [List.toList_toArray, ← hW2]); (clear hW2 hq H2 HT1 HT2)) | (refine wpList_load_mid rfl 28 _ rfl (w1.heap.size + 1) 0 rfl D1 _ H3.out.2.1.range Tryd.underlying28 rfl HDL.out ?_) | fail)
  refine (HS1'.out _ H3.out.2.2.2.2.1 H3.out.2.2.2.2.2.2).mono ?_
  rintro e w3 ⟨g, cap, d1, rfl, hrg, hbd, b3⟩
  obtain ⟨R1, hR1, hRL, hRE⟩ := rv_letter rec1.x rec1.nm d1
  have HR1 : Hid (rv rec1.x rec1.nm d1 = .agg R1.toArray) := hR1
  have HRL : Hid _ := hRL
  have H4 : Hid (w3.rangeAt g 0 R1 ∧ LB w3 w1.heap.size 25 G1 ∧ LB w3 w.heap.size 28 D ∧ LB w3 (w.heap.size + 1) 25 E ∧ Below w.heap.size w w3 ∧ Bs w3 (.slice a1 rec1.l.length c1) rec1.l ∧ Bs w3 d1 rec1.l) := ⟨by rw [hRE]; exact hrg, H3.out.1.kept b3, H3.out.2.2.1.kept b3, H3.out.2.2.2.1.kept b3, andThen H3.out.2.2.2.2.1 b3, H3.out.2.2.2.2.2.1.kept b3, hbd⟩
  clear hrg hbd b3 hR1 hRL hRE H3 HS1' HD1 HDZ HDL HG1 HGZ
  have HSA1 : Hid (∀ w', Bs w' d1 rec1.l → Bs w' (.slice a1 rec1.l.length c1) rec1.l → Calls Tryd.prog 20 #[.agg R1.toArray, .agg G1.toArray] w' fun e w'' => e = .returned (.bool true) ∧ Below w'.heap.size w' w'') := fun w' q1 q2 => by
    have e := HSA.out _ _ w' q1 q2
    rw [HR1.out, HG0.out] at e
    exact e
  go_wp2
  have H5 : Hid (w3.drew.rangeAt g 0 R1 ∧ LB w3.drew w1.heap.size 25 G1 ∧ LB w3.drew w.heap.size 28 D ∧ LB w3.drew (w.heap.size + 1) 25 E ∧ Below w.heap.size w w3.drew ∧ Bs w3.drew (.slice a1 rec1.l.length c1) rec1.l ∧ Bs w3.drew d1 rec1.l) := ⟨range_kept H4.out.1 (Below.drew (Below.refl _ _)), H4.out.2.1.kept (Below.drew (Below.refl _ _)), H4.out.2.2.1.kept (Below.drew (Below.refl _ _)), H4.out.2.2.2.1.kept (Below.drew (Below.refl _ _)), andThen H4.out.2.2.2.2.1 (Below.drew (Below.refl _ _)), H4.out.2.2.2.2.2.1.kept (Below.drew (Below.refl _ _)), H4.out.2.2.2.2.2.2.kept (Below.drew (Below.refl _ _))⟩
  clear H4
  refine wp_region_held_drew (S := (fun w' : World => w'.rangeAt g 0 R1 ∧ w'.rangeAt w1.heap.size 0 G1)) (by kernel_rfl) ⟨H5.out.1, H5.out.2.1.range⟩ (fun hH => ?_)
  generalize w3.drew = V1 at *
  refine wpAnyH_take (i := 0) (v := ?v1) rfl (by kernel_rfl) (by kernel_rfl) (by kernel_rfl) (fun _ _ _ h => h) (Or.inl ⟨by rfl, ?hy1⟩) hH ?rest1
  case hy1 => intro w' hSw; (try dsimp only at hSw); go_simp; all_goals rfl
  simp only [Act.put, List.setIfInBounds_toArray, List.set_cons_zero, List.set_cons_succ, List.getElem_toArray, List.getElem_cons_zero]
  refine wpAnyH_ready (rs := [1]) (by kernel_rfl) (by simp) ?_
  refine AllReadyH.cons rfl (fun K hK => ?_) AllReadyH.nil
  go_simp
  refine (snum_any 0 _).mono ?_
  rintro e _ ⟨rfl, rfl⟩
  refine hK.out _ _ ⟨H5.out.1, H5.out.2.1.range⟩ (fun hH2 => ?_)
  clear hK K hH
  have hH := hH2
  clear hH2
  refine wpAnyH_take (i := 2) (v := ?v2) rfl (by kernel_rfl) (by kernel_rfl) (by kernel_rfl) (fun _ _ _ h => h) (Or.inl ⟨by rfl, ?hy2⟩) hH ?rest2
  case hy2 => intro w' hSw; (try dsimp only at hSw); go_simp; all_goals rfl
  simp only [Act.put, List.setIfInBounds_toArray, List.set_cons_zero, List.set_cons_succ, List.getElem_toArray, List.getElem_cons_zero, List.getElem_cons_succ]
  refine wpAnyH_take (i := 3) (v := ?v3) rfl (by kernel_rfl) (by kernel_rfl) (by kernel_rfl) (fun _ _ _ h => h) (Or.inl ⟨by rfl, ?hy3⟩) hH ?rest3
  case hy3 => intro w' hSw; (try dsimp only at hSw); go_simp; all_goals rfl
  simp only [Act.put, List.setIfInBounds_toArray, List.set_cons_zero, List.set_cons_succ, List.getElem_toArray, List.getElem_cons_zero, List.getElem_cons_succ]
  refine wpAnyH_take (i := 4) (v := ?v4) rfl (by kernel_rfl) (by kernel_rfl) (by kernel_rfl) (fun _ _ _ h => h) (Or.inl ⟨by rfl, ?hy4⟩) hH ?rest4
  case hy4 => intro w' hSw; (try dsimp only at hSw); go_simp; all_goals rfl
  simp only [Act.put, List.setIfInBounds_toArray, List.set_cons_zero, List.set_cons_succ, List.getElem_toArray, List.getElem_cons_zero, List.getElem_cons_succ]
  refine wpAnyH_take (i := 5) (v := ?v5) rfl (by kernel_rfl) (by kernel_rfl) (by kernel_rfl) (fun _ _ _ h => h) (Or.inl ⟨by rfl, ?hy5⟩) hH ?rest5
  case hy5 => intro w' hSw; (try dsimp only at hSw); go_simp; all_goals rfl
  simp only [Act.put, List.setIfInBounds_toArray, List.set_cons_zero, List.set_cons_succ, List.getElem_toArray, List.getElem_cons_zero, List.getElem_cons_succ]
  refine wpAnyH_take (i := 6) (v := ?v6) rfl (by kernel_rfl) (by kernel_rfl) (by kernel_rfl) (fun _ _ _ h => h) (Or.inl ⟨by rfl, ?hy6⟩) hH ?rest6
  case hy6 => intro w' hSw; (try dsimp only at hSw); go_simp; all_goals rfl
  simp only [Act.put, List.setIfInBounds_toArray, List.set_cons_zero, List.set_cons_succ, List.getElem_toArray, List.getElem_cons_zero, List.getElem_cons_succ]
  refine wpAnyH_take (i := 7) (v := ?v7) rfl (by kernel_rfl) (by kernel_rfl) (by kernel_rfl) (fun _ _ _ h => h) (Or.inl ⟨by rfl, ?hy7⟩) hH ?rest7
  case hy7 => intro w' hSw; (try dsimp only at hSw); go_simp; all_goals rfl
  simp only [Act.put, List.setIfInBounds_toArray, List.set_cons_zero, List.set_cons_succ, List.getElem_toArray, List.getElem_cons_zero, List.getElem_cons_succ]
  refine wpAnyH_take (i := 8) (v := ?v8) rfl (by kernel_rfl) (by kernel_rfl) (by kernel_rfl) (fun _ _ _ h => h) (Or.inl ⟨by rfl, ?hy8⟩) hH ?rest8
  case hy8 => intro w' hSw; (try dsimp only at hSw); go_simp; all_goals rfl
  simp only [Act.put, List.setIfInBounds_toArray, List.set_cons_zero, List.set_cons_succ, List.getElem_toArray, List.getElem_cons_zero, List.getElem_cons_succ]
  refine wpAnyH_take (i := 9) (v := ?v9) rfl (by kernel_rfl) (by kernel_rfl) (by kernel_rfl) (fun _ _ _ h => h) (Or.inl ⟨by rfl, ?hy9⟩) hH ?rest9
  case hy9 => intro w' hSw; (try dsimp only at hSw); go_simp; all_goals rfl
  simp only [Act.put, List.setIfInBounds_toArray, List.set_cons_zero, List.set_cons_succ, List.getElem_toArray, List.getElem_cons_zero, List.getElem_cons_succ]
  refine wpAnyH_take (i := 10) (v := ?v10) rfl (by kernel_rfl) (by kernel_rfl) (by kernel_rfl) (fun _ _ _ h => h) (Or.inl ⟨by rfl, ?hy10⟩) hH ?rest10
  case hy10 => intro w' hSw; (try dsimp only at hSw); go_simp; all_goals rfl
  simp only [Act.put, List.setIfInBounds_toArray, List.set_cons_zero, List.set_cons_succ, List.getElem_toArray, List.getElem_cons_zero, List.getElem_cons_succ]
  refine wpAnyH_take (i := 11) rfl (by kernel_rfl) (by kernel_rfl) (by kernel_rfl) (fun _ _ _ h => h) (yieldsIf_load_mid (by rfl) _ _ rfl _ _ rfl R1 _ (fun w' hSw => hSw.1) Tryd.underlying25 rfl HRL.out) hH ?_
  simp only [Act.put, List.setIfInBounds_toArray, List.set_cons_zero, List.set_cons_succ, List.getElem_toArray, List.getElem_cons_zero, List.getElem_cons_succ]
  refine wpAnyH_take (i := 12) rfl (by kernel_rfl) (by kernel_rfl) (by kernel_rfl) (fun _ _ _ h => h) (yieldsIf_load_mid (by rfl) _ _ rfl _ _ rfl G1 _ (fun w' hSw => hSw.2) Tryd.underlying25 rfl HGL.out) hH ?_
  simp only [Act.put, List.setIfInBounds_toArray, List.set_cons_zero, List.set_cons_succ, List.getElem_toArray, List.getElem_cons_zero, List.getElem_cons_succ]
  refine wpAnyH_ready (rs := [13]) (by kernel_rfl) (by simp) ?_
  refine AllReadyH.cons rfl (fun K hK => ?_) AllReadyH.nil
  go_simp
  refine (HSA1.out _ H5.out.2.2.2.2.2.2 H5.out.2.2.2.2.2.1).mono ?_
  rintro e w4 ⟨rfl, b4⟩
  have H6 : Hid (LB w4 w.heap.size 28 D ∧ LB w4 (w.heap.size + 1) 25 E ∧ Below w.heap.size w w4) := ⟨H5.out.2.2.1.kept b4, H5.out.2.2.2.1.kept b4, andThen H5.out.2.2.2.2.1 b4⟩
  refine hK.out _ _ ⟨range_kept H5.out.1 b4, range_kept H5.out.2.1.range b4⟩ (fun hH2 => ?_)
  clear hK K hH
  have hH := hH2
  clear hH2
  clear b4 H5 HSA1 HSA
  refine wpAnyH_take (i := 14) (v := ?v11) rfl (by kernel_rfl) (by kernel_rfl) (by kernel_rfl) (fun _ _ _ h => h) (Or.inl ⟨by rfl, ?hy11⟩) hH ?rest11
  case hy11 => intro w' hSw; (try dsimp only at hSw); go_simp; all_goals rfl
  simp only [Act.put, List.setIfInBounds_toArray, List.set_cons_zero, List.set_cons_succ, List.getElem_toArray, List.getElem_cons_zero, List.getElem_cons_succ]
  refine wpAnyH_take (i := 15) (v := ?v12) rfl (by kernel_rfl) (by kernel_rfl) (by kernel_rfl) (fun _ _ _ h => h) (Or.inl ⟨by rfl, ?hy12⟩) hH ?rest12
  case hy12 => intro w' hSw; (try dsimp only at hSw); go_simp; all_goals rfl
  simp only [Act.put, List.setIfInBounds_toArray, List.set_cons_zero, List.set_cons_succ, List.getElem_toArray, List.getElem_cons_zero, List.getElem_cons_succ]
  refine wpAnyH_done (by kernel_rfl) ?_ _
  clear hH HGL HGE HG0 HR1 HRL
  cases hc : chkS S with
  | false =>
    have HSB : Hid (∀ w', Below w.heap.size w w' → Calls Tryd.prog 19 #[.agg D.toArray] w' fun e w'' => e = .returned (.tuple #[.slice none 0 0, .int .i64 100]) ∧ Below w'.heap.size w' w'') := fun w' hb' => by rw [← HDS.out]; exact story_bad S h w' (HK.out w' hb').1 (HTL.out w' hb').1 HB.out.1 hc
    have HCB : Hid (∀ w', Below w.heap.size w w' → Calls Tryd.prog 18 #[.agg D.toArray] w' fun e w'' => e = .returned (.int .i64 100) ∧ Below w'.heap.size w' w'') := fun w' hb' => by have e := HCH.out S h w' hb' (HK.out w' hb').1 HB.out.1; rw [hc, HDS.out] at e; exact e
    have HAB : Hid (∀ w', Below w.heap.size w w' → Calls Tryd.prog 9 #[.agg D.toArray, .agg E.toArray] w' fun e w'' => ∃ h'', e = .returned (.tuple #[sv zSg h'', .int .i64 100]) ∧ Below w'.heap.size w' w'') := fun w' hb' => by
      have e := HAP.out S h r d w' hb' (HK.out w' hb').1 HB.out.1 (HK.out w' hb').2 HB.out.2.1 HB.out.2.2
      have e2 : applyP S r = (100, zSg) := by unfold applyP; rw [if_pos hc]
      rw [e2, HDS.out, HDR.out] at e
      exact e.mono fun e w'' ⟨h9, q1, _, q3⟩ => ⟨h9, q1, q3⟩
    go_wp2_with (first | (refine wpList_load_mid rfl 28 _ rfl w.heap.size 0 rfl D _ H6.out.1.range Tryd.underlying28 rfl HL.out ?_) | fail)
    refine (HSB.out _ H6.out.2.2).mono ?_
    rintro e w5 ⟨rfl, b5⟩
    have H7 : Hid (LB w5 w.heap.size 28 D ∧ LB w5 (w.heap.size + 1) 25 E ∧ Below w.heap.size w w5) := ⟨H6.out.1.kept b5, H6.out.2.1.kept b5, andThen H6.out.2.2 b5⟩
    clear b5 H6
    go_wp2_with (first | (refine wpList_load_mid rfl 28 _ rfl w.heap.size 0 rfl D _ H7.out.1.range Tryd.underlying28 rfl HL.out ?_) | fail)
    refine (HCB.out _ H7.out.2.2).mono ?_
    rintro e w6 ⟨rfl, b6⟩
    have H8 : Hid (LB w6 w.heap.size 28 D ∧ LB w6 (w.heap.size + 1) 25 E ∧ Below w.heap.size w w6) := ⟨H7.out.1.kept b6, H7.out.2.1.kept b6, andThen H7.out.2.2 b6⟩
    clear b6 H7
    go_wp2_with fail
    refine (snum_any 100 _).mono ?_
    rintro e _ ⟨rfl, rfl⟩
    go_wp2_with (first | (refine wpList_load_mid rfl 28 _ rfl w.heap.size 0 rfl D _ H8.out.1.range Tryd.underlying28 rfl HL.out ?_) | (refine wpList_load_mid rfl 25 _ rfl (w.heap.size + 1) 0 rfl E _ H8.out.2.1.range Tryd.underlying25 rfl HL2.out ?_) | fail)
    refine (HAB.out _ H8.out.2.2).mono ?_
    rintro e w7 ⟨h7, rfl, b7⟩
    obtain ⟨D7, hD7, hL7, hE7⟩ := sv_letter zSg h7
    rw [hD7]
    have HL7 : Hid _ := hL7
    have H17 : Hid (∀ v ∈ D7, v.oneCell' = true) := by show ∀ v ∈ D7, _; rw [hE7]; exact scl_one _ _
    have HZ7 : Hid (D7.length = Z.length) := by show _ = _; rw [hE7, HZL.out]; rfl
    have HT7 : Hid ((w7.alloc (.cells Z.toArray 28)).there w7.heap.size 0 D7.toArray.size) := there_of (lb_new w7 Z _) (by simpa using HZ7.out)
    have H9 : Hid (∃ W8, W8 = (w7.alloc (.cells Z.toArray 28)).setCells w7.heap.size 0 D7 ∧ Below w.heap.size w W8) := ⟨_, rfl, andThen (andThen H8.out.2.2 b7) (box1 w7 28 Z D7 HZ7.out).2⟩
    clear hD7 hL7 hE7 b7 H8
    go_wp2_with (first | (refine wpList_alloc_Z HZ.out rfl rfl ?_) | (refine wpList_store_mid rfl 28 (.tmp 10) (.tmp 57) rfl w7.heap.size 0 D7.toArray rfl rfl HT7.out (by simpa using HL7.out) (all_oneCell_toArray H17.out) ?_; (obtain ⟨W8, hW8, hq⟩ := H9.out); (have HA : Hid (Below w.heap.size w W8) := hq); (rw [List.toList_toArray, ← hW8]); (clear hW8 hq H9 HT7)) | fail)
    refine (snum_any 100 _).mono ?_
    rintro e _ ⟨rfl, rfl⟩
    go_wp2_with fail
    refine (snum_any 100 _).mono ?_
    rintro e _ ⟨rfl, rfl⟩
    go_wp2_with fail
    refine (snum_any 100 _).mono ?_
    rintro e _ ⟨rfl, rfl⟩
    go_wp2_with fail
    refine (snum_any 100 _).mono ?_
    rintro e _ ⟨rfl, rfl⟩
    go_wp2_with fail
    go_ret
    exact ⟨rfl, HA.out⟩
  | true =>
    have HSO : Hid (∀ w', Below w.heap.size w w' → Calls Tryd.prog 19 #[.agg D.toArray] w' fun e w'' => StPost S w' e w'') := fun w' hb' => by rw [← HDS.out]; exact story_ok S h w' (HK.out w' hb').1 (HTL.out w' hb').1 HB.out.1 hc
    have HCO : Hid (∀ w', Below w.heap.size w w' → Calls Tryd.prog 18 #[.agg D.toArray] w' fun e w'' => e = .returned (.int .i64 0) ∧ Below w'.heap.size w' w'') := fun w' hb' => by have e := HCH.out S h w' hb' (HK.out w' hb').1 HB.out.1; rw [hc, HDS.out] at e; exact e
    go_wp2_with (first | (refine wpList_load_mid rfl 28 _ rfl w.heap.size 0 rfl D _ H6.out.1.range Tryd.underlying28 rfl HL.out ?_) | fail)
    refine (HSO.out _ H6.out.2.2).mono ?_
    rintro e w5 ⟨v5, ps, rfl, ho, hm, b5⟩
    have hpl : ps.length = (storyP S).length := by rw [← hm]; simp
    have hps : 0 < ps.length := by rw [hpl]; exact Nat.succ_pos _
    have hpb : ps.length ≤ 3000 := by rw [hpl]; exact story_len S hc
    obtain ⟨ao, cap5, rfl, hk5⟩ := ho.at
    obtain ⟨g5, rfl, _, _⟩ := hk5 0 hps
    have HPS : Hid (ps.map Prod.fst = storyP S) := hm
    have H7 : Hid (LB w5 w.heap.size 28 D ∧ LB w5 (w.heap.size + 1) 25 E ∧ Below w.heap.size w w5 ∧ OutT 0 w5 (.slice (some ⟨g5, 0, none⟩) ps.length cap5) ps) := ⟨H6.out.1.kept b5, H6.out.2.1.kept b5, andThen H6.out.2.2 b5, ho.weak (Nat.zero_le _)⟩
    clear b5 H6 ho hm hk5 hpl HSO
    go_wp2_with (first | (refine wpList_load_mid rfl 28 _ rfl w.heap.size 0 rfl D _ H7.out.1.range Tryd.underlying28 rfl HL.out ?_) | fail)
    refine (HCO.out _ H7.out.2.2.1).mono ?_
    rintro e w6 ⟨rfl, b6⟩
    have H8 : Hid (LB w6 w.heap.size 28 D ∧ LB w6 (w.heap.size + 1) 25 E ∧ Below w.heap.size w w6 ∧ OutT 0 w6 (.slice (some ⟨g5, 0, none⟩) ps.length cap5) ps) := ⟨H7.out.1.kept b6, H7.out.2.1.kept b6, andThen H7.out.2.2.1 b6, H7.out.2.2.2.kept b6⟩
    clear b6 H7 HCO
    go_wp2_with fail
    refine (snum_any 0 _).mono ?_
    rintro e _ ⟨rfl, rfl⟩
    go_wp2_with fail
    refine (snum_any 0 _).mono ?_
    rintro e _ ⟨rfl, rfl⟩
    have dl : (((ps.length : Nat) : Int) == 0) = false := by rw [beq_eq_false_iff_ne]; omega
    have HAT : Hid (∀ wr, OutT 0 wr (.slice (some ⟨g5, 0, none⟩) ps.length cap5) ps → ∀ k (hk : k < ps.length), wr.rangeAt g5 (k * 12) (rcl ps[k]) ∧ Bs wr ps[k].2 ps[k].1.l) := fun wr ho k hk => by
      obtain ⟨ao, cap, e, h9⟩ := ho.at
      obtain ⟨g9, rfl, q1, q2⟩ := h9 k hk
      simp only [Value.slice.injEq, Option.some.injEq, Addr.mk.injEq] at e
      obtain ⟨⟨rfl, _⟩, _⟩ := e
      exact ⟨q1, q2⟩
    have hp0 : ps[0].1 = stB S := by have e := story_rec HPS.out 0 hps; simp [storyP] at e; exact e.symm
    obtain ⟨r0, d0, hrd⟩ : ∃ r0 d0, ps[0] = (r0, d0) := ⟨_, _, rfl⟩
    rw [hrd] at hp0
    obtain rfl : r0 = stB S := hp0
    have hat0 := HAT.out _ H8.out.2.2.2 0 hps
    rw [hrd] at hat0
    obtain ⟨R0, hR0, hR0L, hR0E⟩ := rv_letter (stB S).x (stB S).nm d0
    have HR0L : Hid _ := hR0L
    have HR0 : Hid (w6.rangeAt g5 0 R0 ∧ Bs w6 d0 (stB S).l) := ⟨by rw [hR0E]; have e := hat0.1; rw [Nat.zero_mul] at e; exact e, hat0.2⟩
    have HQ0 : Hid (beginP (stB S) = (0, stO S S.x.beg 0) ∧ Leads (stO S S.x.beg 0) (storyT S) S ∧ chkS (stO S S.x.beg 0) = true ∧ (stO S S.x.beg 0).nm.size ≤ 140737488355000) := by
      have e1 := begin_stB S hc
      have e2 := begin_good (stB S) HOK.out.2 (v3_stB S hc).2 (by rw [e1])
      rw [e1] at e2
      exact ⟨e1, story_leads S hc hfc, e2.1, HB.out.1⟩
    have HBE : Hid (∀ w', Below w.heap.size w w' → Bs w' d0 (stB S).l → Calls Tryd.prog 8 #[.agg R0.toArray] w' fun e w'' => ∃ h', e = .returned (.tuple #[sv (stO S S.x.beg 0) h', .int .i64 0]) ∧ SgO 0 w'' (stO S S.x.beg 0) h' ∧ Below w'.heap.size w' w'') := fun w' hb' hd => by
      have e := begin_any (stB S) d0 w' hd (HTL.out w' hb').2 HB.out.1 (v3_stB S hc).2
      rw [HQ0.out.1, hR0] at e
      exact e.mono fun e w'' ⟨h9, q1, q2, q3⟩ => ⟨h9, q1, q2.weak (Nat.zero_le _), q3⟩
    clear hrd hat0 hR0 hR0L hR0E
    obtain ⟨Q0, hQ0⟩ : ∃ Q0, stO S S.x.beg 0 = Q0 := ⟨_, rfl⟩
    rw [hQ0] at HBE HQ0
    clear hQ0
    go_wp2_with (first | (refine wpList_load_mid rfl 25 _ rfl g5 0 rfl R0 _ HR0.out.1 Tryd.underlying25 rfl HR0L.out ?_) | fail)
    refine (HBE.out _ H8.out.2.2.1 HR0.out.2).mono ?_
    rintro e x1 ⟨h9, rfl, o9, b9⟩
    obtain ⟨D9, hD9, hL9, hE9⟩ := sv_letter Q0 h9
    rw [hD9]
    have HL9 : Hid _ := hL9
    have H19 : Hid (∀ v ∈ D9, v.oneCell' = true) := by show ∀ v ∈ D9, _; rw [hE9]; exact scl_one _ _
    have HZ9 : Hid (D9.length = Z.length) := by show _ = _; rw [hE9, HZL.out]; rfl
    have HT9 : Hid ((x1.alloc (.cells Z.toArray 28)).there x1.heap.size 0 D9.toArray.size) := there_of (lb_new x1 Z _) (by simpa using HZ9.out)
    have H9 : Hid (∃ X2, X2 = (x1.alloc (.cells Z.toArray 28)).setCells x1.heap.size 0 D9 ∧ LT w (.slice (some ⟨g5, 0, none⟩) ps.length cap5) ps D E x1.heap.size Q0 h9 X2) := by
      obtain ⟨q1, q2⟩ := box1 x1 28 Z D9 HZ9.out
      exact ⟨_, rfl, by rw [← hE9]; exact q1, o9.kept q2, (H8.out.2.2.2.kept b9).kept q2, (H8.out.1.kept b9).kept q2, (H8.out.2.1.kept b9).kept q2, andThen (andThen H8.out.2.2.1 b9) q2, (H8.out.2.1.kept b9).lt⟩
    clear hD9 hL9 hE9 o9 b9 H8 HR0 HBE dl
    go_wp2_with (first | (refine wpList_alloc_Z HZ.out rfl rfl ?_) | (refine wpList_store_mid rfl 28 (.tmp 12) (.tmp 89) rfl x1.heap.size 0 D9.toArray rfl rfl HT9.out (by simpa using HL9.out) (all_oneCell_toArray H19.out) ?_; (obtain ⟨X2, hX2, hq⟩ := H9.out); (have HA : Hid (LT w (.slice (some ⟨g5, 0, none⟩) ps.length cap5) ps D E x1.heap.size Q0 h9 X2) := hq); (rw [List.toList_toArray, ← hX2]); (clear hX2 hq H9 HT9)) | fail)
    clear HL9 H19 HZ9
    generalize x1.heap.size = q at HA ⊢
    go_loopw [13, 14] (fun f i wr => ∃ (n : Nat) (Q : Sg) (hq : SH), f = .int .i64 0 ∧ i = .int .i64 (n : Int) ∧ 1 ≤ n ∧ n ≤ ps.length ∧ (chkS Q = true ∧ Q.nm.size ≤ 140737488355000) ∧ Leads Q ((storyP S).drop n) S ∧ LT w (.slice (some ⟨g5, 0, none⟩) ps.length cap5) ps D E q Q hq wr) (fun _ i _ => ps.length - (intOf i).toNat)
    case atStart => exact ⟨1, Q0, h9, rfl, rfl, Nat.le_refl _, hps, HQ0.out.2.2, HQ0.out.2.1, HA.out⟩
    case round =>
      obtain ⟨n, Q, hq, rfl, rfl, hn1, hn, hQ, hle, hw⟩ := hrel
      have HW : Hid (LT w (.slice (some ⟨g5, 0, none⟩) ps.length cap5) ps D E q Q hq wr) := hw
      have HQ : Hid (chkS Q = true ∧ Q.nm.size ≤ 140737488355000) := hQ
      have HLE : Hid (Leads Q ((storyP S).drop n) S) := hle
      clear hw hQ hle HA HQ0
      obtain ⟨DQ, hDQ, hDQL, hDQE⟩ := sv_letter Q hq
      by_cases hlt : n < ps.length
      · obtain ⟨r1, d1, hrd⟩ : ∃ r1 d1, ps[n] = (r1, d1) := ⟨_, _, rfl⟩
        have hdr := story_rec HPS.out n hlt
        rw [hrd] at hdr
        have hst := story_step Q S r1 _ HQ.out.1 (by have e := HLE.out; rw [hdr] at e; exact e)
        obtain ⟨R1, hR1, hR1L, hR1E⟩ := rv_letter r1.x r1.nm d1
        have HR1L : Hid _ := hR1L
        have HDQL : Hid _ := hDQL
        have HDQE : Hid (DQ = scl Q hq) := hDQE
        have HRW : Hid (∀ wx, LT w (.slice (some ⟨g5, 0, none⟩) ps.length cap5) ps D E q Q hq wx → wx.rangeAt g5 (n * 12) R1 ∧ Bs wx d1 r1.l) := fun wx k => by
          have e := HAT.out wx k.2.2.1 n hlt
          rw [hrd] at e
          rw [hR1E]
          exact e
        obtain ⟨Q2, hQ2⟩ : ∃ Q2, deedS Q r1 = Q2 := ⟨_, rfl⟩
        have HAQ : Hid (∀ w', Below w.heap.size w w' → SgO 0 w' Q hq → Bs w' d1 r1.l → Calls Tryd.prog 9 #[.agg DQ.toArray, .agg R1.toArray] w' fun e w'' => ∃ h'', e = .returned (.tuple #[sv Q2 h'', .int .i64 0]) ∧ SgO 0 w'' Q2 h'' ∧ Below w'.heap.size w' w'') := fun w' hb' k' hd => by
          have e := HAP.out Q hq r1 d1 w' hb' k'.at HQ.out.2 hd hst.2.2.1 hst.2.2.2.1
          rw [hst.1, hDQ, hR1] at e
          rw [← hQ2]
          exact e
        have HQ2 : Hid (chkS Q2 = true ∧ Q2.nm.size ≤ 140737488355000 ∧ Leads Q2 ((storyP S).drop (n + 1)) S) := by
          rw [← hQ2]
          exact ⟨hst.2.1, by rw [deed_nm]; exact HQ.out.2, hst.2.2.2.2⟩
        clear hrd hdr hst hR1 hR1L hR1E hDQ hDQL hDQE hQ2
        go_wp2_with fail
        refine (snum_any 0 _).mono ?_
        rintro e _ ⟨rfl, rfl⟩
        go_wp2
        have HV : Hid (LT w (.slice (some ⟨g5, 0, none⟩) ps.length cap5) ps D E q Q hq wr.drew) := HW.out.kept (Below.drew (Below.refl _ _))
        have HVR : Hid (wr.drew.rangeAt g5 (n * 12) R1 ∧ Bs wr.drew d1 r1.l) := HRW.out _ HV.out
        clear HW
        refine wp_region_held_drew (S := fun w' : World => w'.rangeAt g5 (n * 12) R1) (by kernel_rfl) HVR.out.1 (fun hH => ?_)
        generalize wr.drew = V1 at *
        refine wpAnyH_take (i := 1) (v := ?v13) rfl (by kernel_rfl) (by kernel_rfl) (by kernel_rfl) (fun _ _ _ h => h) (Or.inl ⟨by rfl, ?hy13⟩) hH ?rest13
        case hy13 => intro w' hSw; (try dsimp only at hSw); go_simp; all_goals rfl
        simp only [Act.put, List.setIfInBounds_toArray, List.set_cons_zero, List.set_cons_succ, List.getElem_toArray, List.getElem_cons_zero, List.getElem_cons_succ]
        refine wpAnyH_take (i := 2) (v := ?v14) rfl (by kernel_rfl) (by kernel_rfl) (by kernel_rfl) (fun _ _ _ h => h) (Or.inl ⟨by rfl, ?hy14⟩) hH ?rest14
        case hy14 => intro w' hSw; (try dsimp only at hSw); go_simp; all_goals rfl
        simp only [Act.put, List.setIfInBounds_toArray, List.set_cons_zero, List.set_cons_succ, List.getElem_toArray, List.getElem_cons_zero, List.getElem_cons_succ]
        refine wpAnyH_take (i := 3) (v := ?v15) rfl (by kernel_rfl) (by kernel_rfl) (by kernel_rfl) (fun _ _ _ h => h) (Or.inl ⟨by rfl, ?hy15⟩) hH ?rest15
        case hy15 => intro w' hSw; (try dsimp only at hSw); go_simp; all_goals rfl
        simp only [Act.put, List.setIfInBounds_toArray, List.set_cons_zero, List.set_cons_succ, List.getElem_toArray, List.getElem_cons_zero, List.getElem_cons_succ]
        refine wpAnyH_take (i := 4) rfl (by kernel_rfl) (by kernel_rfl) (by kernel_rfl) (fun _ _ _ h => h) (yieldsIf_load_mid (by rfl) _ _ rfl _ _ rfl R1 _ (fun w' hSw => hSw) Tryd.underlying25 rfl HR1L.out) hH ?_
        simp only [Act.put, List.setIfInBounds_toArray, List.set_cons_zero, List.set_cons_succ, List.getElem_toArray, List.getElem_cons_zero, List.getElem_cons_succ]
        refine wpAnyH_ready (rs := [0]) (by kernel_rfl) (by simp) ?_
        refine AllReadyH.cons rfl (fun K hK => ?_) AllReadyH.nil
        refine step_load rfl 28 _ rfl q 0 rfl DQ _ (by rw [HDQE.out]; exact HV.out.1.range) Tryd.underlying28 rfl HDQL.out ?_
        refine hK.out _ _ HVR.out.1 (fun hH2 => ?_)
        clear hK K hH
        have hH := hH2
        clear hH2
        simp only [Act.put, List.setIfInBounds_toArray, List.set_cons_zero, List.set_cons_succ, List.getElem_toArray, List.getElem_cons_zero]
        refine wpAnyH_ready (rs := [5]) (by kernel_rfl) (by simp) ?_
        refine AllReadyH.cons rfl (fun K hK => ?_) AllReadyH.nil
        go_simp
        refine (HAQ.out _ HV.out.2.2.2.2.2.1 HV.out.2.1 HVR.out.2).mono ?_
        rintro e x2 ⟨h2, rfl, o2, b2⟩
        have HV2 : Hid (LT w (.slice (some ⟨g5, 0, none⟩) ps.length cap5) ps D E q Q hq x2) := HV.out.kept b2
        have HP : Hid (LT w (.slice (some ⟨g5, 0, none⟩) ps.length cap5) ps D E q Q2 h2 (x2.setCells q 0 (scl Q2 h2))) := HV2.out.put o2
        have HPR : Hid ((x2.setCells q 0 (scl Q2 h2)).rangeAt g5 (n * 12) R1) := by
          obtain ⟨q1, _⟩ := HRW.out _ HV2.out
          intro j u hu
          have hne : g5 ≠ q := by
            rintro rfl
            obtain ⟨cs, z, h8⟩ := rrow_typed HV2.out.2.2.1.1 g5 rfl
            rw [HV2.out.1] at h8
            simp at h8
          have h9 := q1 j u hu
          rw [← h9]
          exact World.cell?_of_block (cells_other q _ 0 x2 g5 hne)
        obtain ⟨D2, hD2, hL2, hE2⟩ := sv_letter Q2 h2
        rw [hD2]
        have HL2x : Hid _ := hL2
        have HE2x : Hid (D2 = scl Q2 h2) := hE2
        have H12 : Hid (∀ v ∈ D2, v.oneCell' = true) := by show ∀ v ∈ D2, _; rw [hE2]; exact scl_one _ _
        have HT2 : Hid (x2.there q 0 D2.toArray.size) := there_of HV2.out.1 (by rw [hE2]; rfl)
        clear hD2 hL2 hE2 o2
        refine hK.out _ _ (HRW.out _ HV2.out).1 (fun hH2 => ?_)
        clear hK K hH
        have hH := hH2
        clear hH2
        clear b2
        refine wpAnyH_take (i := 6) (v := ?v16) rfl (by kernel_rfl) (by kernel_rfl) (by kernel_rfl) (fun _ _ _ h => h) (Or.inl ⟨by rfl, ?hy16⟩) hH ?rest16
        case hy16 => intro w' hSw; (try dsimp only at hSw); go_simp; all_goals rfl
        simp only [Act.put, List.setIfInBounds_toArray, List.set_cons_zero, List.set_cons_succ, List.getElem_toArray, List.getElem_cons_zero, List.getElem_cons_succ]
        refine wpAnyH_take (i := 7) (v := ?v17) rfl (by kernel_rfl) (by kernel_rfl) (by kernel_rfl) (fun _ _ _ h => h) (Or.inl ⟨by rfl, ?hy17⟩) hH ?rest17
        case hy17 => intro w' hSw; (try dsimp only at hSw); go_simp; all_goals rfl
        simp only [Act.put, List.setIfInBounds_toArray, List.set_cons_zero, List.set_cons_succ, List.getElem_toArray, List.getElem_cons_zero, List.getElem_cons_succ]
        refine wpAnyH_take (i := 8) (v := ?v18) rfl (by kernel_rfl) (by kernel_rfl) (by kernel_rfl) (fun _ _ _ h => h) (Or.inl ⟨by rfl, ?hy18⟩) hH ?rest18
        case hy18 => intro w' hSw; (try dsimp only at hSw); go_simp; all_goals rfl
        simp only [Act.put, List.setIfInBounds_toArray, List.set_cons_zero, List.set_cons_succ, List.getElem_toArray, List.getElem_cons_zero, List.getElem_cons_succ]
        refine wpAnyH_ready (rs := [9]) (by kernel_rfl) (by simp) ?_
        refine AllReadyH.cons rfl (fun K hK => ?_) AllReadyH.nil
        refine step_storeT rfl 28 (.tmp 12) (.tmp 107) rfl q 0 D2.toArray rfl rfl HT2.out (by simpa using HL2x.out) (all_oneCell_toArray H12.out) ?_
        rw [List.toList_toArray, HE2x.out]
        refine hK.out _ _ HPR.out (fun hH2 => ?_)
        clear hK K hH
        have hH := hH2
        clear hH2
        simp only [Act.put, List.getElem_toArray, List.getElem_cons_zero, List.getElem_cons_succ]
        refine wpAnyH_take (i := 10) (v := ?v19) rfl (by kernel_rfl) (by kernel_rfl) (by kernel_rfl) (fun _ _ _ h => h) (Or.inl ⟨by rfl, ?hy19⟩) hH ?rest19
        case hy19 => intro w' hSw; (try dsimp only at hSw); go_simp; all_goals rfl
        simp only [Act.put, List.setIfInBounds_toArray, List.set_cons_zero, List.set_cons_succ, List.getElem_toArray, List.getElem_cons_zero, List.getElem_cons_succ]
        refine wpAnyH_done (by kernel_rfl) ?_ _
        clear hH HV HVR HV2 HAQ HRW HT2 HPR
        go_wp2
        go_roundw
        case rel => exact ⟨n + 1, Q2, h2, rfl, by go_num, by omega, by omega, ⟨HQ2.out.1, HQ2.out.2.1⟩, HQ2.out.2.2, HP.out⟩
        case measure => simp [intOf]; omega
      · obtain rfl : n = ps.length := by omega
        have hend : (storyP S).drop ps.length = [] := by rw [← HPS.out]; simp
        have hQS : Q = S := by have e := HLE.out; rw [hend] at e; exact e
        subst hQS
        clear HLE hend HPS HAT
        have HSM : Hid (∀ w', Below w.heap.size w w' → SgO 0 w' Q hq → Calls Tryd.prog 17 #[.agg DQ.toArray, .agg D.toArray] w' fun e w'' => e = .returned (.bool true) ∧ Below w'.heap.size w' w'') := fun w' hb' k' => by
          have e := same_any Q hq h w' k'.at (HK.out w' hb').1
          rw [hDQ, HDS.out] at e
          exact e
        have HDQ : Hid (∀ wx, LT w (.slice (some ⟨g5, 0, none⟩) ps.length cap5) ps D E q Q hq wx → wx.rangeAt q 0 DQ) := fun wx k => by show wx.rangeAt q 0 DQ; rw [hDQE]; exact k.1.range
        have HDQL : Hid _ := hDQL
        have HDQw : Hid (wr.rangeAt q 0 DQ) := HDQ.out _ HW.out
        clear hDQ hDQL hDQE
        obtain ⟨z, hz⟩ : ∃ z, (applyP Q r).1 = z := ⟨_, rfl⟩
        obtain ⟨S2, hS2⟩ : ∃ S2, (applyP Q r).2 = S2 := ⟨_, rfl⟩
        have HAB : Hid (∀ w', Below w.heap.size w w' → Calls Tryd.prog 9 #[.agg D.toArray, .agg E.toArray] w' fun e w'' => ∃ h'', e = .returned (.tuple #[sv S2 h'', .int .i64 z]) ∧ SgO 0 w'' S2 h'' ∧ Below w'.heap.size w' w'') := fun w' hb' => by
          have e := HAP.out Q h r d w' hb' (HK.out w' hb').1 HB.out.1 (HK.out w' hb').2 HB.out.2.1 HB.out.2.2
          rw [hz, hS2, HDS.out, HDR.out] at e
          exact e
        have HGD : Hid (z = 0 → chkS S2 = true ∧ S2.x.id = Q.x.id ∧ S2.x.cnt = Q.x.cnt ∧ S2.x.piv = Q.x.piv ∧ S2.x.beg = Q.x.beg ∧ S2.nm = Q.nm) := fun h0 => by
          obtain ⟨u, q1, q2, q3⟩ := apply_good2 Q r HOK.out.1 (by rw [hz]; exact h0)
          have e := steps_deed Q u hc q1 q2
          rw [← hS2, q3]
          exact ⟨chkS_deed Q u hc q1 q2, e.1, e.2.1, e.2.2.1, e.2.2.2.1, e.2.2.2.2.1⟩
        clear hz hS2
        go_wp2_with fail
        refine (snum_any 0 _).mono ?_
        rintro e _ ⟨rfl, rfl⟩
        go_wp2_with (first | (refine wpList_load_midG rfl 28 _ rfl q 0 rfl DQ _ HDQw.out Tryd.underlying28 rfl HDQL.out ?_) | (refine wpList_load_midG rfl 28 _ rfl w.heap.size 0 rfl D _ HW.out.2.2.2.1.range Tryd.underlying28 rfl HL.out ?_) | fail)
        refine (HSM.out _ HW.out.2.2.2.2.2.1 HW.out.2.1).mono ?_
        rintro e y1 ⟨rfl, b1⟩
        have H7 : Hid (LB y1 w.heap.size 28 D ∧ LB y1 (w.heap.size + 1) 25 E ∧ Below w.heap.size w y1) := ⟨HW.out.2.2.2.1.kept b1, HW.out.2.2.2.2.1.kept b1, andThen HW.out.2.2.2.2.2.1 b1⟩
        clear b1 HW HDQ HDQw HDQL HSM
        go_wp2_with (first | (refine wpList_load_mid rfl 28 _ rfl w.heap.size 0 rfl D _ H7.out.1.range Tryd.underlying28 rfl HL.out ?_) | (refine wpList_load_mid rfl 25 _ rfl (w.heap.size + 1) 0 rfl E _ H7.out.2.1.range Tryd.underlying25 rfl HL2.out ?_) | fail)
        refine (HAB.out _ H7.out.2.2).mono ?_
        rintro e y2 ⟨h2, rfl, o2, b2⟩
        obtain ⟨D2, hD2, hL2, hE2⟩ := sv_letter S2 h2
        rw [hD2]
        have HL2x : Hid _ := hL2
        have HD2 : Hid (sv S2 h2 = .agg D2.toArray) := hD2
        have HE2x : Hid (D2 = scl S2 h2) := hE2
        have H12 : Hid (∀ v ∈ D2, v.oneCell' = true) := by show ∀ v ∈ D2, _; rw [hE2]; exact scl_one _ _
        have HZ2 : Hid (D2.length = Z.length) := by show _ = _; rw [hE2, HZL.out]; rfl
        have HT2 : Hid ((y2.alloc (.cells Z.toArray 28)).there y2.heap.size 0 D2.toArray.size) := there_of (lb_new y2 Z _) (by simpa using HZ2.out)
        have H8 : Hid (∃ Y3, Y3 = (y2.alloc (.cells Z.toArray 28)).setCells y2.heap.size 0 D2 ∧ LB Y3 y2.heap.size 28 D2 ∧ LB Y3 w.heap.size 28 D ∧ SgO 0 Y3 S2 h2 ∧ Below w.heap.size w Y3) := by
          obtain ⟨q1, q2⟩ := box1 y2 28 Z D2 HZ2.out
          exact ⟨_, rfl, q1, (H7.out.1.kept b2).kept q2, o2.kept q2, andThen (andThen H7.out.2.2 b2) q2⟩
        clear hD2 hL2 hE2 o2 b2 H7 HAB
        go_wp2_with (first | (refine wpList_alloc_Z HZ.out rfl rfl ?_) | (refine wpList_store_mid rfl 28 (.tmp 15) (.tmp 122) rfl y2.heap.size 0 D2.toArray rfl rfl HT2.out (by simpa using HL2x.out) (all_oneCell_toArray H12.out) ?_; (obtain ⟨Y3, hY3, hq3⟩ := H8.out); (have H9 : Hid _ := hq3); (rw [List.toList_toArray, ← hY3]); (clear hY3 hq3 H8 HT2)) | fail)
        refine (snum_any z _).mono ?_
        rintro e _ ⟨rfl, rfl⟩
        cases hz0 : (z != 0) with
        | true =>
          go_wp2
          go_ret
          exact ⟨rfl, H9.out.2.2.2⟩
        | false =>
          obtain ⟨g1, g2, g3, g4, g5x, g6⟩ := HGD.out (by simpa using hz0)
          have HC2 : Hid (∀ w', Below w.heap.size w w' → SgO 0 w' S2 h2 → Calls Tryd.prog 18 #[.agg D2.toArray] w' fun e w'' => e = .returned (.int .i64 0) ∧ Below w'.heap.size w' w'') := fun w' hb' k' => by
            have e := HCH.out S2 h2 w' hb' k'.at (by rw [g6]; exact HB.out.1)
            rw [g1, HD2.out] at e
            exact e
          have HF : Hid (D2[0]? = some (.int .i64 Q.x.id) ∧ D2[1]? = some (.string Q.nm) ∧ D2[2]? = some (.int .i64 Q.x.cnt) ∧ D2[3]? = some (.int .i64 Q.x.piv) ∧ D2[4]? = some (.int .i64 Q.x.beg)) := by
            rw [HE2x.out, ← g2, ← g3, ← g4, ← g5x, ← g6]
            exact ⟨rfl, rfl, rfl, rfl, rfl⟩
          clear g1 g2 g3 g4 g5x g6 HGD
          go_wp2_with (first | (refine wpList_load_mid rfl 28 _ rfl y2.heap.size 0 rfl D2 _ H9.out.1.range Tryd.underlying28 rfl HL2x.out ?_) | fail)
          refine (HC2.out _ H9.out.2.2.2 H9.out.2.2.1).mono ?_
          rintro e y4 ⟨rfl, b4⟩
          have HA : Hid (LB y4 y2.heap.size 28 D2 ∧ LB y4 w.heap.size 28 D ∧ Below w.heap.size w y4) := ⟨H9.out.1.kept b4, H9.out.2.1.kept b4, andThen H9.out.2.2.2 b4⟩
          clear b4 H9
          go_wp2_with fail
          refine (snum_any 0 _).mono ?_
          rintro e _ ⟨rfl, rfl⟩
          have u0 := HA.out.1.cell 0 (.int .i64 Q.x.id) HF.out.1
          have s0 := HA.out.2.1.cell 0 (.int .i64 Q.x.id) (by rw [HE.out]; rfl)
          have u1 := HA.out.1.cell 1 (.string Q.nm) HF.out.2.1
          have s1 := HA.out.2.1.cell 1 (.string Q.nm) (by rw [HE.out]; rfl)
          have u2 := HA.out.1.cell 2 (.int .i64 Q.x.cnt) HF.out.2.2.1
          have s2 := HA.out.2.1.cell 2 (.int .i64 Q.x.cnt) (by rw [HE.out]; rfl)
          have u3 := HA.out.1.cell 3 (.int .i64 Q.x.piv) HF.out.2.2.2.1
          have s3 := HA.out.2.1.cell 3 (.int .i64 Q.x.piv) (by rw [HE.out]; rfl)
          have u4 := HA.out.1.cell 4 (.int .i64 Q.x.beg) HF.out.2.2.2.2
          have s4 := HA.out.2.1.cell 4 (.int .i64 Q.x.beg) (by rw [HE.out]; rfl)
          have dd0 : (Q.x.id == Q.x.id) = true := by simp
          have dd2 : (Q.x.cnt == Q.x.cnt) = true := by simp
          have dd3 : (Q.x.piv == Q.x.piv) = true := by simp
          have dd4 : (Q.x.beg == Q.x.beg) = true := by simp
          go_wp2
          go_ret
          exact ⟨rfl, HA.out.2.2⟩
end Go.Proofs.YtgjlkkikgkbamaaDoor
