import Derived.Deep.CutRange
import Derived.Test.YtgjlkkikgkbamaaGreatDoorQD7
/-
  SagaLifted: both, started.
-/
namespace Go.Proofs.YtgjlkkikgkbamaaGreatDoor
open Go Go.RowKit
open Wb

set_option maxRecDepth 100000 in
set_option maxHeartbeats 16000000 in
theorem both_any (w : World) (hT : Tabs w) (hS : STabs w) : Calls Tryz.prog 11 #[] w fun e w' => e = .returned (.bool true) ∧ Below w.heap.size w w' := by
  have HPA : Hid (∀ (S : Sg) (h : SH) (r : Rec) (w' : World), Below w.heap.size w w' → SgAt w' S h → chkS S = true → S.nm.size ≤ 140737488355000 → V3 r → r.x.v = 3 → r.nm = ⟨#[]⟩ → r.l = [] → refP S.x r.x ≠ 0 → r.x.s ≤ 8 → Calls Tryz.prog 8 #[sv S h, rv r.x r.nm (.slice none 0 0)] w' fun e w'' => ∃ hz, e = .returned (.tuple #[sv zSg hz, .int .i64 (refP S.x r.x)]) ∧ Below w'.heap.size w' w'') := fun S h r w' hb k hc hn hv h3 h4 h5 h0 h8 => by
    have e := apply_any S h r (.slice none 0 0) w' k (by rw [h5]; exact Bs.nil _) (hS.kept hb) hn (by rw [h4]; decide) (fit_v3 r hv (by omega))
    rw [apply_err S r hc hv h3 h0] at e
    exact e.mono fun e w'' ⟨hz, q1, _, q3⟩ => ⟨hz, q1, q3⟩
  have HRA1 : Hid (∀ (h : SH) (r : Rec) (w' : World), Below w.heap.size w w' → SgAt w' sg1 h → V3 r → r.x.v = 3 → r.nm = ⟨#[]⟩ → r.l = [] → refP sg1.x r.x ≠ 0 → r.x.s ≤ 8 → Calls Tryz.prog 21 #[sv sg1 h, rv r.x r.nm (.slice none 0 0)] w' fun e w'' => ∃ hz, e = .returned (.tuple #[sv zSg hz, .int .i64 (refP sg1.x r.x)]) ∧ Below w'.heap.size w' w'') := fun h r w' hb k hv h3 h4 h5 h0 h8 =>
    rxapply_err sg1 h r (.slice none 0 0) w' (by rw [h5]; exact Bs.nil _) (hT.kept hb) sg1_good.1 (by rw [h4]; decide) (fit_v3 r hv (by omega)) hv h3 h0 (fun w'' hb' => rxcheck_1 h w'' (k.kept hb') ((hT.kept hb).kept hb'))
  have HRAU : Hid (∀ (h : SH) (r : Rec) (w' : World), Below w.heap.size w w' → SgAt w' sgU h → V3 r → r.x.v = 3 → r.nm = ⟨#[]⟩ → r.l = [] → refP sgU.x r.x ≠ 0 → r.x.s ≤ 8 → Calls Tryz.prog 21 #[sv sgU h, rv r.x r.nm (.slice none 0 0)] w' fun e w'' => ∃ hz, e = .returned (.tuple #[sv zSg hz, .int .i64 (refP sgU.x r.x)]) ∧ Below w'.heap.size w' w'') := fun h r w' hb k hv h3 h4 h5 h0 h8 =>
    rxapply_err sgU h r (.slice none 0 0) w' (by rw [h5]; exact Bs.nil _) (hT.kept hb) sgU_good (by rw [h4]; decide) (fit_v3 r hv (by omega)) hv h3 h0 (fun w'' hb' => rxcheck_U h w'' (k.kept hb') ((hT.kept hb).kept hb'))
  clear hT hS
  obtain ⟨Z, hZ⟩ : ∃ Z, Z = zcl := ⟨_, rfl⟩
  obtain ⟨ZR, hZR⟩ : ∃ ZR, ZR = zrl := ⟨_, rfl⟩
  have HZ : Hid (Z = zcl) := hZ
  have HZR : Hid (ZR = zrl) := hZR
  have HZL : Hid (Z.length = 16) := by show _ = _; rw [hZ]; rfl
  have HZRL : Hid (ZR.length = 12) := by show _ = _; rw [hZR]; rfl
  clear hZ hZR
  go_enter Tryz.func11, Tryz.ntmps11
  go_wp2_with fail
  refine (first_any _).mono ?_
  rintro e w1 ⟨a1, c1, h1, rfl, bs1, at1, b1⟩
  have H1 : Hid (SgAt w1 sg1 h1 ∧ Below w.heap.size w w1) := ⟨at1, b1⟩
  clear b1 bs1 at1
  obtain ⟨G1, hG1, hGL, hGE⟩ := rv_letter rec1.x rec1.nm (.slice a1 rec1.l.length c1)
  obtain ⟨D1, hD1, hDL, hDE⟩ := sv_letter sg1 h1
  rw [hG1, hD1]
  have HGL : Hid _ := hGL
  have HDL : Hid _ := hDL
  have HDE : Hid (D1 = scl sg1 h1) := hDE
  have HDV : Hid (sv sg1 h1 = .agg D1.toArray) := hD1
  have HG1 : Hid (∀ v ∈ G1, v.oneCell' = true) := by show ∀ v ∈ G1, _; rw [hGE]; exact rcE_one _ _ _ rfl
  have HD1 : Hid (∀ v ∈ D1, v.oneCell' = true) := by show ∀ v ∈ D1, _; rw [hDE]; exact scl_one _ _
  have HGZ : Hid (G1.length = ZR.length) := by show _ = _; rw [hGE, HZRL.out]; rfl
  have HDZ : Hid (D1.length = Z.length) := by show _ = _; rw [hDE, HZL.out]; rfl
  have HT1 : Hid (((w1.alloc (.cells ZR.toArray 27)).alloc (.cells Z.toArray 25)).there w1.heap.size 0 G1.toArray.size) := there_of (lb_new2 w1 ZR Z _ _).1 (by simpa using HGZ.out)
  have HT2 : Hid ((((w1.alloc (.cells ZR.toArray 27)).alloc (.cells Z.toArray 25)).setCells w1.heap.size 0 G1).there (w1.heap.size + 1) 0 D1.toArray.size) := there_of ((lb_new2 w1 ZR Z _ _).2.1.others _ _ _ (by omega)) (by simpa using HDZ.out)
  have H2 : Hid (∃ W2, W2 = (((w1.alloc (.cells ZR.toArray 27)).alloc (.cells Z.toArray 25)).setCells w1.heap.size 0 G1).setCells (w1.heap.size + 1) 0 D1 ∧ LB W2 (w1.heap.size + 1) 25 D1 ∧ SgAt W2 sg1 h1 ∧ Below w.heap.size w W2) := by
    obtain ⟨q1, q2, q3⟩ := two_boxes w1 27 25 ZR Z G1 D1 HGZ.out HDZ.out
    exact ⟨_, rfl, q2, H1.out.1.kept q3, andThen H1.out.2 q3⟩
  clear hG1 hGL hGE hD1 hDL hDE H1
  obtain ⟨DU, hDU⟩ : ∃ DU, DU = (D1.set 9 (.bool true)).set 10 (.int .i64 1) := ⟨_, rfl⟩
  have HDU : Hid (DU = (D1.set 9 (.bool true)).set 10 (.int .i64 1)) := hDU
  have HUV : Hid (sv sgU h1 = .agg DU.toArray) := by show _ = _; rw [hDU, HDE.out]; rfl
  have HUL : Hid ((Tryz.prog.info? 25).map (·.size) = some DU.length) := by show _ = _; rw [hDU, HDE.out]; exact infoSaga
  clear hDU
  go_wp2_with (first | (refine wpList_alloc_R HZR.out rfl rfl ?_) | (refine wpList_alloc_Z HZ.out rfl rfl ?_; (try simp only [heap_one])) | (refine wpList_store_mid rfl 27 (.tmp 1) (.tmp 16) rfl w1.heap.size 0 G1.toArray rfl rfl HT1.out (by simpa using HGL.out) (all_oneCell_toArray HG1.out) ?_; (rw [List.toList_toArray])) | (refine wpList_store_mid rfl 25 (.tmp 2) (.tmp 17) rfl (w1.heap.size + 1) 0 D1.toArray rfl rfl HT2.out (by simpa using HDL.out) (all_oneCell_toArray HD1.out) ?_; (obtain ⟨W2, hW2, hq⟩ := H2.out); (have H3 : Hid _ := hq); (rw [List.toList_toArray, ← hW2]); (clear hW2 hq H2 HT1 HT2); (have HT3 : Hid ((W2.alloc (.cells Z.toArray 25)).there W2.heap.size 0 D1.toArray.size) := there_of (lb_new W2 Z _) (by simpa using HDZ.out)); (have H4 : Hid (∃ W3, W3 = (W2.alloc (.cells Z.toArray 25)).setCells W2.heap.size 0 D1 ∧ LB W3 W2.heap.size 25 D1 ∧ LB W3 (w1.heap.size + 1) 25 D1 ∧ SgAt W2 sg1 h1 ∧ Below W2.heap.size W2 W3 ∧ Below w.heap.size w W2 ∧ w1.heap.size + 1 < W2.heap.size) := ⟨_, rfl, (one_box W2 25 Z D1 HDZ.out).1, H3.out.1.kept (one_box W2 25 Z D1 HDZ.out).2, H3.out.2.1, (one_box W2 25 Z D1 HDZ.out).2, H3.out.2.2, H3.out.1.lt⟩)) | (refine wpList_load_mid rfl 25 _ rfl (w1.heap.size + 1) 0 rfl D1 _ H3.out.1.range Tryz.underlying25 rfl HDL.out ?_) | (refine wpList_store_mid rfl 25 (.tmp 3) (.tmp 18) rfl W2.heap.size 0 D1.toArray rfl rfl HT3.out (by simpa using HDL.out) (all_oneCell_toArray HD1.out) ?_; (obtain ⟨W3, hW3, hq⟩ := H4.out); (have H5 : Hid _ := hq); (rw [List.toList_toArray, ← hW3]); (clear hW3 hq H3 H4 HT3); (have c9 := H5.out.1.cell 9 (.bool false) (by rw [HDE.out]; rfl)); (have f9 := H5.out.1.free 9); (have c10 := H5.out.1.cell 10 (.int .i64 0) (by rw [HDE.out]; rfl)); (have f10 := H5.out.1.free 10)) | fail)
  have HB0 : Hid (∀ cs, cs = (bothP.flatMap rcl).toArray → BW w (w1.heap.size + 1) W2.heap.size W3.heap.size D1 DU h1 (((W3.setCell ⟨W2.heap.size, 9, none⟩ (.bool true)).setCell ⟨W2.heap.size, 10, none⟩ (.int .i64 1)).alloc (.cells cs 27))) := fun cs e => by
    subst e
    obtain ⟨q1, q2, q3, q4, q5, q6⟩ := H5.out
    have hb : Below W2.heap.size W2 (((W3.setCell ⟨W2.heap.size, 9, none⟩ (.bool true)).setCell ⟨W2.heap.size, 10, none⟩ (.int .i64 1)).alloc (.cells (bothP.flatMap rcl).toArray 27)) := up (Below.setCell (Below.setCell q4 (Nat.le_refl _) _) (Nat.le_refl _) _) _
    have hs : ((W3.setCell ⟨W2.heap.size, 9, none⟩ (.bool true)).setCell ⟨W2.heap.size, 10, none⟩ (.int .i64 1)).heap.size = W3.heap.size := by simp [World.setCell]
    refine ⟨((q2.other _ _ (Nat.ne_of_lt q6)).other _ _ (Nat.ne_of_lt q6)).kept (up0 _ _), ?_, ?_, q3.kept hb, andThen q5 hb⟩
    · rw [HDU.out]; exact ((q1.set 9 _).set 10 _).kept (up0 _ _)
    · have e := lb_new ((W3.setCell ⟨W2.heap.size, 9, none⟩ (.bool true)).setCell ⟨W2.heap.size, 10, none⟩ (.int .i64 1)) (bothP.flatMap rcl) 27
      rw [hs] at e
      exact e
  clear c9 f9 c10 f10 H5 HDZ HD1 HG1 HGZ HGL
  generalize w1.heap.size + 1 = b2 at *
  generalize W2.heap.size = b3 at *
  generalize W3.heap.size = g at *
  go_loopw [5] (fun i wr => ∃ n : Nat, n ≤ 6 ∧ i = .int .i64 (n : Int) ∧ BW w b2 b3 g D1 DU h1 wr) (fun i _ => 6 - (intOf i).toNat)
  case atStart => exact ⟨0, Nat.zero_le _, rfl, HB0.out _ rfl⟩
  case round =>
    obtain ⟨n, hn, rfl, hw⟩ := hrel
    have HW : Hid (BW w b2 b3 g D1 DU h1 wr) := hw
    clear hw HB0
    by_cases hlt : n < 6
    · obtain ⟨r, hr⟩ : ∃ r, bothR[n]? = some r := ⟨bothR[n]'hlt, List.getElem?_eq_getElem hlt⟩
      obtain ⟨v1, v2, v3, v4, v5, v6, v7⟩ := both_v3 r (List.mem_of_getElem? hr)
      obtain ⟨R, hR, hRL, hRE⟩ := rv_letter r.x r.nm (.slice none 0 0)
      have HRL : Hid _ := hRL
      have HRG : Hid (∀ W, BW w b2 b3 g D1 DU h1 W → W.rangeAt g (n * 12) R) := fun W k => by rw [hRE]; exact k.range n r hr
      obtain ⟨z1, hz1⟩ : ∃ z1, refP sg1.x r.x = z1 := ⟨_, rfl⟩
      obtain ⟨z2, hz2⟩ : ∃ z2, refP sgU.x r.x = z2 := ⟨_, rfl⟩
      have HP1 : Hid (∀ W, BW w b2 b3 g D1 DU h1 W → Calls Tryz.prog 8 #[.agg D1.toArray, .agg R.toArray] W fun e w'' => ∃ hz, e = .returned (.tuple #[sv zSg hz, .int .i64 z1]) ∧ Below W.heap.size W w'') := fun W k => by
        have e := HPA.out sg1 h1 r W k.2.2.2.2 k.2.2.2.1 sg1_good.1 (by decide) v1 v2 v3 v4 v5 v7
        rw [hz1, HDV.out, hR] at e
        exact e
      have HPU : Hid (∀ W, BW w b2 b3 g D1 DU h1 W → Calls Tryz.prog 8 #[.agg DU.toArray, .agg R.toArray] W fun e w'' => ∃ hz, e = .returned (.tuple #[sv zSg hz, .int .i64 z2]) ∧ Below W.heap.size W w'') := fun W k => by
        have e := HPA.out sgU h1 r W k.2.2.2.2 (sgU_at k.2.2.2.1) sgU_good (by decide) v1 v2 v3 v4 v6 v7
        rw [hz2, HUV.out, hR] at e
        exact e
      have HX1 : Hid (∀ W, BW w b2 b3 g D1 DU h1 W → Calls Tryz.prog 21 #[.agg D1.toArray, .agg R.toArray] W fun e w'' => ∃ hz, e = .returned (.tuple #[sv zSg hz, .int .i64 z1]) ∧ Below W.heap.size W w'') := fun W k => by
        have e := HRA1.out h1 r W k.2.2.2.2 k.2.2.2.1 v1 v2 v3 v4 v5 v7
        rw [hz1, HDV.out, hR] at e
        exact e
      have HXU : Hid (∀ W, BW w b2 b3 g D1 DU h1 W → Calls Tryz.prog 21 #[.agg DU.toArray, .agg R.toArray] W fun e w'' => ∃ hz, e = .returned (.tuple #[sv zSg hz, .int .i64 z2]) ∧ Below W.heap.size W w'') := fun W k => by
        have e := HRAU.out h1 r W k.2.2.2.2 (sgU_at k.2.2.2.1) v1 v2 v3 v4 v6 v7
        rw [hz2, HUV.out, hR] at e
        exact e
      have y1 : (z1 == 0) = false := by rw [← hz1]; simpa using v5
      have y2 : (z2 == 0) = false := by rw [← hz2]; simpa using v6
      have y3 : (z1 != z1) = false := by simp
      have y4 : (z2 != z2) = false := by simp
      clear hr v1 v2 v3 v4 v5 v6 v7 hR hRL hRE hz1 hz2
      go_wp2
      go_cut [6, 7] from 28 to 87 (fun _ f wx => f = .int .i64 z1 ∧ BW w b2 b3 g D1 DU h1 wx)
      case first =>
        have K0 : Hid (BW w b2 b3 g D1 DU h1 wr.drew) := HW.out.kept (Below.drew (Below.refl _ _))
        clear HW
        refine wp_region_held_drew (S := (fun w' : World => w'.rangeAt b2 0 D1 ∧ w'.rangeAt g (n * 12) R)) (by kernel_rfl) ⟨K0.out.1.range, HRG.out _ K0.out⟩ (fun hH => ?_)
        generalize wr.drew = V0 at *
        refine wpAnyH_take (i := 0) rfl (by kernel_rfl) (by kernel_rfl) (by kernel_rfl) (fun _ _ _ h => h) (yieldsIf_load_mid (by rfl) _ _ rfl _ _ rfl D1 _ (fun w' hSw => hSw.1) Tryz.underlying25 rfl HDL.out) hH ?_
        simp only [Act.put, List.setIfInBounds_toArray, List.set_cons_zero, List.set_cons_succ, List.getElem_toArray, List.getElem_cons_zero]
        refine wpAnyH_take (i := 1) (v := ?v1) rfl (by kernel_rfl) (by kernel_rfl) (by kernel_rfl) (fun _ _ _ h => h) (Or.inl ⟨by rfl, ?hy1⟩) hH ?rest1
        case hy1 => intro w' hSw; (try dsimp only at hSw); go_simp; all_goals rfl
        simp only [Act.put, List.setIfInBounds_toArray, List.set_cons_zero, List.set_cons_succ, List.getElem_toArray, List.getElem_cons_zero, List.getElem_cons_succ]
        refine wpAnyH_take (i := 2) (v := ?v2) rfl (by kernel_rfl) (by kernel_rfl) (by kernel_rfl) (fun _ _ _ h => h) (Or.inl ⟨by rfl, ?hy2⟩) hH ?rest2
        case hy2 => intro w' hSw; (try dsimp only at hSw); go_simp; all_goals rfl
        simp only [Act.put, List.setIfInBounds_toArray, List.set_cons_zero, List.set_cons_succ, List.getElem_toArray, List.getElem_cons_zero, List.getElem_cons_succ]
        refine wpAnyH_take (i := 3) (v := ?v3) rfl (by kernel_rfl) (by kernel_rfl) (by kernel_rfl) (fun _ _ _ h => h) (Or.inl ⟨by rfl, ?hy3⟩) hH ?rest3
        case hy3 => intro w' hSw; (try dsimp only at hSw); go_simp; all_goals rfl
        simp only [Act.put, List.setIfInBounds_toArray, List.set_cons_zero, List.set_cons_succ, List.getElem_toArray, List.getElem_cons_zero, List.getElem_cons_succ]
        refine wpAnyH_take (i := 4) rfl (by kernel_rfl) (by kernel_rfl) (by kernel_rfl) (fun _ _ _ h => h) (yieldsIf_load_mid (by rfl) _ _ rfl _ _ rfl R _ (fun w' hSw => hSw.2) Tryz.underlying27 rfl HRL.out) hH ?_
        simp only [Act.put, List.setIfInBounds_toArray, List.set_cons_zero, List.set_cons_succ, List.getElem_toArray, List.getElem_cons_zero, List.getElem_cons_succ]
        refine wpAnyH_ready (rs := [5, 9]) (by kernel_rfl) (by simp) ?_
        refine AllReadyH.cons rfl (fun K hK => ?_) ?_
        · skip
          go_simp
          refine (HP1.out _ K0.out).mono ?_
          rintro e x ⟨k, rfl, be⟩
          have Mx : Hid (BW w b2 b3 g D1 DU h1 x) := K0.out.kept be
          obtain ⟨T, hT, hTL, hTE⟩ := sv_letter zSg k
          rw [hT]
          have TL : Hid _ := hTL
          have T1 : Hid (∀ v ∈ T, v.oneCell' = true) := by show ∀ v ∈ T, _; rw [hTE]; exact scl_one _ _
          have TZ : Hid (T.length = Z.length) := by show _ = _; rw [hTE, HZL.out]; rfl
          clear hT hTL hTE
          refine hK.out _ _ ⟨Mx.out.1.range, HRG.out _ Mx.out⟩ (fun hH2 => ?_)
          clear hK K hH
          have hH := hH2
          clear hH2
          clear be
          refine wpAnyH_take (i := 6) (v := ?v4) rfl (by kernel_rfl) (by kernel_rfl) (by kernel_rfl) (fun _ _ _ h => h) (Or.inl ⟨by rfl, ?hy4⟩) hH ?rest4
          case hy4 => intro w' hSw; (try dsimp only at hSw); go_simp; all_goals rfl
          simp only [Act.put, List.setIfInBounds_toArray, List.set_cons_zero, List.set_cons_succ, List.getElem_toArray, List.getElem_cons_zero, List.getElem_cons_succ]
          refine wpAnyH_take (i := 7) (v := ?v5) rfl (by kernel_rfl) (by kernel_rfl) (by kernel_rfl) (fun _ _ _ h => h) (Or.inl ⟨by rfl, ?hy5⟩) hH ?rest5
          case hy5 => intro w' hSw; (try dsimp only at hSw); go_simp; all_goals rfl
          simp only [Act.put, List.setIfInBounds_toArray, List.set_cons_zero, List.set_cons_succ, List.getElem_toArray, List.getElem_cons_zero, List.getElem_cons_succ]
          refine wpAnyH_take (i := 8) (v := ?v6) rfl (by kernel_rfl) (by kernel_rfl) (by kernel_rfl) (fun _ _ _ h => h) (Or.inl ⟨by rfl, ?hy6⟩) hH ?rest6
          case hy6 => intro w' hSw; (try dsimp only at hSw); go_simp; all_goals rfl
          simp only [Act.put, List.setIfInBounds_toArray, List.set_cons_zero, List.set_cons_succ, List.getElem_toArray, List.getElem_cons_zero, List.getElem_cons_succ]
          refine wpAnyH_ready (rs := [9]) (by kernel_rfl) (by simp) ?_
          refine AllReadyH.cons rfl (fun K hK => ?_) AllReadyH.nil
          refine step_alloc_X HZ.out rfl rfl ?_
          have Nx : Hid (BW w b2 b3 g D1 DU h1 (x.alloc (.cells Z.toArray 25))) := Mx.out.kept (up0 _ _)
          refine hK.out _ _ ⟨Nx.out.1.range, HRG.out _ Nx.out⟩ (fun hH2 => ?_)
          clear hK K hH
          have hH := hH2
          clear hH2
          simp only [Act.put, List.setIfInBounds_toArray, List.set_cons_zero, List.set_cons_succ, List.getElem_toArray, List.getElem_cons_zero, List.getElem_cons_succ]
          refine wpAnyH_ready (rs := [10]) (by kernel_rfl) (by simp) ?_
          refine AllReadyH.cons rfl (fun K hK => ?_) AllReadyH.nil
          refine step_storeX rfl 25 (.tmp 6) (.tmp 41) rfl x.heap.size 0 T.toArray rfl rfl (there_of (lb_new x Z _) (by simpa using TZ.out)) (by simpa using TL.out) (all_oneCell_toArray T1.out) ?_
          rw [List.toList_toArray]
          have Qf : Hid (BW w b2 b3 g D1 DU h1 ((x.alloc (.cells Z.toArray 25)).setCells x.heap.size 0 T)) := Mx.out.kept (one_box x 25 Z T TZ.out).2
          refine hK.out _ _ ⟨Qf.out.1.range, HRG.out _ Qf.out⟩ (fun hH2 => ?_)
          clear hK K hH
          have hH := hH2
          clear hH2
          simp only [Act.put, List.getElem_toArray, List.getElem_cons_zero, List.getElem_cons_succ]
          refine wpAnyH_take (i := 11) (v := ?v7) rfl (by kernel_rfl) (by kernel_rfl) (by kernel_rfl) (fun _ _ _ h => h) (Or.inl ⟨by rfl, ?hy7⟩) hH ?rest7
          case hy7 => intro w' hSw; (try dsimp only at hSw); go_simp; all_goals rfl
          simp only [Act.put, List.setIfInBounds_toArray, List.set_cons_zero, List.set_cons_succ, List.getElem_toArray, List.getElem_cons_zero, List.getElem_cons_succ]
          refine wpAnyH_done (by kernel_rfl) ?_ _
          clear hH
          go_wp2_with fail
          go_meet
          exact ⟨rfl, Qf.out⟩
        · refine AllReadyH.cons rfl (fun K hK => ?_) AllReadyH.nil
          refine step_alloc_X HZ.out rfl rfl ?_
          have Nx : Hid (BW w b2 b3 g D1 DU h1 (V0.alloc (.cells Z.toArray 25))) := K0.out.kept (up0 _ _)
          refine hK.out _ _ ⟨Nx.out.1.range, HRG.out _ Nx.out⟩ (fun hH2 => ?_)
          clear hK K hH
          have hH := hH2
          clear hH2
          simp only [Act.put, List.setIfInBounds_toArray, List.set_cons_zero, List.set_cons_succ, List.getElem_toArray, List.getElem_cons_zero, List.getElem_cons_succ]
          refine wpAnyH_ready (rs := [5]) (by kernel_rfl) (by simp) ?_
          refine AllReadyH.cons rfl (fun K hK => ?_) AllReadyH.nil
          go_simp
          refine (HP1.out _ Nx.out).mono ?_
          rintro e x ⟨k, rfl, be⟩
          have Mx : Hid (BW w b2 b3 g D1 DU h1 x) := Nx.out.kept be
          have Lz : Hid (LB x V0.heap.size 25 Z) := (lb_new V0 Z _).kept be
          have hne2 : b2 ≠ V0.heap.size := Nat.ne_of_lt K0.out.1.lt
          have hne3 : b3 ≠ V0.heap.size := Nat.ne_of_lt K0.out.2.1.lt
          have hneg : g ≠ V0.heap.size := Nat.ne_of_lt K0.out.2.2.1.lt
          have Bl : Hid (∀ T, Below V0.heap.size V0 (x.setCells V0.heap.size 0 T)) := fun T => below_cells (Nat.le_refl _) _ 0 _ (andThen (up0 _ _) be)
          obtain ⟨T, hT, hTL, hTE⟩ := sv_letter zSg k
          rw [hT]
          have TL : Hid _ := hTL
          have T1 : Hid (∀ v ∈ T, v.oneCell' = true) := by show ∀ v ∈ T, _; rw [hTE]; exact scl_one _ _
          have TZ : Hid (T.length = Z.length) := by show _ = _; rw [hTE, HZL.out]; rfl
          clear hT hTL hTE
          refine hK.out _ _ ⟨Mx.out.1.range, HRG.out _ Mx.out⟩ (fun hH2 => ?_)
          clear hK K hH
          have hH := hH2
          clear hH2
          clear be
          refine wpAnyH_take (i := 6) (v := ?v8) rfl (by kernel_rfl) (by kernel_rfl) (by kernel_rfl) (fun _ _ _ h => h) (Or.inl ⟨by rfl, ?hy8⟩) hH ?rest8
          case hy8 => intro w' hSw; (try dsimp only at hSw); go_simp; all_goals rfl
          simp only [Act.put, List.setIfInBounds_toArray, List.set_cons_zero, List.set_cons_succ, List.getElem_toArray, List.getElem_cons_zero, List.getElem_cons_succ]
          refine wpAnyH_take (i := 7) (v := ?v9) rfl (by kernel_rfl) (by kernel_rfl) (by kernel_rfl) (fun _ _ _ h => h) (Or.inl ⟨by rfl, ?hy9⟩) hH ?rest9
          case hy9 => intro w' hSw; (try dsimp only at hSw); go_simp; all_goals rfl
          simp only [Act.put, List.setIfInBounds_toArray, List.set_cons_zero, List.set_cons_succ, List.getElem_toArray, List.getElem_cons_zero, List.getElem_cons_succ]
          refine wpAnyH_take (i := 8) (v := ?v10) rfl (by kernel_rfl) (by kernel_rfl) (by kernel_rfl) (fun _ _ _ h => h) (Or.inl ⟨by rfl, ?hy10⟩) hH ?rest10
          case hy10 => intro w' hSw; (try dsimp only at hSw); go_simp; all_goals rfl
          simp only [Act.put, List.setIfInBounds_toArray, List.set_cons_zero, List.set_cons_succ, List.getElem_toArray, List.getElem_cons_zero, List.getElem_cons_succ]
          refine wpAnyH_ready (rs := [10]) (by kernel_rfl) (by simp) ?_
          refine AllReadyH.cons rfl (fun K hK => ?_) AllReadyH.nil
          refine step_storeX rfl 25 (.tmp 6) (.tmp 41) rfl V0.heap.size 0 T.toArray rfl rfl (there_of Lz.out (by simpa using TZ.out)) (by simpa using TL.out) (all_oneCell_toArray T1.out) ?_
          rw [List.toList_toArray]
          have Qf : Hid (BW w b2 b3 g D1 DU h1 (x.setCells V0.heap.size 0 T)) := K0.out.kept (Bl.out T)
          refine hK.out _ _ ⟨Qf.out.1.range, HRG.out _ Qf.out⟩ (fun hH2 => ?_)
          clear hK K hH
          have hH := hH2
          clear hH2
          simp only [Act.put, List.getElem_toArray, List.getElem_cons_zero, List.getElem_cons_succ]
          refine wpAnyH_take (i := 11) (v := ?v11) rfl (by kernel_rfl) (by kernel_rfl) (by kernel_rfl) (fun _ _ _ h => h) (Or.inl ⟨by rfl, ?hy11⟩) hH ?rest11
          case hy11 => intro w' hSw; (try dsimp only at hSw); go_simp; all_goals rfl
          simp only [Act.put, List.setIfInBounds_toArray, List.set_cons_zero, List.set_cons_succ, List.getElem_toArray, List.getElem_cons_zero, List.getElem_cons_succ]
          refine wpAnyH_done (by kernel_rfl) ?_ _
          clear hH
          go_wp2_with fail
          go_meet
          exact ⟨rfl, Qf.out⟩
      case rest =>
      obtain ⟨rfl, hq0⟩ := hcut
      have Q0 : Hid (BW w b2 b3 g D1 DU h1 wc) := hq0
      clear hq0 HW
      go_wp2
      go_cut [8, 9] from 28 to 87 (fun _ f wx => f = .int .i64 z1 ∧ BW w b2 b3 g D1 DU h1 wx)
      case first =>
        have K1 : Hid (BW w b2 b3 g D1 DU h1 wc.drew) := Q0.out.kept (Below.drew (Below.refl _ _))
        clear Q0
        refine wp_region_held_drew (S := (fun w' : World => w'.rangeAt b2 0 D1 ∧ w'.rangeAt g (n * 12) R)) (by kernel_rfl) ⟨K1.out.1.range, HRG.out _ K1.out⟩ (fun hH => ?_)
        generalize wc.drew = V1 at *
        refine wpAnyH_take (i := 0) rfl (by kernel_rfl) (by kernel_rfl) (by kernel_rfl) (fun _ _ _ h => h) (yieldsIf_load_mid (by rfl) _ _ rfl _ _ rfl D1 _ (fun w' hSw => hSw.1) Tryz.underlying25 rfl HDL.out) hH ?_
        simp only [Act.put, List.setIfInBounds_toArray, List.set_cons_zero, List.set_cons_succ, List.getElem_toArray, List.getElem_cons_zero]
        refine wpAnyH_take (i := 1) (v := ?v12) rfl (by kernel_rfl) (by kernel_rfl) (by kernel_rfl) (fun _ _ _ h => h) (Or.inl ⟨by rfl, ?hy12⟩) hH ?rest12
        case hy12 => intro w' hSw; (try dsimp only at hSw); go_simp; all_goals rfl
        simp only [Act.put, List.setIfInBounds_toArray, List.set_cons_zero, List.set_cons_succ, List.getElem_toArray, List.getElem_cons_zero, List.getElem_cons_succ]
        refine wpAnyH_take (i := 2) (v := ?v13) rfl (by kernel_rfl) (by kernel_rfl) (by kernel_rfl) (fun _ _ _ h => h) (Or.inl ⟨by rfl, ?hy13⟩) hH ?rest13
        case hy13 => intro w' hSw; (try dsimp only at hSw); go_simp; all_goals rfl
        simp only [Act.put, List.setIfInBounds_toArray, List.set_cons_zero, List.set_cons_succ, List.getElem_toArray, List.getElem_cons_zero, List.getElem_cons_succ]
        refine wpAnyH_take (i := 3) (v := ?v14) rfl (by kernel_rfl) (by kernel_rfl) (by kernel_rfl) (fun _ _ _ h => h) (Or.inl ⟨by rfl, ?hy14⟩) hH ?rest14
        case hy14 => intro w' hSw; (try dsimp only at hSw); go_simp; all_goals rfl
        simp only [Act.put, List.setIfInBounds_toArray, List.set_cons_zero, List.set_cons_succ, List.getElem_toArray, List.getElem_cons_zero, List.getElem_cons_succ]
        refine wpAnyH_take (i := 4) rfl (by kernel_rfl) (by kernel_rfl) (by kernel_rfl) (fun _ _ _ h => h) (yieldsIf_load_mid (by rfl) _ _ rfl _ _ rfl R _ (fun w' hSw => hSw.2) Tryz.underlying27 rfl HRL.out) hH ?_
        simp only [Act.put, List.setIfInBounds_toArray, List.set_cons_zero, List.set_cons_succ, List.getElem_toArray, List.getElem_cons_zero, List.getElem_cons_succ]
        refine wpAnyH_ready (rs := [5, 9]) (by kernel_rfl) (by simp) ?_
        refine AllReadyH.cons rfl (fun K hK => ?_) ?_
        · skip
          go_simp
          refine (HX1.out _ K1.out).mono ?_
          rintro e x ⟨k, rfl, be⟩
          have Mx : Hid (BW w b2 b3 g D1 DU h1 x) := K1.out.kept be
          obtain ⟨T, hT, hTL, hTE⟩ := sv_letter zSg k
          rw [hT]
          have TL : Hid _ := hTL
          have T1 : Hid (∀ v ∈ T, v.oneCell' = true) := by show ∀ v ∈ T, _; rw [hTE]; exact scl_one _ _
          have TZ : Hid (T.length = Z.length) := by show _ = _; rw [hTE, HZL.out]; rfl
          clear hT hTL hTE
          refine hK.out _ _ ⟨Mx.out.1.range, HRG.out _ Mx.out⟩ (fun hH2 => ?_)
          clear hK K hH
          have hH := hH2
          clear hH2
          clear be
          refine wpAnyH_take (i := 6) (v := ?v15) rfl (by kernel_rfl) (by kernel_rfl) (by kernel_rfl) (fun _ _ _ h => h) (Or.inl ⟨by rfl, ?hy15⟩) hH ?rest15
          case hy15 => intro w' hSw; (try dsimp only at hSw); go_simp; all_goals rfl
          simp only [Act.put, List.setIfInBounds_toArray, List.set_cons_zero, List.set_cons_succ, List.getElem_toArray, List.getElem_cons_zero, List.getElem_cons_succ]
          refine wpAnyH_take (i := 7) (v := ?v16) rfl (by kernel_rfl) (by kernel_rfl) (by kernel_rfl) (fun _ _ _ h => h) (Or.inl ⟨by rfl, ?hy16⟩) hH ?rest16
          case hy16 => intro w' hSw; (try dsimp only at hSw); go_simp; all_goals rfl
          simp only [Act.put, List.setIfInBounds_toArray, List.set_cons_zero, List.set_cons_succ, List.getElem_toArray, List.getElem_cons_zero, List.getElem_cons_succ]
          refine wpAnyH_take (i := 8) (v := ?v17) rfl (by kernel_rfl) (by kernel_rfl) (by kernel_rfl) (fun _ _ _ h => h) (Or.inl ⟨by rfl, ?hy17⟩) hH ?rest17
          case hy17 => intro w' hSw; (try dsimp only at hSw); go_simp; all_goals rfl
          simp only [Act.put, List.setIfInBounds_toArray, List.set_cons_zero, List.set_cons_succ, List.getElem_toArray, List.getElem_cons_zero, List.getElem_cons_succ]
          refine wpAnyH_ready (rs := [9]) (by kernel_rfl) (by simp) ?_
          refine AllReadyH.cons rfl (fun K hK => ?_) AllReadyH.nil
          refine step_alloc_X HZ.out rfl rfl ?_
          have Nx : Hid (BW w b2 b3 g D1 DU h1 (x.alloc (.cells Z.toArray 25))) := Mx.out.kept (up0 _ _)
          refine hK.out _ _ ⟨Nx.out.1.range, HRG.out _ Nx.out⟩ (fun hH2 => ?_)
          clear hK K hH
          have hH := hH2
          clear hH2
          simp only [Act.put, List.setIfInBounds_toArray, List.set_cons_zero, List.set_cons_succ, List.getElem_toArray, List.getElem_cons_zero, List.getElem_cons_succ]
          refine wpAnyH_ready (rs := [10]) (by kernel_rfl) (by simp) ?_
          refine AllReadyH.cons rfl (fun K hK => ?_) AllReadyH.nil
          refine step_storeX rfl 25 (.tmp 8) (.tmp 50) rfl x.heap.size 0 T.toArray rfl rfl (there_of (lb_new x Z _) (by simpa using TZ.out)) (by simpa using TL.out) (all_oneCell_toArray T1.out) ?_
          rw [List.toList_toArray]
          have Qf : Hid (BW w b2 b3 g D1 DU h1 ((x.alloc (.cells Z.toArray 25)).setCells x.heap.size 0 T)) := Mx.out.kept (one_box x 25 Z T TZ.out).2
          refine hK.out _ _ ⟨Qf.out.1.range, HRG.out _ Qf.out⟩ (fun hH2 => ?_)
          clear hK K hH
          have hH := hH2
          clear hH2
          simp only [Act.put, List.getElem_toArray, List.getElem_cons_zero, List.getElem_cons_succ]
          refine wpAnyH_take (i := 11) (v := ?v18) rfl (by kernel_rfl) (by kernel_rfl) (by kernel_rfl) (fun _ _ _ h => h) (Or.inl ⟨by rfl, ?hy18⟩) hH ?rest18
          case hy18 => intro w' hSw; (try dsimp only at hSw); go_simp; all_goals rfl
          simp only [Act.put, List.setIfInBounds_toArray, List.set_cons_zero, List.set_cons_succ, List.getElem_toArray, List.getElem_cons_zero, List.getElem_cons_succ]
          refine wpAnyH_done (by kernel_rfl) ?_ _
          clear hH
          go_wp2_with fail
          go_meet
          exact ⟨rfl, Qf.out⟩
        · refine AllReadyH.cons rfl (fun K hK => ?_) AllReadyH.nil
          refine step_alloc_X HZ.out rfl rfl ?_
          have Nx : Hid (BW w b2 b3 g D1 DU h1 (V1.alloc (.cells Z.toArray 25))) := K1.out.kept (up0 _ _)
          refine hK.out _ _ ⟨Nx.out.1.range, HRG.out _ Nx.out⟩ (fun hH2 => ?_)
          clear hK K hH
          have hH := hH2
          clear hH2
          simp only [Act.put, List.setIfInBounds_toArray, List.set_cons_zero, List.set_cons_succ, List.getElem_toArray, List.getElem_cons_zero, List.getElem_cons_succ]
          refine wpAnyH_ready (rs := [5]) (by kernel_rfl) (by simp) ?_
          refine AllReadyH.cons rfl (fun K hK => ?_) AllReadyH.nil
          go_simp
          refine (HX1.out _ Nx.out).mono ?_
          rintro e x ⟨k, rfl, be⟩
          have Mx : Hid (BW w b2 b3 g D1 DU h1 x) := Nx.out.kept be
          have Lz : Hid (LB x V1.heap.size 25 Z) := (lb_new V1 Z _).kept be
          have hne2 : b2 ≠ V1.heap.size := Nat.ne_of_lt K1.out.1.lt
          have hne3 : b3 ≠ V1.heap.size := Nat.ne_of_lt K1.out.2.1.lt
          have hneg : g ≠ V1.heap.size := Nat.ne_of_lt K1.out.2.2.1.lt
          have Bl : Hid (∀ T, Below V1.heap.size V1 (x.setCells V1.heap.size 0 T)) := fun T => below_cells (Nat.le_refl _) _ 0 _ (andThen (up0 _ _) be)
          obtain ⟨T, hT, hTL, hTE⟩ := sv_letter zSg k
          rw [hT]
          have TL : Hid _ := hTL
          have T1 : Hid (∀ v ∈ T, v.oneCell' = true) := by show ∀ v ∈ T, _; rw [hTE]; exact scl_one _ _
          have TZ : Hid (T.length = Z.length) := by show _ = _; rw [hTE, HZL.out]; rfl
          clear hT hTL hTE
          refine hK.out _ _ ⟨Mx.out.1.range, HRG.out _ Mx.out⟩ (fun hH2 => ?_)
          clear hK K hH
          have hH := hH2
          clear hH2
          clear be
          refine wpAnyH_take (i := 6) (v := ?v19) rfl (by kernel_rfl) (by kernel_rfl) (by kernel_rfl) (fun _ _ _ h => h) (Or.inl ⟨by rfl, ?hy19⟩) hH ?rest19
          case hy19 => intro w' hSw; (try dsimp only at hSw); go_simp; all_goals rfl
          simp only [Act.put, List.setIfInBounds_toArray, List.set_cons_zero, List.set_cons_succ, List.getElem_toArray, List.getElem_cons_zero, List.getElem_cons_succ]
          refine wpAnyH_take (i := 7) (v := ?v20) rfl (by kernel_rfl) (by kernel_rfl) (by kernel_rfl) (fun _ _ _ h => h) (Or.inl ⟨by rfl, ?hy20⟩) hH ?rest20
          case hy20 => intro w' hSw; (try dsimp only at hSw); go_simp; all_goals rfl
          simp only [Act.put, List.setIfInBounds_toArray, List.set_cons_zero, List.set_cons_succ, List.getElem_toArray, List.getElem_cons_zero, List.getElem_cons_succ]
          refine wpAnyH_take (i := 8) (v := ?v21) rfl (by kernel_rfl) (by kernel_rfl) (by kernel_rfl) (fun _ _ _ h => h) (Or.inl ⟨by rfl, ?hy21⟩) hH ?rest21
          case hy21 => intro w' hSw; (try dsimp only at hSw); go_simp; all_goals rfl
          simp only [Act.put, List.setIfInBounds_toArray, List.set_cons_zero, List.set_cons_succ, List.getElem_toArray, List.getElem_cons_zero, List.getElem_cons_succ]
          refine wpAnyH_ready (rs := [10]) (by kernel_rfl) (by simp) ?_
          refine AllReadyH.cons rfl (fun K hK => ?_) AllReadyH.nil
          refine step_storeX rfl 25 (.tmp 8) (.tmp 50) rfl V1.heap.size 0 T.toArray rfl rfl (there_of Lz.out (by simpa using TZ.out)) (by simpa using TL.out) (all_oneCell_toArray T1.out) ?_
          rw [List.toList_toArray]
          have Qf : Hid (BW w b2 b3 g D1 DU h1 (x.setCells V1.heap.size 0 T)) := K1.out.kept (Bl.out T)
          refine hK.out _ _ ⟨Qf.out.1.range, HRG.out _ Qf.out⟩ (fun hH2 => ?_)
          clear hK K hH
          have hH := hH2
          clear hH2
          simp only [Act.put, List.getElem_toArray, List.getElem_cons_zero, List.getElem_cons_succ]
          refine wpAnyH_take (i := 11) (v := ?v22) rfl (by kernel_rfl) (by kernel_rfl) (by kernel_rfl) (fun _ _ _ h => h) (Or.inl ⟨by rfl, ?hy22⟩) hH ?rest22
          case hy22 => intro w' hSw; (try dsimp only at hSw); go_simp; all_goals rfl
          simp only [Act.put, List.setIfInBounds_toArray, List.set_cons_zero, List.set_cons_succ, List.getElem_toArray, List.getElem_cons_zero, List.getElem_cons_succ]
          refine wpAnyH_done (by kernel_rfl) ?_ _
          clear hH
          go_wp2_with fail
          go_meet
          exact ⟨rfl, Qf.out⟩
      case rest =>
      obtain ⟨rfl, hq1⟩ := hcut
      have Q1 : Hid (BW w b2 b3 g D1 DU h1 wc) := hq1
      clear hq1 Q0
      go_wp2
      go_cut [10, 11] from 28 to 87 (fun _ f wx => f = .int .i64 z2 ∧ BW w b2 b3 g D1 DU h1 wx)
      case first =>
        have K2 : Hid (BW w b2 b3 g D1 DU h1 wc.drew) := Q1.out.kept (Below.drew (Below.refl _ _))
        clear Q1
        refine wp_region_held_drew (S := (fun w' : World => w'.rangeAt b3 0 DU ∧ w'.rangeAt g (n * 12) R)) (by kernel_rfl) ⟨K2.out.2.1.range, HRG.out _ K2.out⟩ (fun hH => ?_)
        generalize wc.drew = V2 at *
        refine wpAnyH_take (i := 0) rfl (by kernel_rfl) (by kernel_rfl) (by kernel_rfl) (fun _ _ _ h => h) (yieldsIf_load_mid (by rfl) _ _ rfl _ _ rfl DU _ (fun w' hSw => hSw.1) Tryz.underlying25 rfl HUL.out) hH ?_
        simp only [Act.put, List.setIfInBounds_toArray, List.set_cons_zero, List.set_cons_succ, List.getElem_toArray, List.getElem_cons_zero]
        refine wpAnyH_take (i := 1) (v := ?v23) rfl (by kernel_rfl) (by kernel_rfl) (by kernel_rfl) (fun _ _ _ h => h) (Or.inl ⟨by rfl, ?hy23⟩) hH ?rest23
        case hy23 => intro w' hSw; (try dsimp only at hSw); go_simp; all_goals rfl
        simp only [Act.put, List.setIfInBounds_toArray, List.set_cons_zero, List.set_cons_succ, List.getElem_toArray, List.getElem_cons_zero, List.getElem_cons_succ]
        refine wpAnyH_take (i := 2) (v := ?v24) rfl (by kernel_rfl) (by kernel_rfl) (by kernel_rfl) (fun _ _ _ h => h) (Or.inl ⟨by rfl, ?hy24⟩) hH ?rest24
        case hy24 => intro w' hSw; (try dsimp only at hSw); go_simp; all_goals rfl
        simp only [Act.put, List.setIfInBounds_toArray, List.set_cons_zero, List.set_cons_succ, List.getElem_toArray, List.getElem_cons_zero, List.getElem_cons_succ]
        refine wpAnyH_take (i := 3) (v := ?v25) rfl (by kernel_rfl) (by kernel_rfl) (by kernel_rfl) (fun _ _ _ h => h) (Or.inl ⟨by rfl, ?hy25⟩) hH ?rest25
        case hy25 => intro w' hSw; (try dsimp only at hSw); go_simp; all_goals rfl
        simp only [Act.put, List.setIfInBounds_toArray, List.set_cons_zero, List.set_cons_succ, List.getElem_toArray, List.getElem_cons_zero, List.getElem_cons_succ]
        refine wpAnyH_take (i := 4) rfl (by kernel_rfl) (by kernel_rfl) (by kernel_rfl) (fun _ _ _ h => h) (yieldsIf_load_mid (by rfl) _ _ rfl _ _ rfl R _ (fun w' hSw => hSw.2) Tryz.underlying27 rfl HRL.out) hH ?_
        simp only [Act.put, List.setIfInBounds_toArray, List.set_cons_zero, List.set_cons_succ, List.getElem_toArray, List.getElem_cons_zero, List.getElem_cons_succ]
        refine wpAnyH_ready (rs := [5, 9]) (by kernel_rfl) (by simp) ?_
        refine AllReadyH.cons rfl (fun K hK => ?_) ?_
        · skip
          go_simp
          refine (HPU.out _ K2.out).mono ?_
          rintro e x ⟨k, rfl, be⟩
          have Mx : Hid (BW w b2 b3 g D1 DU h1 x) := K2.out.kept be
          obtain ⟨T, hT, hTL, hTE⟩ := sv_letter zSg k
          rw [hT]
          have TL : Hid _ := hTL
          have T1 : Hid (∀ v ∈ T, v.oneCell' = true) := by show ∀ v ∈ T, _; rw [hTE]; exact scl_one _ _
          have TZ : Hid (T.length = Z.length) := by show _ = _; rw [hTE, HZL.out]; rfl
          clear hT hTL hTE
          refine hK.out _ _ ⟨Mx.out.2.1.range, HRG.out _ Mx.out⟩ (fun hH2 => ?_)
          clear hK K hH
          have hH := hH2
          clear hH2
          clear be
          refine wpAnyH_take (i := 6) (v := ?v26) rfl (by kernel_rfl) (by kernel_rfl) (by kernel_rfl) (fun _ _ _ h => h) (Or.inl ⟨by rfl, ?hy26⟩) hH ?rest26
          case hy26 => intro w' hSw; (try dsimp only at hSw); go_simp; all_goals rfl
          simp only [Act.put, List.setIfInBounds_toArray, List.set_cons_zero, List.set_cons_succ, List.getElem_toArray, List.getElem_cons_zero, List.getElem_cons_succ]
          refine wpAnyH_take (i := 7) (v := ?v27) rfl (by kernel_rfl) (by kernel_rfl) (by kernel_rfl) (fun _ _ _ h => h) (Or.inl ⟨by rfl, ?hy27⟩) hH ?rest27
          case hy27 => intro w' hSw; (try dsimp only at hSw); go_simp; all_goals rfl
          simp only [Act.put, List.setIfInBounds_toArray, List.set_cons_zero, List.set_cons_succ, List.getElem_toArray, List.getElem_cons_zero, List.getElem_cons_succ]
          refine wpAnyH_take (i := 8) (v := ?v28) rfl (by kernel_rfl) (by kernel_rfl) (by kernel_rfl) (fun _ _ _ h => h) (Or.inl ⟨by rfl, ?hy28⟩) hH ?rest28
          case hy28 => intro w' hSw; (try dsimp only at hSw); go_simp; all_goals rfl
          simp only [Act.put, List.setIfInBounds_toArray, List.set_cons_zero, List.set_cons_succ, List.getElem_toArray, List.getElem_cons_zero, List.getElem_cons_succ]
          refine wpAnyH_ready (rs := [9]) (by kernel_rfl) (by simp) ?_
          refine AllReadyH.cons rfl (fun K hK => ?_) AllReadyH.nil
          refine step_alloc_X HZ.out rfl rfl ?_
          have Nx : Hid (BW w b2 b3 g D1 DU h1 (x.alloc (.cells Z.toArray 25))) := Mx.out.kept (up0 _ _)
          refine hK.out _ _ ⟨Nx.out.2.1.range, HRG.out _ Nx.out⟩ (fun hH2 => ?_)
          clear hK K hH
          have hH := hH2
          clear hH2
          simp only [Act.put, List.setIfInBounds_toArray, List.set_cons_zero, List.set_cons_succ, List.getElem_toArray, List.getElem_cons_zero, List.getElem_cons_succ]
          refine wpAnyH_ready (rs := [10]) (by kernel_rfl) (by simp) ?_
          refine AllReadyH.cons rfl (fun K hK => ?_) AllReadyH.nil
          refine step_storeX rfl 25 (.tmp 10) (.tmp 59) rfl x.heap.size 0 T.toArray rfl rfl (there_of (lb_new x Z _) (by simpa using TZ.out)) (by simpa using TL.out) (all_oneCell_toArray T1.out) ?_
          rw [List.toList_toArray]
          have Qf : Hid (BW w b2 b3 g D1 DU h1 ((x.alloc (.cells Z.toArray 25)).setCells x.heap.size 0 T)) := Mx.out.kept (one_box x 25 Z T TZ.out).2
          refine hK.out _ _ ⟨Qf.out.2.1.range, HRG.out _ Qf.out⟩ (fun hH2 => ?_)
          clear hK K hH
          have hH := hH2
          clear hH2
          simp only [Act.put, List.getElem_toArray, List.getElem_cons_zero, List.getElem_cons_succ]
          refine wpAnyH_take (i := 11) (v := ?v29) rfl (by kernel_rfl) (by kernel_rfl) (by kernel_rfl) (fun _ _ _ h => h) (Or.inl ⟨by rfl, ?hy29⟩) hH ?rest29
          case hy29 => intro w' hSw; (try dsimp only at hSw); go_simp; all_goals rfl
          simp only [Act.put, List.setIfInBounds_toArray, List.set_cons_zero, List.set_cons_succ, List.getElem_toArray, List.getElem_cons_zero, List.getElem_cons_succ]
          refine wpAnyH_done (by kernel_rfl) ?_ _
          clear hH
          go_wp2_with fail
          go_meet
          exact ⟨rfl, Qf.out⟩
        · refine AllReadyH.cons rfl (fun K hK => ?_) AllReadyH.nil
          refine step_alloc_X HZ.out rfl rfl ?_
          have Nx : Hid (BW w b2 b3 g D1 DU h1 (V2.alloc (.cells Z.toArray 25))) := K2.out.kept (up0 _ _)
          refine hK.out _ _ ⟨Nx.out.2.1.range, HRG.out _ Nx.out⟩ (fun hH2 => ?_)
          clear hK K hH
          have hH := hH2
          clear hH2
          simp only [Act.put, List.setIfInBounds_toArray, List.set_cons_zero, List.set_cons_succ, List.getElem_toArray, List.getElem_cons_zero, List.getElem_cons_succ]
          refine wpAnyH_ready (rs := [5]) (by kernel_rfl) (by simp) ?_
          refine AllReadyH.cons rfl (fun K hK => ?_) AllReadyH.nil
          go_simp
          refine (HPU.out _ Nx.out).mono ?_
          rintro e x ⟨k, rfl, be⟩
          have Mx : Hid (BW w b2 b3 g D1 DU h1 x) := Nx.out.kept be
          have Lz : Hid (LB x V2.heap.size 25 Z) := (lb_new V2 Z _).kept be
          have hne2 : b2 ≠ V2.heap.size := Nat.ne_of_lt K2.out.1.lt
          have hne3 : b3 ≠ V2.heap.size := Nat.ne_of_lt K2.out.2.1.lt
          have hneg : g ≠ V2.heap.size := Nat.ne_of_lt K2.out.2.2.1.lt
          have Bl : Hid (∀ T, Below V2.heap.size V2 (x.setCells V2.heap.size 0 T)) := fun T => below_cells (Nat.le_refl _) _ 0 _ (andThen (up0 _ _) be)
          obtain ⟨T, hT, hTL, hTE⟩ := sv_letter zSg k
          rw [hT]
          have TL : Hid _ := hTL
          have T1 : Hid (∀ v ∈ T, v.oneCell' = true) := by show ∀ v ∈ T, _; rw [hTE]; exact scl_one _ _
          have TZ : Hid (T.length = Z.length) := by show _ = _; rw [hTE, HZL.out]; rfl
          clear hT hTL hTE
          refine hK.out _ _ ⟨Mx.out.2.1.range, HRG.out _ Mx.out⟩ (fun hH2 => ?_)
          clear hK K hH
          have hH := hH2
          clear hH2
          clear be
          refine wpAnyH_take (i := 6) (v := ?v30) rfl (by kernel_rfl) (by kernel_rfl) (by kernel_rfl) (fun _ _ _ h => h) (Or.inl ⟨by rfl, ?hy30⟩) hH ?rest30
          case hy30 => intro w' hSw; (try dsimp only at hSw); go_simp; all_goals rfl
          simp only [Act.put, List.setIfInBounds_toArray, List.set_cons_zero, List.set_cons_succ, List.getElem_toArray, List.getElem_cons_zero, List.getElem_cons_succ]
          refine wpAnyH_take (i := 7) (v := ?v31) rfl (by kernel_rfl) (by kernel_rfl) (by kernel_rfl) (fun _ _ _ h => h) (Or.inl ⟨by rfl, ?hy31⟩) hH ?rest31
          case hy31 => intro w' hSw; (try dsimp only at hSw); go_simp; all_goals rfl
          simp only [Act.put, List.setIfInBounds_toArray, List.set_cons_zero, List.set_cons_succ, List.getElem_toArray, List.getElem_cons_zero, List.getElem_cons_succ]
          refine wpAnyH_take (i := 8) (v := ?v32) rfl (by kernel_rfl) (by kernel_rfl) (by kernel_rfl) (fun _ _ _ h => h) (Or.inl ⟨by rfl, ?hy32⟩) hH ?rest32
          case hy32 => intro w' hSw; (try dsimp only at hSw); go_simp; all_goals rfl
          simp only [Act.put, List.setIfInBounds_toArray, List.set_cons_zero, List.set_cons_succ, List.getElem_toArray, List.getElem_cons_zero, List.getElem_cons_succ]
          refine wpAnyH_ready (rs := [10]) (by kernel_rfl) (by simp) ?_
          refine AllReadyH.cons rfl (fun K hK => ?_) AllReadyH.nil
          refine step_storeX rfl 25 (.tmp 10) (.tmp 59) rfl V2.heap.size 0 T.toArray rfl rfl (there_of Lz.out (by simpa using TZ.out)) (by simpa using TL.out) (all_oneCell_toArray T1.out) ?_
          rw [List.toList_toArray]
          have Qf : Hid (BW w b2 b3 g D1 DU h1 (x.setCells V2.heap.size 0 T)) := K2.out.kept (Bl.out T)
          refine hK.out _ _ ⟨Qf.out.2.1.range, HRG.out _ Qf.out⟩ (fun hH2 => ?_)
          clear hK K hH
          have hH := hH2
          clear hH2
          simp only [Act.put, List.getElem_toArray, List.getElem_cons_zero, List.getElem_cons_succ]
          refine wpAnyH_take (i := 11) (v := ?v33) rfl (by kernel_rfl) (by kernel_rfl) (by kernel_rfl) (fun _ _ _ h => h) (Or.inl ⟨by rfl, ?hy33⟩) hH ?rest33
          case hy33 => intro w' hSw; (try dsimp only at hSw); go_simp; all_goals rfl
          simp only [Act.put, List.setIfInBounds_toArray, List.set_cons_zero, List.set_cons_succ, List.getElem_toArray, List.getElem_cons_zero, List.getElem_cons_succ]
          refine wpAnyH_done (by kernel_rfl) ?_ _
          clear hH
          go_wp2_with fail
          go_meet
          exact ⟨rfl, Qf.out⟩
      case rest =>
      obtain ⟨rfl, hq2⟩ := hcut
      have Q2 : Hid (BW w b2 b3 g D1 DU h1 wc) := hq2
      clear hq2 Q1
      go_wp2
      go_cut [12, 13] from 28 to 87 (fun _ f wx => f = .int .i64 z2 ∧ BW w b2 b3 g D1 DU h1 wx)
      case first =>
        have K3 : Hid (BW w b2 b3 g D1 DU h1 wc.drew) := Q2.out.kept (Below.drew (Below.refl _ _))
        clear Q2
        refine wp_region_held_drew (S := (fun w' : World => w'.rangeAt b3 0 DU ∧ w'.rangeAt g (n * 12) R)) (by kernel_rfl) ⟨K3.out.2.1.range, HRG.out _ K3.out⟩ (fun hH => ?_)
        generalize wc.drew = V3 at *
        refine wpAnyH_take (i := 0) rfl (by kernel_rfl) (by kernel_rfl) (by kernel_rfl) (fun _ _ _ h => h) (yieldsIf_load_mid (by rfl) _ _ rfl _ _ rfl DU _ (fun w' hSw => hSw.1) Tryz.underlying25 rfl HUL.out) hH ?_
        simp only [Act.put, List.setIfInBounds_toArray, List.set_cons_zero, List.set_cons_succ, List.getElem_toArray, List.getElem_cons_zero]
        refine wpAnyH_take (i := 1) (v := ?v34) rfl (by kernel_rfl) (by kernel_rfl) (by kernel_rfl) (fun _ _ _ h => h) (Or.inl ⟨by rfl, ?hy34⟩) hH ?rest34
        case hy34 => intro w' hSw; (try dsimp only at hSw); go_simp; all_goals rfl
        simp only [Act.put, List.setIfInBounds_toArray, List.set_cons_zero, List.set_cons_succ, List.getElem_toArray, List.getElem_cons_zero, List.getElem_cons_succ]
        refine wpAnyH_take (i := 2) (v := ?v35) rfl (by kernel_rfl) (by kernel_rfl) (by kernel_rfl) (fun _ _ _ h => h) (Or.inl ⟨by rfl, ?hy35⟩) hH ?rest35
        case hy35 => intro w' hSw; (try dsimp only at hSw); go_simp; all_goals rfl
        simp only [Act.put, List.setIfInBounds_toArray, List.set_cons_zero, List.set_cons_succ, List.getElem_toArray, List.getElem_cons_zero, List.getElem_cons_succ]
        refine wpAnyH_take (i := 3) (v := ?v36) rfl (by kernel_rfl) (by kernel_rfl) (by kernel_rfl) (fun _ _ _ h => h) (Or.inl ⟨by rfl, ?hy36⟩) hH ?rest36
        case hy36 => intro w' hSw; (try dsimp only at hSw); go_simp; all_goals rfl
        simp only [Act.put, List.setIfInBounds_toArray, List.set_cons_zero, List.set_cons_succ, List.getElem_toArray, List.getElem_cons_zero, List.getElem_cons_succ]
        refine wpAnyH_take (i := 4) rfl (by kernel_rfl) (by kernel_rfl) (by kernel_rfl) (fun _ _ _ h => h) (yieldsIf_load_mid (by rfl) _ _ rfl _ _ rfl R _ (fun w' hSw => hSw.2) Tryz.underlying27 rfl HRL.out) hH ?_
        simp only [Act.put, List.setIfInBounds_toArray, List.set_cons_zero, List.set_cons_succ, List.getElem_toArray, List.getElem_cons_zero, List.getElem_cons_succ]
        refine wpAnyH_ready (rs := [5, 9]) (by kernel_rfl) (by simp) ?_
        refine AllReadyH.cons rfl (fun K hK => ?_) ?_
        · skip
          go_simp
          refine (HXU.out _ K3.out).mono ?_
          rintro e x ⟨k, rfl, be⟩
          have Mx : Hid (BW w b2 b3 g D1 DU h1 x) := K3.out.kept be
          obtain ⟨T, hT, hTL, hTE⟩ := sv_letter zSg k
          rw [hT]
          have TL : Hid _ := hTL
          have T1 : Hid (∀ v ∈ T, v.oneCell' = true) := by show ∀ v ∈ T, _; rw [hTE]; exact scl_one _ _
          have TZ : Hid (T.length = Z.length) := by show _ = _; rw [hTE, HZL.out]; rfl
          clear hT hTL hTE
          refine hK.out _ _ ⟨Mx.out.2.1.range, HRG.out _ Mx.out⟩ (fun hH2 => ?_)
          clear hK K hH
          have hH := hH2
          clear hH2
          clear be
          refine wpAnyH_take (i := 6) (v := ?v37) rfl (by kernel_rfl) (by kernel_rfl) (by kernel_rfl) (fun _ _ _ h => h) (Or.inl ⟨by rfl, ?hy37⟩) hH ?rest37
          case hy37 => intro w' hSw; (try dsimp only at hSw); go_simp; all_goals rfl
          simp only [Act.put, List.setIfInBounds_toArray, List.set_cons_zero, List.set_cons_succ, List.getElem_toArray, List.getElem_cons_zero, List.getElem_cons_succ]
          refine wpAnyH_take (i := 7) (v := ?v38) rfl (by kernel_rfl) (by kernel_rfl) (by kernel_rfl) (fun _ _ _ h => h) (Or.inl ⟨by rfl, ?hy38⟩) hH ?rest38
          case hy38 => intro w' hSw; (try dsimp only at hSw); go_simp; all_goals rfl
          simp only [Act.put, List.setIfInBounds_toArray, List.set_cons_zero, List.set_cons_succ, List.getElem_toArray, List.getElem_cons_zero, List.getElem_cons_succ]
          refine wpAnyH_take (i := 8) (v := ?v39) rfl (by kernel_rfl) (by kernel_rfl) (by kernel_rfl) (fun _ _ _ h => h) (Or.inl ⟨by rfl, ?hy39⟩) hH ?rest39
          case hy39 => intro w' hSw; (try dsimp only at hSw); go_simp; all_goals rfl
          simp only [Act.put, List.setIfInBounds_toArray, List.set_cons_zero, List.set_cons_succ, List.getElem_toArray, List.getElem_cons_zero, List.getElem_cons_succ]
          refine wpAnyH_ready (rs := [9]) (by kernel_rfl) (by simp) ?_
          refine AllReadyH.cons rfl (fun K hK => ?_) AllReadyH.nil
          refine step_alloc_X HZ.out rfl rfl ?_
          have Nx : Hid (BW w b2 b3 g D1 DU h1 (x.alloc (.cells Z.toArray 25))) := Mx.out.kept (up0 _ _)
          refine hK.out _ _ ⟨Nx.out.2.1.range, HRG.out _ Nx.out⟩ (fun hH2 => ?_)
          clear hK K hH
          have hH := hH2
          clear hH2
          simp only [Act.put, List.setIfInBounds_toArray, List.set_cons_zero, List.set_cons_succ, List.getElem_toArray, List.getElem_cons_zero, List.getElem_cons_succ]
          refine wpAnyH_ready (rs := [10]) (by kernel_rfl) (by simp) ?_
          refine AllReadyH.cons rfl (fun K hK => ?_) AllReadyH.nil
          refine step_storeX rfl 25 (.tmp 12) (.tmp 68) rfl x.heap.size 0 T.toArray rfl rfl (there_of (lb_new x Z _) (by simpa using TZ.out)) (by simpa using TL.out) (all_oneCell_toArray T1.out) ?_
          rw [List.toList_toArray]
          have Qf : Hid (BW w b2 b3 g D1 DU h1 ((x.alloc (.cells Z.toArray 25)).setCells x.heap.size 0 T)) := Mx.out.kept (one_box x 25 Z T TZ.out).2
          refine hK.out _ _ ⟨Qf.out.2.1.range, HRG.out _ Qf.out⟩ (fun hH2 => ?_)
          clear hK K hH
          have hH := hH2
          clear hH2
          simp only [Act.put, List.getElem_toArray, List.getElem_cons_zero, List.getElem_cons_succ]
          refine wpAnyH_take (i := 11) (v := ?v40) rfl (by kernel_rfl) (by kernel_rfl) (by kernel_rfl) (fun _ _ _ h => h) (Or.inl ⟨by rfl, ?hy40⟩) hH ?rest40
          case hy40 => intro w' hSw; (try dsimp only at hSw); go_simp; all_goals rfl
          simp only [Act.put, List.setIfInBounds_toArray, List.set_cons_zero, List.set_cons_succ, List.getElem_toArray, List.getElem_cons_zero, List.getElem_cons_succ]
          refine wpAnyH_done (by kernel_rfl) ?_ _
          clear hH
          go_wp2_with fail
          go_meet
          exact ⟨rfl, Qf.out⟩
        · refine AllReadyH.cons rfl (fun K hK => ?_) AllReadyH.nil
          refine step_alloc_X HZ.out rfl rfl ?_
          have Nx : Hid (BW w b2 b3 g D1 DU h1 (V3.alloc (.cells Z.toArray 25))) := K3.out.kept (up0 _ _)
          refine hK.out _ _ ⟨Nx.out.2.1.range, HRG.out _ Nx.out⟩ (fun hH2 => ?_)
          clear hK K hH
          have hH := hH2
          clear hH2
          simp only [Act.put, List.setIfInBounds_toArray, List.set_cons_zero, List.set_cons_succ, List.getElem_toArray, List.getElem_cons_zero, List.getElem_cons_succ]
          refine wpAnyH_ready (rs := [5]) (by kernel_rfl) (by simp) ?_
          refine AllReadyH.cons rfl (fun K hK => ?_) AllReadyH.nil
          go_simp
          refine (HXU.out _ Nx.out).mono ?_
          rintro e x ⟨k, rfl, be⟩
          have Mx : Hid (BW w b2 b3 g D1 DU h1 x) := Nx.out.kept be
          have Lz : Hid (LB x V3.heap.size 25 Z) := (lb_new V3 Z _).kept be
          have hne2 : b2 ≠ V3.heap.size := Nat.ne_of_lt K3.out.1.lt
          have hne3 : b3 ≠ V3.heap.size := Nat.ne_of_lt K3.out.2.1.lt
          have hneg : g ≠ V3.heap.size := Nat.ne_of_lt K3.out.2.2.1.lt
          have Bl : Hid (∀ T, Below V3.heap.size V3 (x.setCells V3.heap.size 0 T)) := fun T => below_cells (Nat.le_refl _) _ 0 _ (andThen (up0 _ _) be)
          obtain ⟨T, hT, hTL, hTE⟩ := sv_letter zSg k
          rw [hT]
          have TL : Hid _ := hTL
          have T1 : Hid (∀ v ∈ T, v.oneCell' = true) := by show ∀ v ∈ T, _; rw [hTE]; exact scl_one _ _
          have TZ : Hid (T.length = Z.length) := by show _ = _; rw [hTE, HZL.out]; rfl
          clear hT hTL hTE
          refine hK.out _ _ ⟨Mx.out.2.1.range, HRG.out _ Mx.out⟩ (fun hH2 => ?_)
          clear hK K hH
          have hH := hH2
          clear hH2
          clear be
          refine wpAnyH_take (i := 6) (v := ?v41) rfl (by kernel_rfl) (by kernel_rfl) (by kernel_rfl) (fun _ _ _ h => h) (Or.inl ⟨by rfl, ?hy41⟩) hH ?rest41
          case hy41 => intro w' hSw; (try dsimp only at hSw); go_simp; all_goals rfl
          simp only [Act.put, List.setIfInBounds_toArray, List.set_cons_zero, List.set_cons_succ, List.getElem_toArray, List.getElem_cons_zero, List.getElem_cons_succ]
          refine wpAnyH_take (i := 7) (v := ?v42) rfl (by kernel_rfl) (by kernel_rfl) (by kernel_rfl) (fun _ _ _ h => h) (Or.inl ⟨by rfl, ?hy42⟩) hH ?rest42
          case hy42 => intro w' hSw; (try dsimp only at hSw); go_simp; all_goals rfl
          simp only [Act.put, List.setIfInBounds_toArray, List.set_cons_zero, List.set_cons_succ, List.getElem_toArray, List.getElem_cons_zero, List.getElem_cons_succ]
          refine wpAnyH_take (i := 8) (v := ?v43) rfl (by kernel_rfl) (by kernel_rfl) (by kernel_rfl) (fun _ _ _ h => h) (Or.inl ⟨by rfl, ?hy43⟩) hH ?rest43
          case hy43 => intro w' hSw; (try dsimp only at hSw); go_simp; all_goals rfl
          simp only [Act.put, List.setIfInBounds_toArray, List.set_cons_zero, List.set_cons_succ, List.getElem_toArray, List.getElem_cons_zero, List.getElem_cons_succ]
          refine wpAnyH_ready (rs := [10]) (by kernel_rfl) (by simp) ?_
          refine AllReadyH.cons rfl (fun K hK => ?_) AllReadyH.nil
          refine step_storeX rfl 25 (.tmp 12) (.tmp 68) rfl V3.heap.size 0 T.toArray rfl rfl (there_of Lz.out (by simpa using TZ.out)) (by simpa using TL.out) (all_oneCell_toArray T1.out) ?_
          rw [List.toList_toArray]
          have Qf : Hid (BW w b2 b3 g D1 DU h1 (x.setCells V3.heap.size 0 T)) := K3.out.kept (Bl.out T)
          refine hK.out _ _ ⟨Qf.out.2.1.range, HRG.out _ Qf.out⟩ (fun hH2 => ?_)
          clear hK K hH
          have hH := hH2
          clear hH2
          simp only [Act.put, List.getElem_toArray, List.getElem_cons_zero, List.getElem_cons_succ]
          refine wpAnyH_take (i := 11) (v := ?v44) rfl (by kernel_rfl) (by kernel_rfl) (by kernel_rfl) (fun _ _ _ h => h) (Or.inl ⟨by rfl, ?hy44⟩) hH ?rest44
          case hy44 => intro w' hSw; (try dsimp only at hSw); go_simp; all_goals rfl
          simp only [Act.put, List.setIfInBounds_toArray, List.set_cons_zero, List.set_cons_succ, List.getElem_toArray, List.getElem_cons_zero, List.getElem_cons_succ]
          refine wpAnyH_done (by kernel_rfl) ?_ _
          clear hH
          go_wp2_with fail
          go_meet
          exact ⟨rfl, Qf.out⟩
      case rest =>
      obtain ⟨rfl, hq3⟩ := hcut
      have Q3 : Hid (BW w b2 b3 g D1 DU h1 wc) := hq3
      clear hq3 Q2
      go_wp2_with fail
      refine (snum_any z1 _).mono ?_
      rintro e _ ⟨rfl, rfl⟩
      go_wp2_with fail
      refine (snum_any z2 _).mono ?_
      rintro e _ ⟨rfl, rfl⟩
      go_wp2
      go_roundw
      case rel => exact ⟨n + 1, by omega, by go_num, Q3.out⟩
      case measure => simp [intOf]; omega
    · obtain rfl : n = 6 := by omega
      go_wp2
      go_ret
      exact ⟨rfl, HW.out.2.2.2.2⟩
end Go.Proofs.YtgjlkkikgkbamaaGreatDoor
