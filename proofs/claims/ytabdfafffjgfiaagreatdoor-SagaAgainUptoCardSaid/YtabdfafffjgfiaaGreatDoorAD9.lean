import Derived.Deep.CutRange
import Derived.Test.YtabdfafffjgfiaaGreatDoorADH
set_option maxRecDepth 100000
set_option maxHeartbeats 16000000
namespace Go.Proofs.YtabdfafffjgfiaaGreatDoor
open Go Go.RowKit
open Wb

theorem step_alloc_X {Z : List Value} (hZ : Z = zcl) {ops : Array Oper} {o : Oper} {a : Act} {w : World} {K : Act → World → Prop} {Q : Exit → Act → World → Prop} {E : Prop} (hgd : o.guard = none) (ho : o.op = .alloc 25)
  (h : K (a.put o.dst (.pointer (some ⟨w.heap.size, 0, none⟩))) (w.alloc (.cells Z.toArray 25))) : if Region.wanted o (yielded ops a.tmps) = true then Oper.wp Tryz.prog o a w K Q else E := by
 subst hZ
 rw [if_pos (by simp [Region.wanted, hgd])]
 obtain ⟨dst, op', ty, pos, after, guard⟩ := o
 simp only at ho hgd
 subst ho hgd
 unfold zcl at h
 go_simp
 exact h
def sgU : Sg := ⟨⟨7, 2, 1, 5, 5, 1, 0, true, 1, 0, 0⟩, buy, [105, 110], [], [], []⟩
theorem sgU_good : chkS sgU = true := by
 have hn : (Text.Tx.nmA buy).1 = 0 := by decide +kernel
 rw [chkS_iff]
 refine ⟨⟨hn, ?_⟩, .inl ?_⟩
 ·simp [sgU, shortP]
 ·simp [Gd1, sgU]
def bothR : List Rec := [⟨⟨3, 2, 7, 1, 3, 5, 0, 0, 0, 0⟩, ⟨#[]⟩, []⟩, ⟨⟨3, 2, 8, 1, 3, 5, 0, 0, 0, 0⟩, ⟨#[]⟩, []⟩, ⟨⟨3, 5, 7, 1, 3, 5, 0, 0, 0, 0⟩, ⟨#[]⟩, []⟩, ⟨⟨3, 4, 7, 1, 0, 5, 1, 0, 0, 0⟩, ⟨#[]⟩, []⟩, ⟨⟨3, 7, 7, 0, 0, 5, 0, 2, 0, 0⟩, ⟨#[]⟩, []⟩, ⟨⟨3, 3, 7, 1, 0, 5, 0, 0, 0, 0⟩, ⟨#[]⟩, []⟩]
def bothP : List (Rec × Value) := bothR.map fun r => (r, .slice none 0 0)
theorem both_v3 : ∀ r ∈ bothR, V3 r ∧ r.x.v = 3 ∧ r.nm = ⟨#[]⟩ ∧ r.l = [] ∧ refP sg1.x r.x ≠ 0 ∧ refP sgU.x r.x ≠ 0 ∧ r.x.s ≤ 8 := by
 intro r hr
 simp only [bothR, List.mem_cons, List.not_mem_nil, or_false] at hr
 rcases hr with rfl | rfl | rfl | rfl | rfl | rfl
 all_goals refine ⟨by simp [V3], rfl, rfl, rfl, by decide, by decide, by decide⟩
def BW (w : World) (b2 b3 g : Nat) (D1 DU : List Value) (h1 : SH) (W : World) : Prop := LB W b2 25 D1 ∧ LB W b3 25 DU ∧ LB W g 37 (bothP.flatMap rcl) ∧ SgAt W sg1 h1 ∧ Below w.heap.size w W
theorem BW.kept {w W W' : World} {b2 b3 g : Nat} {D1 DU : List Value} {h1 : SH} (k : BW w b2 b3 g D1 DU h1 W) (b : Below W.heap.size W W') : BW w b2 b3 g D1 DU h1 W' := ⟨k.1.kept b, k.2.1.kept b, k.2.2.1.kept b, k.2.2.2.1.kept b, andThen k.2.2.2.2 b⟩
theorem BW.range {w W : World} {b2 b3 g : Nat} {D1 DU : List Value} {h1 : SH} (k : BW w b2 b3 g D1 DU h1 W) (n : Nat) (r : Rec) (hr : bothR[n]? = some r) : W.rangeAt g (n * 12) (rcE r.x r.nm (.slice none 0 0)) := by
 obtain ⟨hn, e⟩ := List.getElem?_eq_some_iff.1 hr
 have hn2 : n < bothP.length := by simpa [bothP] using hn
 intro j u hu
 have hj : j < 12 := (List.getElem?_eq_some_iff.1 hu).1
 refine k.2.2.1.cell (n * 12 + j) u ?_
 rw [rcls_get bothP n hn2 j hj]
 have e2 : bothP[n] = (r, .slice none 0 0) := by simp [bothP, e]
 rw [e2]
 exact hu
theorem sgU_at {w : World} {h : SH} (k : SgAt w sg1 h) : SgAt w sgU h := ⟨k.inp, k.outs, k.und, k.fail⟩
theorem both_any (w : World) (hT : Tabs w) (hS : STabs w) : Calls Tryz.prog 42 #[] w fun e w' => e = .returned (.bool true) ∧ Below w.heap.size w w' := by
 have HPA : Hid (∀ (S : Sg) (h : SH) (r : Rec) (w' : World), Below w.heap.size w w' → SgAt w' S h → chkS S = true → S.nm.size ≤ 140737488355000 → V3 r → r.x.v = 3 → r.nm = ⟨#[]⟩ → r.l = [] → refP S.x r.x ≠ 0 → r.x.s ≤ 8 → Calls Tryz.prog 17 #[sv S h, rv r.x r.nm (.slice none 0 0)] w' fun e w'' => ∃ hz, e = .returned (.tuple #[sv zSg hz, .int .i64 (refP S.x r.x)]) ∧ Below w'.heap.size w' w'') := fun S h r w' hb k hc hn hv h3 h4 h5 h0 h8 => by
  have e := apply_r S h r (.slice none 0 0) w' k (by rw [h5]; exact Bs.nil _) (hS.kept hb) hn (by rw [h4]; decide) (fit_v3 r hv (by omega)) hc (by rw [up_v3 r hv h3]) (by rw [up_v3 r hv h3]; exact h0)
  rw [up_v3 r hv h3] at e
  exact e.mono fun e w'' ⟨hz, q1, _, q3⟩ => ⟨hz, q1, q3⟩
 have HRA1 : Hid (∀ (h : SH) (r : Rec) (w' : World), Below w.heap.size w w' → SgAt w' sg1 h → V3 r → r.x.v = 3 → r.nm = ⟨#[]⟩ → r.l = [] → refP sg1.x r.x ≠ 0 → r.x.s ≤ 8 → Calls Tryz.prog 56 #[sv sg1 h, rv r.x r.nm (.slice none 0 0)] w' fun e w'' => ∃ hz, e = .returned (.tuple #[sv zSg hz, .int .i64 (refP sg1.x r.x)]) ∧ Below w'.heap.size w' w'') := fun h r w' hb k hv h3 h4 h5 h0 h8 =>
  rxapply_err sg1 h r (.slice none 0 0) w' (by rw [h5]; exact Bs.nil _) (hT.kept hb) sg1_good.1 (by rw [h4]; decide) (fit_v3 r hv (by omega)) hv h3 h0 (fun w'' hb' => rxcheck_ok sg1 h w'' (k.kept hb') ((hT.kept hb).kept hb') (by decide) sg1_good.1 (by decide))
 have HRAU : Hid (∀ (h : SH) (r : Rec) (w' : World), Below w.heap.size w w' → SgAt w' sgU h → V3 r → r.x.v = 3 → r.nm = ⟨#[]⟩ → r.l = [] → refP sgU.x r.x ≠ 0 → r.x.s ≤ 8 → Calls Tryz.prog 56 #[sv sgU h, rv r.x r.nm (.slice none 0 0)] w' fun e w'' => ∃ hz, e = .returned (.tuple #[sv zSg hz, .int .i64 (refP sgU.x r.x)]) ∧ Below w'.heap.size w' w'') := fun h r w' hb k hv h3 h4 h5 h0 h8 =>
  rxapply_err sgU h r (.slice none 0 0) w' (by rw [h5]; exact Bs.nil _) (hT.kept hb) sgU_good (by rw [h4]; decide) (fit_v3 r hv (by omega)) hv h3 h0 (fun w'' hb' => rxcheck_ok sgU h w'' (k.kept hb') ((hT.kept hb).kept hb') (by decide) sgU_good (by decide))
 clear hT hS
 obtain ⟨Z, hZ⟩ : ∃ Z, Z = zcl := ⟨_, rfl⟩
 obtain ⟨ZR, hZR⟩ : ∃ ZR, ZR = zrl := ⟨_, rfl⟩
 have HZ : Hid (Z = zcl) := hZ
 have HZR : Hid (ZR = zrl) := hZR
 have HZL : Hid (Z.length = 16) := by show _ = _; rw [hZ]; rfl
 have HZRL : Hid (ZR.length = 12) := by show _ = _; rw [hZR]; rfl
 clear hZ hZR
 go_enter Tryz.func42, Tryz.ntmps42
 go_wp2_with fail
 refine (first_any _).mono ?_
 rintro e w1 ⟨a1, c1, h1, rfl, bs1, at1, b1⟩
 have H1 : Hid (SgAt w1 sg1 h1 ∧ Below w.heap.size w w1) := ⟨at1, b1⟩
 clear b1 bs1 at1
 obtain ⟨G1, hG1, hGL, hGE⟩ := rv_letter rec1.x rec1.nm (.slice a1 rec1.l.length c1)
 obtain ⟨D1, hD1, hDL, hDE⟩ := sv_letter sg1 h1
 rw [hG1, hD1]
 have HGL : Hid _ := hGL
 have HDL : Hid _ := hDL
 have HDE : Hid (D1 = scl sg1 h1) := hDE
 have HDV : Hid (sv sg1 h1 = .agg D1.toArray) := hD1
 have HG1 : Hid (∀ v ∈ G1, v.oneCell' = true) := by show ∀ v ∈ G1, _; rw [hGE]; exact rcE_one _ _ _ rfl
 have HD1 : Hid (∀ v ∈ D1, v.oneCell' = true) := by show ∀ v ∈ D1, _; rw [hDE]; exact scl_one _ _
 have HGZ : Hid (G1.length = ZR.length) := by show _ = _; rw [hGE, HZRL.out]; rfl
 have HDZ : Hid (D1.length = Z.length) := by show _ = _; rw [hDE, HZL.out]; rfl
 have HT1 : Hid (((w1.alloc (.cells ZR.toArray 37)).alloc (.cells Z.toArray 25)).there w1.heap.size 0 G1.toArray.size) := there_of (lb_new2 w1 ZR Z _ _).1 (by simpa using HGZ.out)
 have HT2 : Hid ((((w1.alloc (.cells ZR.toArray 37)).alloc (.cells Z.toArray 25)).setCells w1.heap.size 0 G1).there (w1.heap.size + 1) 0 D1.toArray.size) := there_of ((lb_new2 w1 ZR Z _ _).2.1.others _ _ _ (by omega)) (by simpa using HDZ.out)
 have H2 : Hid (∃ W2, W2 = (((w1.alloc (.cells ZR.toArray 37)).alloc (.cells Z.toArray 25)).setCells w1.heap.size 0 G1).setCells (w1.heap.size + 1) 0 D1 ∧ LB W2 (w1.heap.size + 1) 25 D1 ∧ SgAt W2 sg1 h1 ∧ Below w.heap.size w W2) := by
  obtain ⟨q1, q2, q3⟩ := two_boxes w1 37 25 ZR Z G1 D1 HGZ.out HDZ.out
  exact ⟨_, rfl, q2, H1.out.1.kept q3, andThen H1.out.2 q3⟩
 clear hG1 hGL hGE hD1 hDL hDE H1
 obtain ⟨DU, hDU⟩ : ∃ DU, DU = (D1.set 9 (.bool true)).set 10 (.int .i64 1) := ⟨_, rfl⟩
 have HDU : Hid (DU = (D1.set 9 (.bool true)).set 10 (.int .i64 1)) := hDU
 have HUV : Hid (sv sgU h1 = .agg DU.toArray) := by show _ = _; rw [hDU, HDE.out]; rfl
 have HUL : Hid ((Tryz.prog.info? 25).map (·.size) = some DU.length) := by show _ = _; rw [hDU, HDE.out]; exact infoSaga
 clear hDU
 go_wp2_with (first | (refine wpList_alloc_R HZR.out rfl rfl ?_) | (refine wpList_alloc_Z HZ.out rfl rfl ?_; (try simp only [heap_one])) | (refine wpList_store_mid rfl 37 (.tmp 1) (.tmp 16) rfl w1.heap.size 0 G1.toArray rfl rfl HT1.out (by simpa using HGL.out) (all_oneCell_toArray HG1.out) ?_; (rw [List.toList_toArray])) | (refine wpList_store_mid rfl 25 (.tmp 2) (.tmp 17) rfl (w1.heap.size + 1) 0 D1.toArray rfl rfl HT2.out (by simpa using HDL.out) (all_oneCell_toArray HD1.out) ?_; (obtain ⟨W2, hW2, hq⟩ := H2.out); (have H3 : Hid _ := hq); (rw [List.toList_toArray, ← hW2]); (clear hW2 hq H2 HT1 HT2); (have HT3 : Hid ((W2.alloc (.cells Z.toArray 25)).there W2.heap.size 0 D1.toArray.size) := there_of (lb_new W2 Z _) (by simpa using HDZ.out)); (have H4 : Hid (∃ W3, W3 = (W2.alloc (.cells Z.toArray 25)).setCells W2.heap.size 0 D1 ∧ LB W3 W2.heap.size 25 D1 ∧ LB W3 (w1.heap.size + 1) 25 D1 ∧ SgAt W2 sg1 h1 ∧ Below W2.heap.size W2 W3 ∧ Below w.heap.size w W2 ∧ w1.heap.size + 1 < W2.heap.size) := ⟨_, rfl, (one_box W2 25 Z D1 HDZ.out).1, H3.out.1.kept (one_box W2 25 Z D1 HDZ.out).2, H3.out.2.1, (one_box W2 25 Z D1 HDZ.out).2, H3.out.2.2, H3.out.1.lt⟩)) | (refine wpList_load_mid rfl 25 _ rfl (w1.heap.size + 1) 0 rfl D1 _ H3.out.1.range Tryz.underlying25 rfl HDL.out ?_) | (refine wpList_store_mid rfl 25 (.tmp 3) (.tmp 18) rfl W2.heap.size 0 D1.toArray rfl rfl HT3.out (by simpa using HDL.out) (all_oneCell_toArray HD1.out) ?_; (obtain ⟨W3, hW3, hq⟩ := H4.out); (have H5 : Hid _ := hq); (rw [List.toList_toArray, ← hW3]); (clear hW3 hq H3 H4 HT3); (have c9 := H5.out.1.cell 9 (.bool false) (by rw [HDE.out]; rfl)); (have f9 := H5.out.1.free 9); (have c10 := H5.out.1.cell 10 (.int .i64 0) (by rw [HDE.out]; rfl)); (have f10 := H5.out.1.free 10)) | fail)
 have HB0 : Hid (∀ cs, cs = (bothP.flatMap rcl).toArray → BW w (w1.heap.size + 1) W2.heap.size W3.heap.size D1 DU h1 (((W3.setCell ⟨W2.heap.size, 9, none⟩ (.bool true)).setCell ⟨W2.heap.size, 10, none⟩ (.int .i64 1)).alloc (.cells cs 37))) := fun cs e => by
  subst e
  obtain ⟨q1, q2, q3, q4, q5, q6⟩ := H5.out
  have hb : Below W2.heap.size W2 (((W3.setCell ⟨W2.heap.size, 9, none⟩ (.bool true)).setCell ⟨W2.heap.size, 10, none⟩ (.int .i64 1)).alloc (.cells (bothP.flatMap rcl).toArray 37)) := up (Below.setCell (Below.setCell q4 (Nat.le_refl _) _) (Nat.le_refl _) _) _
  have hs : ((W3.setCell ⟨W2.heap.size, 9, none⟩ (.bool true)).setCell ⟨W2.heap.size, 10, none⟩ (.int .i64 1)).heap.size = W3.heap.size := by simp [World.setCell]
  refine ⟨((q2.other _ _ (Nat.ne_of_lt q6)).other _ _ (Nat.ne_of_lt q6)).kept (up0 _ _), ?_, ?_, q3.kept hb, andThen q5 hb⟩
  ·rw [HDU.out]; exact ((q1.set 9 _).set 10 _).kept (up0 _ _)
  ·have e := lb_new ((W3.setCell ⟨W2.heap.size, 9, none⟩ (.bool true)).setCell ⟨W2.heap.size, 10, none⟩ (.int .i64 1)) (bothP.flatMap rcl) 37
   rw [hs] at e
   exact e
 clear c9 f9 c10 f10 H5 HDZ HD1 HG1 HGZ HGL
 generalize w1.heap.size + 1 = b2 at *
 generalize W2.heap.size = b3 at *
 generalize W3.heap.size = g at *
 go_loopw [5] (fun i wr => ∃ n : Nat, n ≤ 6 ∧ i = .int .i64 (n : Int) ∧ BW w b2 b3 g D1 DU h1 wr) (fun i _ => 6 - (intOf i).toNat)
 case atStart => exact ⟨0, Nat.zero_le _, rfl, HB0.out _ rfl⟩
 case round =>
  obtain ⟨n, hn, rfl, hw⟩ := hrel
  have HW : Hid (BW w b2 b3 g D1 DU h1 wr) := hw
  clear hw HB0
  by_cases hlt : n < 6
  ·obtain ⟨r, hr⟩ : ∃ r, bothR[n]? = some r := ⟨bothR[n]'hlt, List.getElem?_eq_getElem hlt⟩
   obtain ⟨v1, v2, v3, v4, v5, v6, v7⟩ := both_v3 r (List.mem_of_getElem? hr)
   obtain ⟨R, hR, hRL, hRE⟩ := rv_letter r.x r.nm (.slice none 0 0)
   have HRL : Hid _ := hRL
   have HRG : Hid (∀ W, BW w b2 b3 g D1 DU h1 W → W.rangeAt g (n * 12) R) := fun W k => by rw [hRE]; exact k.range n r hr
   obtain ⟨z1, hz1⟩ : ∃ z1, refP sg1.x r.x = z1 := ⟨_, rfl⟩
   obtain ⟨z2, hz2⟩ : ∃ z2, refP sgU.x r.x = z2 := ⟨_, rfl⟩
   have HP1 : Hid (∀ W, BW w b2 b3 g D1 DU h1 W → Calls Tryz.prog 17 #[.agg D1.toArray, .agg R.toArray] W fun e w'' => ∃ hz, e = .returned (.tuple #[sv zSg hz, .int .i64 z1]) ∧ Below W.heap.size W w'') := fun W k => by
    have e := HPA.out sg1 h1 r W k.2.2.2.2 k.2.2.2.1 sg1_good.1 (by decide) v1 v2 v3 v4 v5 v7
    rw [hz1, HDV.out, hR] at e
    exact e
   have HPU : Hid (∀ W, BW w b2 b3 g D1 DU h1 W → Calls Tryz.prog 17 #[.agg DU.toArray, .agg R.toArray] W fun e w'' => ∃ hz, e = .returned (.tuple #[sv zSg hz, .int .i64 z2]) ∧ Below W.heap.size W w'') := fun W k => by
    have e := HPA.out sgU h1 r W k.2.2.2.2 (sgU_at k.2.2.2.1) sgU_good (by decide) v1 v2 v3 v4 v6 v7
    rw [hz2, HUV.out, hR] at e
    exact e
   have HX1 : Hid (∀ W, BW w b2 b3 g D1 DU h1 W → Calls Tryz.prog 56 #[.agg D1.toArray, .agg R.toArray] W fun e w'' => ∃ hz, e = .returned (.tuple #[sv zSg hz, .int .i64 z1]) ∧ Below W.heap.size W w'') := fun W k => by
    have e := HRA1.out h1 r W k.2.2.2.2 k.2.2.2.1 v1 v2 v3 v4 v5 v7
    rw [hz1, HDV.out, hR] at e
    exact e
   have HXU : Hid (∀ W, BW w b2 b3 g D1 DU h1 W → Calls Tryz.prog 56 #[.agg DU.toArray, .agg R.toArray] W fun e w'' => ∃ hz, e = .returned (.tuple #[sv zSg hz, .int .i64 z2]) ∧ Below W.heap.size W w'') := fun W k => by
    have e := HRAU.out h1 r W k.2.2.2.2 (sgU_at k.2.2.2.1) v1 v2 v3 v4 v6 v7
    rw [hz2, HUV.out, hR] at e
    exact e
   have y1 : (z1 == 0) = false := by rw [← hz1]; simpa using v5
   have y2 : (z2 == 0) = false := by rw [← hz2]; simpa using v6
   have y3 : (z1 != z1) = false := by simp
   have y4 : (z2 != z2) = false := by simp
   clear hr v1 v2 v3 v4 v5 v6 v7 hR hRL hRE hz1 hz2
   go_wp2
   go_cut [6, 7] from 28 to 87 (fun _ f wx => f = .int .i64 z1 ∧ BW w b2 b3 g D1 DU h1 wx)
   case first =>
    have K0 : Hid (BW w b2 b3 g D1 DU h1 wr.drew) := HW.out.kept (Below.drew (Below.refl _ _))
    clear HW
    refine wp_region_held_drew (S := (fun w' : World => w'.rangeAt b2 0 D1 ∧ w'.rangeAt g (n * 12) R)) (by kernel_rfl) ⟨K0.out.1.range, HRG.out _ K0.out⟩ (fun hH => ?_)
    generalize wr.drew = V0 at *
    refine zql 0 rfl (yieldsIf_load_mid (by rfl) _ _ rfl _ _ rfl D1 _ (fun w' hSw => hSw.1) Tryz.underlying25 rfl HDL.out) hH ?_
    simp only [zq]
    refine zqk 1 rfl hH ?_
    simp only [zq]
    refine zqk 2 rfl hH ?_
    simp only [zq]
    refine zqk 3 rfl hH ?_
    simp only [zq]
    refine zql 4 rfl (yieldsIf_load_mid (by rfl) _ _ rfl _ _ rfl R _ (fun w' hSw => hSw.2) Tryz.underlying37 rfl HRL.out) hH ?_
    simp only [zq]
    refine wpAnyH_ready (rs := [5, 9]) (by kernel_rfl) (by simp) ?_
    refine AllReadyH.cons rfl (fun K hK => ?_) ?_
    ·skip
     go_simp
     refine (HP1.out _ K0.out).mono ?_
     rintro e x ⟨k, rfl, be⟩
     have Mx : Hid (BW w b2 b3 g D1 DU h1 x) := K0.out.kept be
     obtain ⟨T, hT, hTL, hTE⟩ := sv_letter zSg k
     rw [hT]
     have TL : Hid _ := hTL
     have T1 : Hid (∀ v ∈ T, v.oneCell' = true) := by show ∀ v ∈ T, _; rw [hTE]; exact scl_one _ _
     have TZ : Hid (T.length = Z.length) := by show _ = _; rw [hTE, HZL.out]; rfl
     clear hT hTL hTE
     refine hK.out _ _ ⟨Mx.out.1.range, HRG.out _ Mx.out⟩ (fun hH2 => ?_)
     clear hK K hH
     have hH := hH2
     clear hH2
     clear be
     refine zqk 6 rfl hH ?_
     simp only [zq]
     refine zqk 7 rfl hH ?_
     simp only [zq]
     refine zqk 8 rfl hH ?_
     simp only [zq]
     refine zqr 9 rfl (fun K hK => ?_)
     refine step_alloc_X HZ.out rfl rfl ?_
     have Nx : Hid (BW w b2 b3 g D1 DU h1 (x.alloc (.cells Z.toArray 25))) := Mx.out.kept (up0 _ _)
     refine hK.out _ _ ⟨Nx.out.1.range, HRG.out _ Nx.out⟩ (fun hH2 => ?_)
     clear hK K hH
     have hH := hH2
     clear hH2
     simp only [zq]
     refine zqr 10 rfl (fun K hK => ?_)
     refine step_storeX rfl 25 (.tmp 6) (.tmp 41) rfl x.heap.size 0 T.toArray rfl rfl (there_of (lb_new x Z _) (by simpa using TZ.out)) (by simpa using TL.out) (all_oneCell_toArray T1.out) ?_
     rw [List.toList_toArray]
     have Qf : Hid (BW w b2 b3 g D1 DU h1 ((x.alloc (.cells Z.toArray 25)).setCells x.heap.size 0 T)) := Mx.out.kept (one_box x 25 Z T TZ.out).2
     refine hK.out _ _ ⟨Qf.out.1.range, HRG.out _ Qf.out⟩ (fun hH2 => ?_)
     clear hK K hH
     have hH := hH2
     clear hH2
     simp only [Act.put, zq4, zq5, zq6]
     refine zqk 11 rfl hH ?_
     simp only [zq]
     refine wpAnyH_done (by kernel_rfl) ?_ _
     clear hH
     go_wp2_with fail
     go_meet
     exact ⟨rfl, Qf.out⟩
    ·refine AllReadyH.cons rfl (fun K hK => ?_) AllReadyH.nil
     refine step_alloc_X HZ.out rfl rfl ?_
     have Nx : Hid (BW w b2 b3 g D1 DU h1 (V0.alloc (.cells Z.toArray 25))) := K0.out.kept (up0 _ _)
     refine hK.out _ _ ⟨Nx.out.1.range, HRG.out _ Nx.out⟩ (fun hH2 => ?_)
     clear hK K hH
     have hH := hH2
     clear hH2
     simp only [zq]
     refine zqr 5 rfl (fun K hK => ?_)
     go_simp
     refine (HP1.out _ Nx.out).mono ?_
     rintro e x ⟨k, rfl, be⟩
     have Mx : Hid (BW w b2 b3 g D1 DU h1 x) := Nx.out.kept be
     have Lz : Hid (LB x V0.heap.size 25 Z) := (lb_new V0 Z _).kept be
     have hne2 : b2 ≠ V0.heap.size := Nat.ne_of_lt K0.out.1.lt
     have hne3 : b3 ≠ V0.heap.size := Nat.ne_of_lt K0.out.2.1.lt
     have hneg : g ≠ V0.heap.size := Nat.ne_of_lt K0.out.2.2.1.lt
     have Bl : Hid (∀ T, Below V0.heap.size V0 (x.setCells V0.heap.size 0 T)) := fun T => below_cells (Nat.le_refl _) _ 0 _ (andThen (up0 _ _) be)
     obtain ⟨T, hT, hTL, hTE⟩ := sv_letter zSg k
     rw [hT]
     have TL : Hid _ := hTL
     have T1 : Hid (∀ v ∈ T, v.oneCell' = true) := by show ∀ v ∈ T, _; rw [hTE]; exact scl_one _ _
     have TZ : Hid (T.length = Z.length) := by show _ = _; rw [hTE, HZL.out]; rfl
     clear hT hTL hTE
     refine hK.out _ _ ⟨Mx.out.1.range, HRG.out _ Mx.out⟩ (fun hH2 => ?_)
     clear hK K hH
     have hH := hH2
     clear hH2
     clear be
     refine zqk 6 rfl hH ?_
     simp only [zq]
     refine zqk 7 rfl hH ?_
     simp only [zq]
     refine zqk 8 rfl hH ?_
     simp only [zq]
     refine zqr 10 rfl (fun K hK => ?_)
     refine step_storeX rfl 25 (.tmp 6) (.tmp 41) rfl V0.heap.size 0 T.toArray rfl rfl (there_of Lz.out (by simpa using TZ.out)) (by simpa using TL.out) (all_oneCell_toArray T1.out) ?_
     rw [List.toList_toArray]
     have Qf : Hid (BW w b2 b3 g D1 DU h1 (x.setCells V0.heap.size 0 T)) := K0.out.kept (Bl.out T)
     refine hK.out _ _ ⟨Qf.out.1.range, HRG.out _ Qf.out⟩ (fun hH2 => ?_)
     clear hK K hH
     have hH := hH2
     clear hH2
     simp only [Act.put, zq4, zq5, zq6]
     refine zqk 11 rfl hH ?_
     simp only [zq]
     refine wpAnyH_done (by kernel_rfl) ?_ _
     clear hH
     go_wp2_with fail
     go_meet
     exact ⟨rfl, Qf.out⟩
   case rest =>
   obtain ⟨rfl, hq0⟩ := hcut
   have Q0 : Hid (BW w b2 b3 g D1 DU h1 wc) := hq0
   clear hq0 HW
   go_wp2
   go_cut [8, 9] from 28 to 87 (fun _ f wx => f = .int .i64 z1 ∧ BW w b2 b3 g D1 DU h1 wx)
   case first =>
    have K1 : Hid (BW w b2 b3 g D1 DU h1 wc.drew) := Q0.out.kept (Below.drew (Below.refl _ _))
    clear Q0
    refine wp_region_held_drew (S := (fun w' : World => w'.rangeAt b2 0 D1 ∧ w'.rangeAt g (n * 12) R)) (by kernel_rfl) ⟨K1.out.1.range, HRG.out _ K1.out⟩ (fun hH => ?_)
    generalize wc.drew = V1 at *
    refine zql 0 rfl (yieldsIf_load_mid (by rfl) _ _ rfl _ _ rfl D1 _ (fun w' hSw => hSw.1) Tryz.underlying25 rfl HDL.out) hH ?_
    simp only [zq]
    refine zqk 1 rfl hH ?_
    simp only [zq]
    refine zqk 2 rfl hH ?_
    simp only [zq]
    refine zqk 3 rfl hH ?_
    simp only [zq]
    refine zql 4 rfl (yieldsIf_load_mid (by rfl) _ _ rfl _ _ rfl R _ (fun w' hSw => hSw.2) Tryz.underlying37 rfl HRL.out) hH ?_
    simp only [zq]
    refine wpAnyH_ready (rs := [5, 9]) (by kernel_rfl) (by simp) ?_
    refine AllReadyH.cons rfl (fun K hK => ?_) ?_
    ·skip
     go_simp
     refine (HX1.out _ K1.out).mono ?_
     rintro e x ⟨k, rfl, be⟩
     have Mx : Hid (BW w b2 b3 g D1 DU h1 x) := K1.out.kept be
     obtain ⟨T, hT, hTL, hTE⟩ := sv_letter zSg k
     rw [hT]
     have TL : Hid _ := hTL
     have T1 : Hid (∀ v ∈ T, v.oneCell' = true) := by show ∀ v ∈ T, _; rw [hTE]; exact scl_one _ _
     have TZ : Hid (T.length = Z.length) := by show _ = _; rw [hTE, HZL.out]; rfl
     clear hT hTL hTE
     refine hK.out _ _ ⟨Mx.out.1.range, HRG.out _ Mx.out⟩ (fun hH2 => ?_)
     clear hK K hH
     have hH := hH2
     clear hH2
     clear be
     refine zqk 6 rfl hH ?_
     simp only [zq]
     refine zqk 7 rfl hH ?_
     simp only [zq]
     refine zqk 8 rfl hH ?_
     simp only [zq]
     refine zqr 9 rfl (fun K hK => ?_)
     refine step_alloc_X HZ.out rfl rfl ?_
     have Nx : Hid (BW w b2 b3 g D1 DU h1 (x.alloc (.cells Z.toArray 25))) := Mx.out.kept (up0 _ _)
     refine hK.out _ _ ⟨Nx.out.1.range, HRG.out _ Nx.out⟩ (fun hH2 => ?_)
     clear hK K hH
     have hH := hH2
     clear hH2
     simp only [zq]
     refine zqr 10 rfl (fun K hK => ?_)
     refine step_storeX rfl 25 (.tmp 8) (.tmp 50) rfl x.heap.size 0 T.toArray rfl rfl (there_of (lb_new x Z _) (by simpa using TZ.out)) (by simpa using TL.out) (all_oneCell_toArray T1.out) ?_
     rw [List.toList_toArray]
     have Qf : Hid (BW w b2 b3 g D1 DU h1 ((x.alloc (.cells Z.toArray 25)).setCells x.heap.size 0 T)) := Mx.out.kept (one_box x 25 Z T TZ.out).2
     refine hK.out _ _ ⟨Qf.out.1.range, HRG.out _ Qf.out⟩ (fun hH2 => ?_)
     clear hK K hH
     have hH := hH2
     clear hH2
     simp only [Act.put, zq4, zq5, zq6]
     refine zqk 11 rfl hH ?_
     simp only [zq]
     refine wpAnyH_done (by kernel_rfl) ?_ _
     clear hH
     go_wp2_with fail
     go_meet
     exact ⟨rfl, Qf.out⟩
    ·refine AllReadyH.cons rfl (fun K hK => ?_) AllReadyH.nil
     refine step_alloc_X HZ.out rfl rfl ?_
     have Nx : Hid (BW w b2 b3 g D1 DU h1 (V1.alloc (.cells Z.toArray 25))) := K1.out.kept (up0 _ _)
     refine hK.out _ _ ⟨Nx.out.1.range, HRG.out _ Nx.out⟩ (fun hH2 => ?_)
     clear hK K hH
     have hH := hH2
     clear hH2
     simp only [zq]
     refine zqr 5 rfl (fun K hK => ?_)
     go_simp
     refine (HX1.out _ Nx.out).mono ?_
     rintro e x ⟨k, rfl, be⟩
     have Mx : Hid (BW w b2 b3 g D1 DU h1 x) := Nx.out.kept be
     have Lz : Hid (LB x V1.heap.size 25 Z) := (lb_new V1 Z _).kept be
     have hne2 : b2 ≠ V1.heap.size := Nat.ne_of_lt K1.out.1.lt
     have hne3 : b3 ≠ V1.heap.size := Nat.ne_of_lt K1.out.2.1.lt
     have hneg : g ≠ V1.heap.size := Nat.ne_of_lt K1.out.2.2.1.lt
     have Bl : Hid (∀ T, Below V1.heap.size V1 (x.setCells V1.heap.size 0 T)) := fun T => below_cells (Nat.le_refl _) _ 0 _ (andThen (up0 _ _) be)
     obtain ⟨T, hT, hTL, hTE⟩ := sv_letter zSg k
     rw [hT]
     have TL : Hid _ := hTL
     have T1 : Hid (∀ v ∈ T, v.oneCell' = true) := by show ∀ v ∈ T, _; rw [hTE]; exact scl_one _ _
     have TZ : Hid (T.length = Z.length) := by show _ = _; rw [hTE, HZL.out]; rfl
     clear hT hTL hTE
     refine hK.out _ _ ⟨Mx.out.1.range, HRG.out _ Mx.out⟩ (fun hH2 => ?_)
     clear hK K hH
     have hH := hH2
     clear hH2
     clear be
     refine zqk 6 rfl hH ?_
     simp only [zq]
     refine zqk 7 rfl hH ?_
     simp only [zq]
     refine zqk 8 rfl hH ?_
     simp only [zq]
     refine zqr 10 rfl (fun K hK => ?_)
     refine step_storeX rfl 25 (.tmp 8) (.tmp 50) rfl V1.heap.size 0 T.toArray rfl rfl (there_of Lz.out (by simpa using TZ.out)) (by simpa using TL.out) (all_oneCell_toArray T1.out) ?_
     rw [List.toList_toArray]
     have Qf : Hid (BW w b2 b3 g D1 DU h1 (x.setCells V1.heap.size 0 T)) := K1.out.kept (Bl.out T)
     refine hK.out _ _ ⟨Qf.out.1.range, HRG.out _ Qf.out⟩ (fun hH2 => ?_)
     clear hK K hH
     have hH := hH2
     clear hH2
     simp only [Act.put, zq4, zq5, zq6]
     refine zqk 11 rfl hH ?_
     simp only [zq]
     refine wpAnyH_done (by kernel_rfl) ?_ _
     clear hH
     go_wp2_with fail
     go_meet
     exact ⟨rfl, Qf.out⟩
   case rest =>
   obtain ⟨rfl, hq1⟩ := hcut
   have Q1 : Hid (BW w b2 b3 g D1 DU h1 wc) := hq1
   clear hq1 Q0
   go_wp2
   go_cut [10, 11] from 28 to 87 (fun _ f wx => f = .int .i64 z2 ∧ BW w b2 b3 g D1 DU h1 wx)
   case first =>
    have K2 : Hid (BW w b2 b3 g D1 DU h1 wc.drew) := Q1.out.kept (Below.drew (Below.refl _ _))
    clear Q1
    refine wp_region_held_drew (S := (fun w' : World => w'.rangeAt b3 0 DU ∧ w'.rangeAt g (n * 12) R)) (by kernel_rfl) ⟨K2.out.2.1.range, HRG.out _ K2.out⟩ (fun hH => ?_)
    generalize wc.drew = V2 at *
    refine zql 0 rfl (yieldsIf_load_mid (by rfl) _ _ rfl _ _ rfl DU _ (fun w' hSw => hSw.1) Tryz.underlying25 rfl HUL.out) hH ?_
    simp only [zq]
    refine zqk 1 rfl hH ?_
    simp only [zq]
    refine zqk 2 rfl hH ?_
    simp only [zq]
    refine zqk 3 rfl hH ?_
    simp only [zq]
    refine zql 4 rfl (yieldsIf_load_mid (by rfl) _ _ rfl _ _ rfl R _ (fun w' hSw => hSw.2) Tryz.underlying37 rfl HRL.out) hH ?_
    simp only [zq]
    refine wpAnyH_ready (rs := [5, 9]) (by kernel_rfl) (by simp) ?_
    refine AllReadyH.cons rfl (fun K hK => ?_) ?_
    ·skip
     go_simp
     refine (HPU.out _ K2.out).mono ?_
     rintro e x ⟨k, rfl, be⟩
     have Mx : Hid (BW w b2 b3 g D1 DU h1 x) := K2.out.kept be
     obtain ⟨T, hT, hTL, hTE⟩ := sv_letter zSg k
     rw [hT]
     have TL : Hid _ := hTL
     have T1 : Hid (∀ v ∈ T, v.oneCell' = true) := by show ∀ v ∈ T, _; rw [hTE]; exact scl_one _ _
     have TZ : Hid (T.length = Z.length) := by show _ = _; rw [hTE, HZL.out]; rfl
     clear hT hTL hTE
     refine hK.out _ _ ⟨Mx.out.2.1.range, HRG.out _ Mx.out⟩ (fun hH2 => ?_)
     clear hK K hH
     have hH := hH2
     clear hH2
     clear be
     refine zqk 6 rfl hH ?_
     simp only [zq]
     refine zqk 7 rfl hH ?_
     simp only [zq]
     refine zqk 8 rfl hH ?_
     simp only [zq]
     refine zqr 9 rfl (fun K hK => ?_)
     refine step_alloc_X HZ.out rfl rfl ?_
     have Nx : Hid (BW w b2 b3 g D1 DU h1 (x.alloc (.cells Z.toArray 25))) := Mx.out.kept (up0 _ _)
     refine hK.out _ _ ⟨Nx.out.2.1.range, HRG.out _ Nx.out⟩ (fun hH2 => ?_)
     clear hK K hH
     have hH := hH2
     clear hH2
     simp only [zq]
     refine zqr 10 rfl (fun K hK => ?_)
     refine step_storeX rfl 25 (.tmp 10) (.tmp 59) rfl x.heap.size 0 T.toArray rfl rfl (there_of (lb_new x Z _) (by simpa using TZ.out)) (by simpa using TL.out) (all_oneCell_toArray T1.out) ?_
     rw [List.toList_toArray]
     have Qf : Hid (BW w b2 b3 g D1 DU h1 ((x.alloc (.cells Z.toArray 25)).setCells x.heap.size 0 T)) := Mx.out.kept (one_box x 25 Z T TZ.out).2
     refine hK.out _ _ ⟨Qf.out.2.1.range, HRG.out _ Qf.out⟩ (fun hH2 => ?_)
     clear hK K hH
     have hH := hH2
     clear hH2
     simp only [Act.put, zq4, zq5, zq6]
     refine zqk 11 rfl hH ?_
     simp only [zq]
     refine wpAnyH_done (by kernel_rfl) ?_ _
     clear hH
     go_wp2_with fail
     go_meet
     exact ⟨rfl, Qf.out⟩
    ·refine AllReadyH.cons rfl (fun K hK => ?_) AllReadyH.nil
     refine step_alloc_X HZ.out rfl rfl ?_
     have Nx : Hid (BW w b2 b3 g D1 DU h1 (V2.alloc (.cells Z.toArray 25))) := K2.out.kept (up0 _ _)
     refine hK.out _ _ ⟨Nx.out.2.1.range, HRG.out _ Nx.out⟩ (fun hH2 => ?_)
     clear hK K hH
     have hH := hH2
     clear hH2
     simp only [zq]
     refine zqr 5 rfl (fun K hK => ?_)
     go_simp
     refine (HPU.out _ Nx.out).mono ?_
     rintro e x ⟨k, rfl, be⟩
     have Mx : Hid (BW w b2 b3 g D1 DU h1 x) := Nx.out.kept be
     have Lz : Hid (LB x V2.heap.size 25 Z) := (lb_new V2 Z _).kept be
     have hne2 : b2 ≠ V2.heap.size := Nat.ne_of_lt K2.out.1.lt
     have hne3 : b3 ≠ V2.heap.size := Nat.ne_of_lt K2.out.2.1.lt
     have hneg : g ≠ V2.heap.size := Nat.ne_of_lt K2.out.2.2.1.lt
     have Bl : Hid (∀ T, Below V2.heap.size V2 (x.setCells V2.heap.size 0 T)) := fun T => below_cells (Nat.le_refl _) _ 0 _ (andThen (up0 _ _) be)
     obtain ⟨T, hT, hTL, hTE⟩ := sv_letter zSg k
     rw [hT]
     have TL : Hid _ := hTL
     have T1 : Hid (∀ v ∈ T, v.oneCell' = true) := by show ∀ v ∈ T, _; rw [hTE]; exact scl_one _ _
     have TZ : Hid (T.length = Z.length) := by show _ = _; rw [hTE, HZL.out]; rfl
     clear hT hTL hTE
     refine hK.out _ _ ⟨Mx.out.2.1.range, HRG.out _ Mx.out⟩ (fun hH2 => ?_)
     clear hK K hH
     have hH := hH2
     clear hH2
     clear be
     refine zqk 6 rfl hH ?_
     simp only [zq]
     refine zqk 7 rfl hH ?_
     simp only [zq]
     refine zqk 8 rfl hH ?_
     simp only [zq]
     refine zqr 10 rfl (fun K hK => ?_)
     refine step_storeX rfl 25 (.tmp 10) (.tmp 59) rfl V2.heap.size 0 T.toArray rfl rfl (there_of Lz.out (by simpa using TZ.out)) (by simpa using TL.out) (all_oneCell_toArray T1.out) ?_
     rw [List.toList_toArray]
     have Qf : Hid (BW w b2 b3 g D1 DU h1 (x.setCells V2.heap.size 0 T)) := K2.out.kept (Bl.out T)
     refine hK.out _ _ ⟨Qf.out.2.1.range, HRG.out _ Qf.out⟩ (fun hH2 => ?_)
     clear hK K hH
     have hH := hH2
     clear hH2
     simp only [Act.put, zq4, zq5, zq6]
     refine zqk 11 rfl hH ?_
     simp only [zq]
     refine wpAnyH_done (by kernel_rfl) ?_ _
     clear hH
     go_wp2_with fail
     go_meet
     exact ⟨rfl, Qf.out⟩
   case rest =>
   obtain ⟨rfl, hq2⟩ := hcut
   have Q2 : Hid (BW w b2 b3 g D1 DU h1 wc) := hq2
   clear hq2 Q1
   go_wp2
   go_cut [12, 13] from 28 to 87 (fun _ f wx => f = .int .i64 z2 ∧ BW w b2 b3 g D1 DU h1 wx)
   case first =>
    have K3 : Hid (BW w b2 b3 g D1 DU h1 wc.drew) := Q2.out.kept (Below.drew (Below.refl _ _))
    clear Q2
    refine wp_region_held_drew (S := (fun w' : World => w'.rangeAt b3 0 DU ∧ w'.rangeAt g (n * 12) R)) (by kernel_rfl) ⟨K3.out.2.1.range, HRG.out _ K3.out⟩ (fun hH => ?_)
    generalize wc.drew = V3 at *
    refine zql 0 rfl (yieldsIf_load_mid (by rfl) _ _ rfl _ _ rfl DU _ (fun w' hSw => hSw.1) Tryz.underlying25 rfl HUL.out) hH ?_
    simp only [zq]
    refine zqk 1 rfl hH ?_
    simp only [zq]
    refine zqk 2 rfl hH ?_
    simp only [zq]
    refine zqk 3 rfl hH ?_
    simp only [zq]
    refine zql 4 rfl (yieldsIf_load_mid (by rfl) _ _ rfl _ _ rfl R _ (fun w' hSw => hSw.2) Tryz.underlying37 rfl HRL.out) hH ?_
    simp only [zq]
    refine wpAnyH_ready (rs := [5, 9]) (by kernel_rfl) (by simp) ?_
    refine AllReadyH.cons rfl (fun K hK => ?_) ?_
    ·skip
     go_simp
     refine (HXU.out _ K3.out).mono ?_
     rintro e x ⟨k, rfl, be⟩
     have Mx : Hid (BW w b2 b3 g D1 DU h1 x) := K3.out.kept be
     obtain ⟨T, hT, hTL, hTE⟩ := sv_letter zSg k
     rw [hT]
     have TL : Hid _ := hTL
     have T1 : Hid (∀ v ∈ T, v.oneCell' = true) := by show ∀ v ∈ T, _; rw [hTE]; exact scl_one _ _
     have TZ : Hid (T.length = Z.length) := by show _ = _; rw [hTE, HZL.out]; rfl
     clear hT hTL hTE
     refine hK.out _ _ ⟨Mx.out.2.1.range, HRG.out _ Mx.out⟩ (fun hH2 => ?_)
     clear hK K hH
     have hH := hH2
     clear hH2
     clear be
     refine zqk 6 rfl hH ?_
     simp only [zq]
     refine zqk 7 rfl hH ?_
     simp only [zq]
     refine zqk 8 rfl hH ?_
     simp only [zq]
     refine zqr 9 rfl (fun K hK => ?_)
     refine step_alloc_X HZ.out rfl rfl ?_
     have Nx : Hid (BW w b2 b3 g D1 DU h1 (x.alloc (.cells Z.toArray 25))) := Mx.out.kept (up0 _ _)
     refine hK.out _ _ ⟨Nx.out.2.1.range, HRG.out _ Nx.out⟩ (fun hH2 => ?_)
     clear hK K hH
     have hH := hH2
     clear hH2
     simp only [zq]
     refine zqr 10 rfl (fun K hK => ?_)
     refine step_storeX rfl 25 (.tmp 12) (.tmp 68) rfl x.heap.size 0 T.toArray rfl rfl (there_of (lb_new x Z _) (by simpa using TZ.out)) (by simpa using TL.out) (all_oneCell_toArray T1.out) ?_
     rw [List.toList_toArray]
     have Qf : Hid (BW w b2 b3 g D1 DU h1 ((x.alloc (.cells Z.toArray 25)).setCells x.heap.size 0 T)) := Mx.out.kept (one_box x 25 Z T TZ.out).2
     refine hK.out _ _ ⟨Qf.out.2.1.range, HRG.out _ Qf.out⟩ (fun hH2 => ?_)
     clear hK K hH
     have hH := hH2
     clear hH2
     simp only [Act.put, zq4, zq5, zq6]
     refine zqk 11 rfl hH ?_
     simp only [zq]
     refine wpAnyH_done (by kernel_rfl) ?_ _
     clear hH
     go_wp2_with fail
     go_meet
     exact ⟨rfl, Qf.out⟩
    ·refine AllReadyH.cons rfl (fun K hK => ?_) AllReadyH.nil
     refine step_alloc_X HZ.out rfl rfl ?_
     have Nx : Hid (BW w b2 b3 g D1 DU h1 (V3.alloc (.cells Z.toArray 25))) := K3.out.kept (up0 _ _)
     refine hK.out _ _ ⟨Nx.out.2.1.range, HRG.out _ Nx.out⟩ (fun hH2 => ?_)
     clear hK K hH
     have hH := hH2
     clear hH2
     simp only [zq]
     refine zqr 5 rfl (fun K hK => ?_)
     go_simp
     refine (HXU.out _ Nx.out).mono ?_
     rintro e x ⟨k, rfl, be⟩
     have Mx : Hid (BW w b2 b3 g D1 DU h1 x) := Nx.out.kept be
     have Lz : Hid (LB x V3.heap.size 25 Z) := (lb_new V3 Z _).kept be
     have hne2 : b2 ≠ V3.heap.size := Nat.ne_of_lt K3.out.1.lt
     have hne3 : b3 ≠ V3.heap.size := Nat.ne_of_lt K3.out.2.1.lt
     have hneg : g ≠ V3.heap.size := Nat.ne_of_lt K3.out.2.2.1.lt
     have Bl : Hid (∀ T, Below V3.heap.size V3 (x.setCells V3.heap.size 0 T)) := fun T => below_cells (Nat.le_refl _) _ 0 _ (andThen (up0 _ _) be)
     obtain ⟨T, hT, hTL, hTE⟩ := sv_letter zSg k
     rw [hT]
     have TL : Hid _ := hTL
     have T1 : Hid (∀ v ∈ T, v.oneCell' = true) := by show ∀ v ∈ T, _; rw [hTE]; exact scl_one _ _
     have TZ : Hid (T.length = Z.length) := by show _ = _; rw [hTE, HZL.out]; rfl
     clear hT hTL hTE
     refine hK.out _ _ ⟨Mx.out.2.1.range, HRG.out _ Mx.out⟩ (fun hH2 => ?_)
     clear hK K hH
     have hH := hH2
     clear hH2
     clear be
     refine zqk 6 rfl hH ?_
     simp only [zq]
     refine zqk 7 rfl hH ?_
     simp only [zq]
     refine zqk 8 rfl hH ?_
     simp only [zq]
     refine zqr 10 rfl (fun K hK => ?_)
     refine step_storeX rfl 25 (.tmp 12) (.tmp 68) rfl V3.heap.size 0 T.toArray rfl rfl (there_of Lz.out (by simpa using TZ.out)) (by simpa using TL.out) (all_oneCell_toArray T1.out) ?_
     rw [List.toList_toArray]
     have Qf : Hid (BW w b2 b3 g D1 DU h1 (x.setCells V3.heap.size 0 T)) := K3.out.kept (Bl.out T)
     refine hK.out _ _ ⟨Qf.out.2.1.range, HRG.out _ Qf.out⟩ (fun hH2 => ?_)
     clear hK K hH
     have hH := hH2
     clear hH2
     simp only [Act.put, zq4, zq5, zq6]
     refine zqk 11 rfl hH ?_
     simp only [zq]
     refine wpAnyH_done (by kernel_rfl) ?_ _
     clear hH
     go_wp2_with fail
     go_meet
     exact ⟨rfl, Qf.out⟩
   case rest =>
   obtain ⟨rfl, hq3⟩ := hcut
   have Q3 : Hid (BW w b2 b3 g D1 DU h1 wc) := hq3
   clear hq3 Q2
   go_wp2_with fail
   refine (snum_any z1 _).mono ?_
   rintro e _ ⟨rfl, rfl⟩
   go_wp2_with fail
   refine (snum_any z2 _).mono ?_
   rintro e _ ⟨rfl, rfl⟩
   go_wp2
   go_roundw
   case rel => exact ⟨n + 1, by omega, by go_num, Q3.out⟩
   case measure => simp [intOf]; omega
  ·obtain rfl : n = 6 := by omega
   go_wp2
   go_ret
   exact ⟨rfl, HW.out.2.2.2.2⟩
theorem sstarted_any (w : World) (hT : Tabs w) (hS : STabs w) : Calls Tryz.prog 13 #[] w fun e w' => e = .returned (.bool true) ∧ Below w.heap.size w w' := by
 have HBO : Hid (∀ w', Below w.heap.size w w' → Calls Tryz.prog 42 #[] w' fun e w'' => e = .returned (.bool true) ∧ Below w'.heap.size w' w'') := fun w' hb => both_any w' (hT.kept hb) (hS.kept hb)
 have HBE : Hid (∀ (d : Value) (w' : World), Below w.heap.size w w' → Bs w' d rec1.l → Calls Tryz.prog 18 #[rv rec1.x rec1.nm d] w' fun e w'' => ∃ h', e = .returned (.tuple #[sv sg1 h', .int .i64 0]) ∧ SgO 0 w'' sg1 h' ∧ Below w'.heap.size w' w'') := fun d w' hb' hd => by
  have e := begin_any rec1 d w' hd (hS.kept hb').e (by decide) first_fit
  rw [first_begin] at e
  exact e.mono fun e w'' ⟨h', e1, e2, e3⟩ => ⟨h', e1, e2.weak (Nat.zero_le _), e3⟩
 clear hT hS
 obtain ⟨Z, hZ⟩ : ∃ Z, Z = zcl := ⟨_, rfl⟩
 obtain ⟨ZR, hZR⟩ : ∃ ZR, ZR = zrl := ⟨_, rfl⟩
 have HZ : Hid (Z = zcl) := hZ
 have HZR : Hid (ZR = zrl) := hZR
 have HZL : Hid (Z.length = 16) := by show _ = _; rw [hZ]; rfl
 have HZRL : Hid (ZR.length = 12) := by show _ = _; rw [hZR]; rfl
 clear hZ hZR
 go_enter Tryz.func13, Tryz.ntmps13
 go_wp2_with fail
 refine (first_any _).mono ?_
 rintro e w1 ⟨a1, c1, h1, rfl, bs1, at1, b1⟩
 have H1 : Hid (Bs w1 (.slice a1 rec1.l.length c1) rec1.l ∧ SgAt w1 sg1 h1 ∧ Below w.heap.size w w1) := ⟨bs1, at1, b1⟩
 clear b1 bs1 at1
 obtain ⟨G1, hG1, hGL, hGE⟩ := rv_letter rec1.x rec1.nm (.slice a1 rec1.l.length c1)
 obtain ⟨D1, hD1, hDL, hDE⟩ := sv_letter sg1 h1
 rw [hG1, hD1]
 have HB1 : Hid (∀ w', Below w.heap.size w w' → Bs w' (.slice a1 rec1.l.length c1) rec1.l → Calls Tryz.prog 18 #[.agg G1.toArray] w' fun e w'' => ∃ h', e = .returned (.tuple #[sv sg1 h', .int .i64 0]) ∧ SgO 0 w'' sg1 h' ∧ Below w'.heap.size w' w'') := fun w' hb' hd => by
  have e := HBE.out _ w' hb' hd
  rw [hG1] at e
  exact e
 have HGL : Hid _ := hGL
 have HDL : Hid _ := hDL
 have HDV : Hid (sv sg1 h1 = .agg D1.toArray) := hD1
 have HG1 : Hid (∀ v ∈ G1, v.oneCell' = true) := by show ∀ v ∈ G1, _; rw [hGE]; exact rcE_one _ _ _ rfl
 have HD1 : Hid (∀ v ∈ D1, v.oneCell' = true) := by show ∀ v ∈ D1, _; rw [hDE]; exact scl_one _ _
 have HGZ : Hid (G1.length = ZR.length) := by show _ = _; rw [hGE, HZRL.out]; rfl
 have HDZ : Hid (D1.length = Z.length) := by show _ = _; rw [hDE, HZL.out]; rfl
 have HT1 : Hid (((w1.alloc (.cells ZR.toArray 37)).alloc (.cells Z.toArray 25)).there w1.heap.size 0 G1.toArray.size) := there_of (lb_new2 w1 ZR Z _ _).1 (by simpa using HGZ.out)
 have HT2 : Hid ((((w1.alloc (.cells ZR.toArray 37)).alloc (.cells Z.toArray 25)).setCells w1.heap.size 0 G1).there (w1.heap.size + 1) 0 D1.toArray.size) := there_of ((lb_new2 w1 ZR Z _ _).2.1.others _ _ _ (by omega)) (by simpa using HDZ.out)
 have H2 : Hid (∃ W2, W2 = (((w1.alloc (.cells ZR.toArray 37)).alloc (.cells Z.toArray 25)).setCells w1.heap.size 0 G1).setCells (w1.heap.size + 1) 0 D1 ∧ LB W2 w1.heap.size 37 G1 ∧ LB W2 (w1.heap.size + 1) 25 D1 ∧ Bs W2 (.slice a1 rec1.l.length c1) rec1.l ∧ SgAt W2 sg1 h1 ∧ Below w.heap.size w W2) := by
  obtain ⟨q1, q2, q3⟩ := two_boxes w1 37 25 ZR Z G1 D1 HGZ.out HDZ.out
  exact ⟨_, rfl, q1, q2, H1.out.1.kept q3, H1.out.2.1.kept q3, andThen H1.out.2.2 q3⟩
 clear hG1 hGL hGE hD1 hDL hDE H1 HBE
 go_wp2_with (first | (refine wpList_alloc_R HZR.out rfl rfl ?_) | (refine wpList_alloc_Z HZ.out rfl rfl ?_; (try simp only [heap_one])) | (refine wpList_store_mid rfl 37 (.tmp 1) (.tmp 7) rfl w1.heap.size 0 G1.toArray rfl rfl HT1.out (by simpa using HGL.out) (all_oneCell_toArray HG1.out) ?_; (rw [List.toList_toArray])) | (refine wpList_store_mid rfl 25 (.tmp 2) (.tmp 8) rfl (w1.heap.size + 1) 0 D1.toArray rfl rfl HT2.out (by simpa using HDL.out) (all_oneCell_toArray HD1.out) ?_; (obtain ⟨W2, hW2, hq⟩ := H2.out); (have H3 : Hid _ := hq); (rw [List.toList_toArray, ← hW2]); (clear hW2 hq H2 HT1 HT2)) | (refine wpList_load_mid rfl 37 _ rfl w1.heap.size 0 rfl G1 _ H3.out.1.range Tryz.underlying37 rfl HGL.out ?_) | fail)
 refine (HB1.out _ H3.out.2.2.2.2 H3.out.2.2.1).mono ?_
 rintro e w3 ⟨h3, rfl, o3, b3⟩
 obtain ⟨D3, hD3, hL3, hE3⟩ := sv_letter sg1 h3
 rw [hD3]
 have HL3 : Hid _ := hL3
 have H13 : Hid (∀ v ∈ D3, v.oneCell' = true) := by show ∀ v ∈ D3, _; rw [hE3]; exact scl_one _ _
 have HZ3 : Hid (D3.length = Z.length) := by show _ = _; rw [hE3, HZL.out]; rfl
 have HSM : Hid (∀ w', SgAt w' sg1 h1 → SgO 0 w' sg1 h3 → Calls Tryz.prog 25 #[.agg D1.toArray, .agg D3.toArray] w' fun e w'' => e = .returned (.bool true) ∧ Below w'.heap.size w' w'') := fun w' k1 k3 => by
  have e := same_any sg1 h1 h3 w' k1 k3.at
  rw [HDV.out, hD3] at e
  exact e
 have HT3 : Hid ((w3.alloc (.cells Z.toArray 25)).there w3.heap.size 0 D3.toArray.size) := there_of (lb_new w3 Z _) (by simpa using HZ3.out)
 have H4 : Hid (∃ W4, W4 = (w3.alloc (.cells Z.toArray 25)).setCells w3.heap.size 0 D3 ∧ LB W4 w3.heap.size 25 D3 ∧ LB W4 (w1.heap.size + 1) 25 D1 ∧ SgAt W4 sg1 h1 ∧ SgO 0 W4 sg1 h3 ∧ Below w.heap.size w W4) := by
  obtain ⟨q1, q3⟩ := one_box w3 25 Z D3 HZ3.out
  exact ⟨_, rfl, q1, (H3.out.2.1.kept b3).kept q3, (H3.out.2.2.2.1.kept b3).kept q3, o3.kept q3, andThen (andThen H3.out.2.2.2.2 b3) q3⟩
 clear hD3 hL3 hE3 o3 b3 H3 HB1
 go_wp2_with (first | (refine wpList_alloc_Z HZ.out rfl rfl ?_) | (refine wpList_store_mid rfl 25 (.tmp 3) (.tmp 12) rfl w3.heap.size 0 D3.toArray rfl rfl HT3.out (by simpa using HL3.out) (all_oneCell_toArray H13.out) ?_; (obtain ⟨W4, hW4, hq⟩ := H4.out); (have H5 : Hid _ := hq); (rw [List.toList_toArray, ← hW4]); (clear hW4 hq H4 HT3)) | fail)
 refine (snum_any 0 _).mono ?_
 rintro e _ ⟨rfl, rfl⟩
 go_wp2_with (first | (refine wpList_load_midG rfl 25 _ rfl (w1.heap.size + 1) 0 rfl D1 _ H5.out.2.1.range Tryz.underlying25 rfl HDL.out ?_) | (refine wpList_load_midG rfl 25 _ rfl w3.heap.size 0 rfl D3 _ H5.out.1.range Tryz.underlying25 rfl HL3.out ?_) | fail)
 refine (HSM.out _ H5.out.2.2.1 H5.out.2.2.2.1).mono ?_
 rintro e w5 ⟨rfl, b5⟩
 have H6 : Hid (Below w.heap.size w w5) := andThen H5.out.2.2.2.2 b5
 clear b5 H5
 go_wp2_with fail
 refine (HBO.out _ H6.out).mono ?_
 rintro e w6 ⟨rfl, b6⟩
 have H7 : Hid (Below w.heap.size w w6) := andThen H6.out b6
 clear b6
 go_wp2_with fail
 go_ret
 exact ⟨rfl, H7.out⟩
end Go.Proofs.YtabdfafffjgfiaaGreatDoor
