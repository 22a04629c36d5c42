import Derived.Test.YtodcakplmoajiaaDoorGSH
namespace Go.Proofs.YtodcakplmoajiaaDoor
open Go Go.RowKit
open Wb

theorem one_boxR (w : World) (t : TypeId) (Z D : List Value) (hl : D.length = Z.length) : LB ((w.alloc (.cells Z.toArray t)).setCells w.heap.size 0 D) w.heap.size t D ∧ Below w.heap.size w ((w.alloc (.cells Z.toArray t)).setCells w.heap.size 0 D) := ⟨(lb_new w Z t).sets D hl, below_cells (Nat.le_refl _) _ 0 _ (up0 _ _)⟩
theorem own_at {B : Nat} {w : World} {v : Value} {l : List Nat} (h : Own B w v l) (g o : Nat) (vs : List Value) (hg : g < B) : Own B (w.setCells g o vs) v l := Own.cells h g o vs hg
set_option maxRecDepth 100000 in
set_option maxHeartbeats 4000000 in
theorem begin_any (r : Rec) (d : Value) (w : World) (hb : Bs w d r.l) (hT : ETabs w) (hnm2 : r.nm.size ≤ 140737488355000) (hf : r.x.fit) : Calls Tryd.prog 25 #[rv r.x r.nm d] w fun e w' => ApPost w (beginP r) e w' := by
 have HUP0 : ∀ w', Below w.heap.size w w' → Calls Tryd.prog 33 #[rv r.x r.nm d, .int .i64 3] w' fun e w'' => OwnT w' w'' (upP 3 r) e := fun w' hb' => up_O 3 r d w' (hb.kept hb') (hT.kept hb') hnm2 hf
 clear hb hT hnm2 hf
 unfold beginP
 obtain ⟨z, hz⟩ : ∃ z, (upP 3 r).1 = z := ⟨_, rfl⟩
 obtain ⟨u, hu⟩ : ∃ u, (upP 3 r).2 = u := ⟨_, rfl⟩
 rw [hz, hu]
 generalize hR : ite (z ≠ 0) _ _ = R
 have HR : Hid _ := hR
 have HUP1 : ∀ w', Below w.heap.size w w' → Calls Tryd.prog 33 #[rv r.x r.nm d, .int .i64 3] w' fun e w'' => ∃ ad, ∃ cd : Nat, e = .returned (.tuple #[rv u.x u.nm (.slice ad u.l.length cd), .int .i64 z]) ∧ Own w'.heap.size w'' (.slice ad u.l.length cd) u.l ∧ Below w'.heap.size w' w'' := fun w' hb' => (HUP0 w' hb').mono fun e w'' ⟨ad, cd, he, ho, hb''⟩ => by
  rw [hu, hz] at he
  rw [hu] at ho
  exact ⟨ad, cd, he, ho, hb''⟩
 clear HUP0 hz hu hR
 obtain ⟨Z, hZ⟩ : ∃ Z, Z = zcl := ⟨_, rfl⟩
 obtain ⟨ZR, hZR⟩ : ∃ ZR, ZR = zrl := ⟨_, rfl⟩
 have HZ : Hid (Z = zcl) := hZ
 have HZR : Hid (ZR = zrl) := hZR
 have HZL : Hid (Z.length = 16) := by show _ = _; rw [hZ]; rfl
 have HZI : Hid ((Tryd.prog.info? 28).map (·.size) = some Z.length) := by show _ = _; rw [hZ]; exact infoSaga
 have HZ1 : Hid (∀ v ∈ Z, v.oneCell' = true) := by show ∀ v ∈ Z, _; rw [hZ]; exact scl_one zSg ⟨none, 0, none, 0, none, 0, none, 0⟩
 have HZRL : Hid (ZR.length = 12) := by show _ = _; rw [hZR]; rfl
 obtain ⟨E, hD2, hL2, -⟩ := rv_letter r.x r.nm d
 rw [hD2]
 rw [hD2] at HUP1
 have HUP : Hid _ := HUP1
 have HL2 : Hid _ := hL2
 have HX : Hid (∀ t t2, LB ((w.alloc (.cells E.toArray t)).alloc (.cells Z.toArray t2)) w.heap.size t E ∧ LB ((w.alloc (.cells E.toArray t)).alloc (.cells Z.toArray t2)) (w.heap.size + 1) t2 Z ∧ Below w.heap.size w ((w.alloc (.cells E.toArray t)).alloc (.cells Z.toArray t2))) := fun t t2 => lb_new2 w E Z t t2
 clear hD2 hL2 HUP1 hZ hZR
 go_enter Tryd.func25, Tryd.ntmps25
 go_wp2_with (first | (refine wpList_alloc_Z HZ.out rfl rfl ?_; (try simp only [heap_one])) | (refine wpList_load_mid rfl 50 _ rfl w.heap.size 0 rfl E _ (HX.out _ _).1.range Tryd.underlying50 rfl HL2.out ?_) | fail)
 refine (HUP.out _ (HX.out _ _).2.2).mono ?_
 rintro e w2 ⟨ad, cd, rfl, ho2, b2⟩
 have H2 : Hid (LB w2 (w.heap.size + 1) 28 Z ∧ Own (w.heap.size + 2) w2 (.slice ad u.l.length cd) u.l ∧ w.heap.size + 1 < w2.heap.size ∧ Below w.heap.size w w2) := ⟨(HX.out _ _).2.1.kept b2, own_weak ho2 (by rw [heap_one, heap_one]; omega), ((HX.out 50 28).2.1.kept b2).lt, andThen (HX.out _ _).2.2 b2⟩
 clear b2 ho2 HX HUP HL2
 obtain ⟨G, hG, hGL, hGE⟩ := rv_letter u.x u.nm (.slice ad u.l.length cd)
 rw [hG]
 have HGL : Hid _ := hGL
 have HGE : Hid (G = rcE u.x u.nm (.slice ad u.l.length cd)) := hGE
 have HG1 : Hid (∀ v ∈ G, v.oneCell' = true) := by show ∀ v ∈ G, _; rw [hGE]; exact rcE_one _ _ _ rfl
 have HGZ : Hid (G.length = ZR.length) := by show _ = _; rw [hGE, HZRL.out]; rfl
 have HTZ : Hid ((w2.alloc (.cells ZR.toArray 50)).there w2.heap.size 0 G.toArray.size) := there_of (lb_new w2 ZR _) (by simpa using HGZ.out)
 have H3 : Hid (∃ W3, W3 = (w2.alloc (.cells ZR.toArray 50)).setCells w2.heap.size 0 G ∧ LB W3 (w.heap.size + 1) 28 Z ∧ Own (w.heap.size + 2) W3 (.slice ad u.l.length cd) u.l ∧ LB W3 w2.heap.size 50 G ∧ Below w.heap.size w W3) := by
  obtain ⟨q1, q2⟩ := one_boxR w2 50 ZR G HGZ.out
  exact ⟨_, rfl, H2.out.1.kept q2, H2.out.2.1.kept q2, q1, andThen H2.out.2.2.2 q2⟩
 clear hG hGL hGE H2
 obtain ⟨M, hM⟩ : ∃ M : List Value, [.int .i64 u.x.s, .string u.nm, .int .i64 u.x.n, .int .i64 u.x.i, .int .i64 u.x.a, .int .i64 u.x.a, .slice ad u.l.length cd, .int .i64 1, .int .i64 0, .bool false, .int .i64 0, .slice none 0 0, .slice none 0 0, .int .i64 0, .int .i64 0, .slice none 0 0] = M := ⟨_, rfl⟩
 have HM : Hid (M = scl ⟨⟨u.x.s, u.x.n, u.x.i, u.x.a, u.x.a, 1, 0, false, 0, 0, 0⟩, u.nm, u.l, [], [], []⟩ ⟨ad, cd, none, 0, none, 0, none, 0⟩) := hM.symm
 have HMI : Hid ((Tryd.prog.info? 28).map (·.size) = some M.length) := by show _ = _; rw [HM.out]; exact infoSaga
 have HM1 : Hid (∀ v ∈ M, v.oneCell' = true) := by show ∀ v ∈ M, _; rw [HM.out]; exact scl_one _ _
 have HMZ : Hid (M.length = Z.length) := by show _ = _; rw [HM.out, HZL.out]; rfl
 by_cases h0 : z = 0
 ·have hz0 : (z != 0) = false := by simp [h0]
  by_cases hk : u.x.k = 1
  ·have HRE : Hid (R = (0, ⟨⟨u.x.s, u.x.n, u.x.i, u.x.a, u.x.a, 1, 0, false, 0, 0, 0⟩, u.nm, u.l, [], [], []⟩)) := by show _ = _; rw [← HR.out, if_neg (by simpa using h0), if_neg (by simpa using hk)]
   clear h0
   have HK : Hid (G[1]? = some (.int .i64 1)) := by show _ = _; rw [HGE.out, ← hk]; rfl
   clear hk
   go_wp2_with (first | (refine wpList_alloc_R HZR.out rfl rfl ?_) | (refine wpList_store_mid rfl 50 (.tmp 4) (.tmp 9) rfl w2.heap.size 0 G.toArray rfl rfl HTZ.out (by simpa using HGL.out) (all_oneCell_toArray HG1.out) ?_; (obtain ⟨W3, hW3, hq⟩ := H3.out); (have H4 : Hid _ := hq); (rw [List.toList_toArray, ← hW3]); (clear hW3 hq H3 HTZ); (have g1 := H4.out.2.2.1.cell 1 (.int .i64 1) HK.out); (have g2 := H4.out.2.2.1.cell 2 (.int .i64 u.x.s) (by rw [HGE.out]; rfl)); (have g10 := H4.out.2.2.1.cell 10 (.string u.nm) (by rw [HGE.out]; rfl)); (have g8 := H4.out.2.2.1.cell 8 (.int .i64 u.x.n) (by rw [HGE.out]; rfl)); (have g9 := H4.out.2.2.1.cell 9 (.int .i64 u.x.i) (by rw [HGE.out]; rfl)); (have g5 := H4.out.2.2.1.cell 5 (.int .i64 u.x.a) (by rw [HGE.out]; rfl)); (have g11 := H4.out.2.2.1.cell 11 (.slice ad u.l.length cd) (by rw [HGE.out]; rfl))) | (refine wpList_store_mid rfl 28 (.tmp 2) (.tmp 33) rfl (w.heap.size + 1) 0 M.toArray rfl rfl (there_of H4.out.1 (by simpa using HMZ.out)) (by simpa using HMI.out) (all_oneCell_toArray HM1.out) ?_; (rw [List.toList_toArray])) | fail)
   have HR9 : Hid ((W3.setCells (w.heap.size + 1) 0 M).rangeAt (w.heap.size + 1) 0 M) := (H4.out.1.sets M HMZ.out).range
   have HBF : Hid (Below w.heap.size w (W3.setCells (w.heap.size + 1) 0 M)) := below_cells (by omega) _ 0 _ H4.out.2.2.2
   refine bodyPost_ret (results_cell_slot (p := 2) (s := 3) (ty := 28) rfl _ (W3.setCells (w.heap.size + 1) 0 M) (w.heap.size + 1) M _ rfl HR9.out Tryd.underlying28 rfl HMI.out) rfl ?_
   rw [HRE.out]
   exact ⟨⟨ad, cd, none, 0, none, 0, none, 0⟩, by rw [HM.out]; rfl, ⟨own_weak (own_at H4.out.2.1 (w.heap.size + 1) 0 M (by omega)) (by omega), ownP_nil _ _, ownP_nil _ _, Own.nil _ _⟩, HBF.out⟩
  ·have HRE : Hid (R = (102, zSg)) := by show _ = _; rw [← HR.out, if_neg (by simpa using h0), if_pos hk]
   clear h0
   have hk1 : (u.x.k != 1) = true := by rw [bne_iff_ne]; exact hk
   clear hk
   go_wp2_with (first | (refine wpList_alloc_R HZR.out rfl rfl ?_) | (refine wpList_store_mid rfl 50 (.tmp 4) (.tmp 9) rfl w2.heap.size 0 G.toArray rfl rfl HTZ.out (by simpa using HGL.out) (all_oneCell_toArray HG1.out) ?_; (obtain ⟨W3, hW3, hq⟩ := H3.out); (have H4 : Hid _ := hq); (rw [List.toList_toArray, ← hW3]); (clear hW3 hq H3 HTZ); (have g1 := H4.out.2.2.1.cell 1 (.int .i64 u.x.k) (by rw [HGE.out]; rfl))) | (refine wpList_build_Z HZ.out rfl rfl ?_) | (refine wpList_store_mid rfl 28 (.tmp 2) (.tmp 18) rfl (w.heap.size + 1) 0 Z.toArray rfl rfl (there_of H4.out.1 (by simp)) (by simpa using HZI.out) (all_oneCell_toArray HZ1.out) ?_; (rw [List.toList_toArray])) | fail)
   have HR9 : Hid ((W3.setCells (w.heap.size + 1) 0 Z).rangeAt (w.heap.size + 1) 0 Z) := (H4.out.1.sets Z rfl).range
   have HBF : Hid (Below w.heap.size w (W3.setCells (w.heap.size + 1) 0 Z)) := below_cells (by omega) _ 0 _ H4.out.2.2.2
   refine bodyPost_ret (results_cell_slot (p := 2) (s := 3) (ty := 28) rfl _ (W3.setCells (w.heap.size + 1) 0 Z) (w.heap.size + 1) Z _ rfl HR9.out Tryd.underlying28 rfl HZI.out) rfl ?_
   rw [HRE.out]
   exact ⟨⟨none, 0, none, 0, none, 0, none, 0⟩, by rw [HZ.out]; rfl, sgO_zero _ _, HBF.out⟩
 ·have HRE : Hid (R = (z, zSg)) := by show _ = _; rw [← HR.out, if_pos h0]
  have hz0 : (z != 0) = true := by rw [bne_iff_ne]; exact h0
  clear h0
  go_wp2_with (first | (refine wpList_alloc_R HZR.out rfl rfl ?_) | (refine wpList_store_mid rfl 50 (.tmp 4) (.tmp 9) rfl w2.heap.size 0 G.toArray rfl rfl HTZ.out (by simpa using HGL.out) (all_oneCell_toArray HG1.out) ?_; (obtain ⟨W3, hW3, hq⟩ := H3.out); (have H4 : Hid _ := hq); (rw [List.toList_toArray, ← hW3]); (clear hW3 hq H3 HTZ)) | (refine wpList_build_Z HZ.out rfl rfl ?_) | (refine wpList_store_mid rfl 28 (.tmp 2) (.tmp 13) rfl (w.heap.size + 1) 0 Z.toArray rfl rfl (there_of H4.out.1 (by simp)) (by simpa using HZI.out) (all_oneCell_toArray HZ1.out) ?_; (rw [List.toList_toArray])) | fail)
  have HR9 : Hid ((W3.setCells (w.heap.size + 1) 0 Z).rangeAt (w.heap.size + 1) 0 Z) := (H4.out.1.sets Z rfl).range
  have HBF : Hid (Below w.heap.size w (W3.setCells (w.heap.size + 1) 0 Z)) := below_cells (by omega) _ 0 _ H4.out.2.2.2
  refine bodyPost_ret (results_cell_slot (p := 2) (s := 3) (ty := 28) rfl _ (W3.setCells (w.heap.size + 1) 0 Z) (w.heap.size + 1) Z _ rfl HR9.out Tryd.underlying28 rfl HZI.out) rfl ?_
  rw [HRE.out]
  exact ⟨⟨none, 0, none, 0, none, 0, none, 0⟩, by rw [HZ.out]; rfl, sgO_zero _ _, HBF.out⟩
end Go.Proofs.YtodcakplmoajiaaDoor
