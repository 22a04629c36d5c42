import Derived.Maps.AppendAt
import Derived.Test.YtabdfafffjgfiaaGreatDoorAD3
set_option maxRecDepth 100000
set_option maxHeartbeats 4000000
namespace Go.Proofs.YtabdfafffjgfiaaGreatDoor
open Go Go.RowKit
open Wb

theorem rxlight_40 (S : Sg) (h : SH) (x : Nums) (nm : ByteArray) (d : Value) (w : World) (hk : x.k = 4) (hl : x.l = 0) : Calls Tryz.prog 96 #[sv S h, rv x nm d] w fun e w' => e = .returned (sv { S with x := { S.x with la := x.a, fl := false } } h) ∧ Below w.heap.size w w' := by
 obtain ⟨Z, hZ⟩ : ∃ Z, Z = zcl := ⟨_, rfl⟩
 have HZ : Hid (Z = zcl) := hZ
 have HZL : Hid (Z.length = 16) := by show _ = _; rw [hZ]; rfl
 obtain ⟨D, hD, hL, hE⟩ := sv_letter S h
 obtain ⟨E, hD2, hL2, hE2⟩ := rv_letter x nm d
 rw [hD, hD2]
 have HE : Hid (D = scl S h) := hE
 have HE2 : Hid (E = rcE x nm d) := hE2
 have HX : Hid (LB (((w.alloc (.cells D.toArray 25)).alloc (.cells E.toArray 37)).alloc (.cells Z.toArray 25)) w.heap.size 25 D ∧ LB (((w.alloc (.cells D.toArray 25)).alloc (.cells E.toArray 37)).alloc (.cells Z.toArray 25)) (w.heap.size + 1) 37 E ∧ LB (((w.alloc (.cells D.toArray 25)).alloc (.cells E.toArray 37)).alloc (.cells Z.toArray 25)) (w.heap.size + 2) 25 Z ∧ Below w.heap.size w (((w.alloc (.cells D.toArray 25)).alloc (.cells E.toArray 37)).alloc (.cells Z.toArray 25))) := lb_new3 w D E Z _ _ _
 clear hD hL hE hD2 hL2 hE2 hZ
 obtain ⟨M, hM, hML, hME⟩ := sv_letter { S with x := { S.x with la := x.a, fl := false } } h
 rw [hM]
 have HML : Hid _ := hML
 have HME : Hid (((D.set 5 (.int .i64 x.a)).set 9 (.bool false)) = M) := by show _ = _; rw [HE.out, hME]; rfl
 have HM1 : Hid (∀ v ∈ M, v.oneCell' = true) := by show ∀ v ∈ M, _; rw [hME]; exact scl_one _ _
 have HMZ : Hid (M.length = Z.length) := by show _ = _; rw [hME, HZL.out]; rfl
 clear hM hML hME
 go_enter Tryz.func96, Tryz.ntmps96
 go_wp2_with (first | (refine wpList_alloc_Z HZ.out rfl rfl ?_; (try simp only [heap_one]); (obtain ⟨W1, hW1⟩ : ∃ W1, ((w.alloc (.cells D.toArray 25)).alloc (.cells E.toArray 37)).alloc (.cells Z.toArray 25) = W1 := ⟨_, rfl⟩); (rw [hW1] at HX ⊢); (clear hW1); (have r5 := HX.out.2.1.cell 5 (.int .i64 x.a) (by rw [HE2.out]; rfl)); (have r1 := HX.out.2.1.cell 1 (.int .i64 4) (by rw [HE2.out, ← hk]; rfl)); (have r6 := HX.out.2.1.cell 6 (.int .i64 0) (by rw [HE2.out, ← hl]; rfl)); (have c5 := HX.out.1.cell 5 (.int .i64 S.x.la) (by rw [HE.out]; rfl)); (have f5 := HX.out.1.free 5); (have c9 := HX.out.1.cell 9 (.bool S.x.fl) (by rw [HE.out]; rfl)); (have f9 := HX.out.1.free 9)) | (obtain ⟨W2, hW2⟩ : ∃ W2, ((W1.setCell ⟨w.heap.size, 5, none⟩ (.int .i64 x.a)).setCell ⟨w.heap.size, 9, none⟩ (.bool false)) = W2 := ⟨_, rfl⟩; (have H2 : Hid (LB W2 w.heap.size 25 M ∧ LB W2 (w.heap.size + 2) 25 Z ∧ Below w.heap.size w W2) := by rw [← hW2, ← HME.out]; exact ⟨((HX.out.1.set _ _).set _ _), ((HX.out.2.2.1.other _ _ (show w.heap.size + 2 ≠ w.heap.size by omega)).other _ _ (show w.heap.size + 2 ≠ w.heap.size by omega)), (Below.setCell (Below.setCell HX.out.2.2.2 (Nat.le_refl _) _) (Nat.le_refl _) _)⟩); (rw [hW2]); (clear hW2); (refine wpList_load_mid rfl 25 _ rfl w.heap.size 0 rfl M _ H2.out.1.range Tryz.underlying25 rfl HML.out ?_)) | (refine wpList_store_mid rfl 25 (.tmp 4) (.tmp 78) rfl (w.heap.size + 2) 0 M.toArray rfl rfl (there_of H2.out.2.1 (by simpa using HMZ.out)) (by simpa using HML.out) (all_oneCell_toArray HM1.out) ?_; (rw [List.toList_toArray])) | fail)
 have HR9 : Hid ((W2.setCells (w.heap.size + 2) 0 M).rangeAt (w.heap.size + 2) 0 M) := (H2.out.2.1.sets M HMZ.out).range
 refine bodyPost_ret (results_cell_mid rfl _ (W2.setCells (w.heap.size + 2) 0 M) (w.heap.size + 2) M _ rfl HR9.out Tryz.underlying25 rfl HML.out) rfl ?_
 exact ⟨rfl, below_cells (by omega) _ 0 _ H2.out.2.2⟩
theorem rxlight_7 (S : Sg) (h : SH) (x : Nums) (nm : ByteArray) (d : Value) (w : World) (hk : x.k = 7) (hp : 1 ≤ S.x.ph ∧ S.x.ph ≤ 2) (hf : S.x.fl = false) : Calls Tryz.prog 96 #[sv S h, rv x nm d] w fun e w' => e = .returned (sv { S with x := { S.x with la := x.a, ph := if S.x.ph = 1 then 3 else 4 } } h) ∧ Below w.heap.size w w' := by
 have i1 : IntKind.i64.wrap (S.x.ph + 2) = S.x.ph + 2 := IntWalk.i64_in _ (by omega)
 have HQ : Hid (S.x.ph + 2 = if S.x.ph = 1 then 3 else 4) := by show _ = _; split <;> omega
 obtain ⟨Z, hZ⟩ : ∃ Z, Z = zcl := ⟨_, rfl⟩
 have HZ : Hid (Z = zcl) := hZ
 have HZL : Hid (Z.length = 16) := by show _ = _; rw [hZ]; rfl
 obtain ⟨D, hD, hL, hE⟩ := sv_letter S h
 obtain ⟨E, hD2, hL2, hE2⟩ := rv_letter x nm d
 rw [hD, hD2]
 have HE : Hid (D = scl S h) := hE
 have HE2 : Hid (E = rcE x nm d) := hE2
 have HX : Hid (LB (((w.alloc (.cells D.toArray 25)).alloc (.cells E.toArray 37)).alloc (.cells Z.toArray 25)) w.heap.size 25 D ∧ LB (((w.alloc (.cells D.toArray 25)).alloc (.cells E.toArray 37)).alloc (.cells Z.toArray 25)) (w.heap.size + 1) 37 E ∧ LB (((w.alloc (.cells D.toArray 25)).alloc (.cells E.toArray 37)).alloc (.cells Z.toArray 25)) (w.heap.size + 2) 25 Z ∧ Below w.heap.size w (((w.alloc (.cells D.toArray 25)).alloc (.cells E.toArray 37)).alloc (.cells Z.toArray 25))) := lb_new3 w D E Z _ _ _
 clear hD hL hE hD2 hL2 hE2 hZ
 obtain ⟨M, hM, hML, hME⟩ := sv_letter { S with x := { S.x with la := x.a, ph := if S.x.ph = 1 then 3 else 4 } } h
 rw [hM]
 have HML : Hid _ := hML
 have HME : Hid ((((D.set 5 (.int .i64 x.a)).set 9 (.bool false)).set 7 (.int .i64 (S.x.ph + 2))) = M) := by show _ = _; rw [HE.out, hME]; simp [scl, HQ.out, hf]
 have HM1 : Hid (∀ v ∈ M, v.oneCell' = true) := by show ∀ v ∈ M, _; rw [hME]; exact scl_one _ _
 have HMZ : Hid (M.length = Z.length) := by show _ = _; rw [hME, HZL.out]; rfl
 clear hM hML hME
 go_enter Tryz.func96, Tryz.ntmps96
 go_wp2_with (first | (refine wpList_alloc_Z HZ.out rfl rfl ?_; (try simp only [heap_one]); (obtain ⟨W1, hW1⟩ : ∃ W1, ((w.alloc (.cells D.toArray 25)).alloc (.cells E.toArray 37)).alloc (.cells Z.toArray 25) = W1 := ⟨_, rfl⟩); (rw [hW1] at HX ⊢); (clear hW1); (have r5 := HX.out.2.1.cell 5 (.int .i64 x.a) (by rw [HE2.out]; rfl)); (have r1 := HX.out.2.1.cell 1 (.int .i64 7) (by rw [HE2.out, ← hk]; rfl)); (have c5 := HX.out.1.cell 5 (.int .i64 S.x.la) (by rw [HE.out]; rfl)); (have f5 := HX.out.1.free 5); (have c9 := HX.out.1.cell 9 (.bool S.x.fl) (by rw [HE.out]; rfl)); (have f9 := HX.out.1.free 9); (have c7 := HX.out.1.cell 7 (.int .i64 S.x.ph) (by rw [HE.out]; rfl)); (have f7 := HX.out.1.free 7)) | (obtain ⟨W2, hW2⟩ : ∃ W2, (((W1.setCell ⟨w.heap.size, 5, none⟩ (.int .i64 x.a)).setCell ⟨w.heap.size, 9, none⟩ (.bool false)).setCell ⟨w.heap.size, 7, none⟩ (.int .i64 (S.x.ph + 2))) = W2 := ⟨_, rfl⟩; (have H2 : Hid (LB W2 w.heap.size 25 M ∧ LB W2 (w.heap.size + 2) 25 Z ∧ Below w.heap.size w W2) := by rw [← hW2, ← HME.out]; exact ⟨(((HX.out.1.set _ _).set _ _).set _ _), (((HX.out.2.2.1.other _ _ (show w.heap.size + 2 ≠ w.heap.size by omega)).other _ _ (show w.heap.size + 2 ≠ w.heap.size by omega)).other _ _ (show w.heap.size + 2 ≠ w.heap.size by omega)), (Below.setCell (Below.setCell (Below.setCell HX.out.2.2.2 (Nat.le_refl _) _) (Nat.le_refl _) _) (Nat.le_refl _) _)⟩); (rw [hW2]); (clear hW2); (refine wpList_load_mid rfl 25 _ rfl w.heap.size 0 rfl M _ H2.out.1.range Tryz.underlying25 rfl HML.out ?_)) | (refine wpList_store_mid rfl 25 (.tmp 4) (.tmp 78) rfl (w.heap.size + 2) 0 M.toArray rfl rfl (there_of H2.out.2.1 (by simpa using HMZ.out)) (by simpa using HML.out) (all_oneCell_toArray HM1.out) ?_; (rw [List.toList_toArray])) | fail)
 have HR9 : Hid ((W2.setCells (w.heap.size + 2) 0 M).rangeAt (w.heap.size + 2) 0 M) := (H2.out.2.1.sets M HMZ.out).range
 refine bodyPost_ret (results_cell_mid rfl _ (W2.setCells (w.heap.size + 2) 0 M) (w.heap.size + 2) M _ rfl HR9.out Tryz.underlying25 rfl HML.out) rfl ?_
 exact ⟨rfl, below_cells (by omega) _ 0 _ H2.out.2.2⟩
theorem rxlight_41 (S : Sg) (h : SH) (x : Nums) (nm : ByteArray) (d : Value) (l : List Nat) (w : World) (hb : Bs w d l) (hlen : l.length ≤ 16384) (hk : x.k = 4) (hl : x.l = 1) : Calls Tryz.prog 96 #[sv S h, rv x nm d] w fun e w' => ∃ a, ∃ c : Nat, e = .returned (sv { S with x := { S.x with la := x.a, fl := false, tr := 0, ph := 2, fs := x.p, fc := x.c }, fail := l } { h with af := a, cf := c }) ∧ Own w.heap.size w' (.slice a l.length c) l ∧ Below w.heap.size w w' := by
 obtain ⟨ad, cd, rfl, _⟩ := hb.shape
 have HBY : Hid (∀ w', Below w.heap.size w w' → Calls Tryz.prog 50 #[.slice ad l.length cd] w' fun e w'' => ∃ a, ∃ c : Nat, e = .returned (.slice a l.length c) ∧ Own w'.heap.size w'' (.slice a l.length c) l ∧ Below w'.heap.size w' w'') := fun w' hb' => rxbytes_any _ l w' (hb.kept hb') (by omega)
 clear hb
 obtain ⟨Z, hZ⟩ : ∃ Z, Z = zcl := ⟨_, rfl⟩
 have HZ : Hid (Z = zcl) := hZ
 have HZL : Hid (Z.length = 16) := by show _ = _; rw [hZ]; rfl
 obtain ⟨D, hD, hL, hE⟩ := sv_letter S h
 obtain ⟨E, hD2, hL2, hE2⟩ := rv_letter x nm (.slice ad l.length cd)
 rw [hD, hD2]
 have HE : Hid (D = scl S h) := hE
 have HE2 : Hid (E = rcE x nm (.slice ad l.length cd)) := hE2
 have HX : Hid (LB (((w.alloc (.cells D.toArray 25)).alloc (.cells E.toArray 37)).alloc (.cells Z.toArray 25)) w.heap.size 25 D ∧ LB (((w.alloc (.cells D.toArray 25)).alloc (.cells E.toArray 37)).alloc (.cells Z.toArray 25)) (w.heap.size + 1) 37 E ∧ LB (((w.alloc (.cells D.toArray 25)).alloc (.cells E.toArray 37)).alloc (.cells Z.toArray 25)) (w.heap.size + 2) 25 Z ∧ Below w.heap.size w (((w.alloc (.cells D.toArray 25)).alloc (.cells E.toArray 37)).alloc (.cells Z.toArray 25))) := lb_new3 w D E Z _ _ _
 clear hD hL hE hD2 hL2 hE2 hZ
 go_enter Tryz.func96, Tryz.ntmps96
 go_wp2_with (first | (refine wpList_alloc_Z HZ.out rfl rfl ?_; (try simp only [heap_one]); (obtain ⟨W1, hW1⟩ : ∃ W1, ((w.alloc (.cells D.toArray 25)).alloc (.cells E.toArray 37)).alloc (.cells Z.toArray 25) = W1 := ⟨_, rfl⟩); (rw [hW1] at HX ⊢); (clear hW1); (have r5 := HX.out.2.1.cell 5 (.int .i64 x.a) (by rw [HE2.out]; rfl)); (have r1 := HX.out.2.1.cell 1 (.int .i64 4) (by rw [HE2.out, ← hk]; rfl)); (have r6 := HX.out.2.1.cell 6 (.int .i64 1) (by rw [HE2.out, ← hl]; rfl)); (have r3 := HX.out.2.1.cell 3 (.int .i64 x.p) (by rw [HE2.out]; rfl)); (have r7 := HX.out.2.1.cell 7 (.int .i64 x.c) (by rw [HE2.out]; rfl)); (have r11 := HX.out.2.1.cell 11 (.slice ad l.length cd) (by rw [HE2.out]; rfl)); (have c5 := HX.out.1.cell 5 (.int .i64 S.x.la) (by rw [HE.out]; rfl)); (have f5 := HX.out.1.free 5); (have c9 := HX.out.1.cell 9 (.bool S.x.fl) (by rw [HE.out]; rfl)); (have f9 := HX.out.1.free 9); (have c10 := HX.out.1.cell 10 (.int .i64 S.x.tr) (by rw [HE.out]; rfl)); (have f10 := HX.out.1.free 10); (have c7 := HX.out.1.cell 7 (.int .i64 S.x.ph) (by rw [HE.out]; rfl)); (have f7 := HX.out.1.free 7); (have c13 := HX.out.1.cell 13 (.int .i64 S.x.fs) (by rw [HE.out]; rfl)); (have f13 := HX.out.1.free 13); (have c14 := HX.out.1.cell 14 (.int .i64 S.x.fc) (by rw [HE.out]; rfl)); (have f14 := HX.out.1.free 14)) | fail)
 obtain ⟨W2, hW2⟩ : ∃ W2, ((((((W1.setCell ⟨w.heap.size, 5, none⟩ (.int .i64 x.a)).setCell ⟨w.heap.size, 9, none⟩ (.bool false)).setCell ⟨w.heap.size, 10, none⟩ (.int .i64 0)).setCell ⟨w.heap.size, 7, none⟩ (.int .i64 2)).setCell ⟨w.heap.size, 13, none⟩ (.int .i64 x.p)).setCell ⟨w.heap.size, 14, none⟩ (.int .i64 x.c)) = W2 := ⟨_, rfl⟩
 have H2 : Hid (LB W2 w.heap.size 25 ((((((D.set 5 (.int .i64 x.a)).set 9 (.bool false)).set 10 (.int .i64 0)).set 7 (.int .i64 2)).set 13 (.int .i64 x.p)).set 14 (.int .i64 x.c)) ∧ LB W2 (w.heap.size + 2) 25 Z ∧ Below w.heap.size w W2) := by rw [← hW2]; exact ⟨((((((HX.out.1.set _ _).set _ _).set _ _).set _ _).set _ _).set _ _), ((((((HX.out.2.2.1.other _ _ (show w.heap.size + 2 ≠ w.heap.size by omega)).other _ _ (show w.heap.size + 2 ≠ w.heap.size by omega)).other _ _ (show w.heap.size + 2 ≠ w.heap.size by omega)).other _ _ (show w.heap.size + 2 ≠ w.heap.size by omega)).other _ _ (show w.heap.size + 2 ≠ w.heap.size by omega)).other _ _ (show w.heap.size + 2 ≠ w.heap.size by omega)), (Below.setCell (Below.setCell (Below.setCell (Below.setCell (Below.setCell (Below.setCell HX.out.2.2.2 (Nat.le_refl _) _) (Nat.le_refl _) _) (Nat.le_refl _) _) (Nat.le_refl _) _) (Nat.le_refl _) _) (Nat.le_refl _) _)⟩
 rw [hW2]
 clear hW2 HX c5 f5 c9 f9 c10 f10 c7 f7 c13 f13 c14 f14 r5 r1 r6 r3 r7 r11
 refine (HBY.out _ H2.out.2.2).mono ?_
 rintro e w3 ⟨a3, c3, rfl, o3, b3⟩
 have H3 : Hid (LB w3 w.heap.size 25 ((((((D.set 5 (.int .i64 x.a)).set 9 (.bool false)).set 10 (.int .i64 0)).set 7 (.int .i64 2)).set 13 (.int .i64 x.p)).set 14 (.int .i64 x.c)) ∧ LB w3 (w.heap.size + 2) 25 Z ∧ Below w.heap.size w w3 ∧ Own (w.heap.size + 3) w3 (.slice a3 l.length c3) l) := ⟨H2.out.1.kept b3, H2.out.2.1.kept b3, andThen H2.out.2.2 b3, own_weak o3 H2.out.2.1.lt⟩
 clear b3 o3 H2 HBY
 have c15 := H3.out.1.cell 15 (.slice h.af S.fail.length h.cf) (by rw [HE.out]; rfl)
 have f15 := H3.out.1.free 15
 obtain ⟨M, hM, hML, hME⟩ := sv_letter { S with x := { S.x with la := x.a, fl := false, tr := 0, ph := 2, fs := x.p, fc := x.c }, fail := l } { h with af := a3, cf := c3 }
 have HMV : Hid (sv { S with x := { S.x with la := x.a, fl := false, tr := 0, ph := 2, fs := x.p, fc := x.c }, fail := l } { h with af := a3, cf := c3 } = .agg M.toArray) := hM
 have HML : Hid _ := hML
 have HME : Hid (((((((D.set 5 (.int .i64 x.a)).set 9 (.bool false)).set 10 (.int .i64 0)).set 7 (.int .i64 2)).set 13 (.int .i64 x.p)).set 14 (.int .i64 x.c)).set 15 (.slice a3 l.length c3) = M) := by show _ = _; rw [HE.out, hME]; rfl
 have HM1 : Hid (∀ v ∈ M, v.oneCell' = true) := by show ∀ v ∈ M, _; rw [hME]; exact scl_one _ _
 have HMZ : Hid (M.length = Z.length) := by show _ = _; rw [hME, HZL.out]; rfl
 clear hM hML hME
 go_wp2_with (first | (obtain ⟨W4, hW4⟩ : ∃ W4, w3.setCell ⟨w.heap.size, 15, none⟩ (.slice a3 l.length c3) = W4 := ⟨_, rfl⟩; (have H4 : Hid (LB W4 w.heap.size 25 M ∧ LB W4 (w.heap.size + 2) 25 Z ∧ Below w.heap.size w W4 ∧ Own (w.heap.size + 3) W4 (.slice a3 l.length c3) l) := by rw [← hW4, ← HME.out]; exact ⟨H3.out.1.set _ _, H3.out.2.1.other _ _ (show w.heap.size + 2 ≠ w.heap.size by omega), Below.setCell H3.out.2.2.1 (Nat.le_refl _) _, own_set H3.out.2.2.2 _ _ (show w.heap.size < w.heap.size + 3 by omega)⟩); (rw [hW4]); (clear hW4); (refine wpList_load_mid rfl 25 _ rfl w.heap.size 0 rfl M _ H4.out.1.range Tryz.underlying25 rfl HML.out ?_)) | (refine wpList_store_mid rfl 25 (.tmp 4) (.tmp 78) rfl (w.heap.size + 2) 0 M.toArray rfl rfl (there_of H4.out.2.1 (by simpa using HMZ.out)) (by simpa using HML.out) (all_oneCell_toArray HM1.out) ?_; (rw [List.toList_toArray])) | fail)
 have HR9 : Hid ((W4.setCells (w.heap.size + 2) 0 M).rangeAt (w.heap.size + 2) 0 M) := (H4.out.2.1.sets M HMZ.out).range
 refine bodyPost_ret (results_cell_mid rfl _ (W4.setCells (w.heap.size + 2) 0 M) (w.heap.size + 2) M _ rfl HR9.out Tryz.underlying25 rfl HML.out) rfl ?_
 exact ⟨a3, c3, by rw [HMV.out], own_weak (Own.cells H4.out.2.2.2 _ _ _ (by omega)) (by omega), below_cells (by omega) _ 0 _ H4.out.2.2.1⟩
theorem step_push_at {P : Program} {ops : Array Oper} {o : Oper} {a : Act} {w : World} {K : Act → World → Prop} {Q : Exit → Act → World → Prop} {E : Prop} (hgd : o.guard = none) (s x : Operand) (t : TypeId)
  (ho : o.op = .call { callee := .builtin .append, args := #[s, x], argTypes := #[t, t] })
  (B : Nat) (hinfo : (P.info? 22).map (fun i => (i.zero, i.size, i.bytes)) = some (some (.slice none 0 0), 1, 24)) (ht : P.underlying t = some (.slice 22))
  (v : Value) (vs : List Value) (hv : a.eval s = v) (h : Row B w v vs) (g : Nat) (u : Value) (hx : a.eval x = .slice (some ⟨g, 0, none⟩) 1 1) (hu : w.cell? ⟨g, 0, none⟩ = some u) (h1 : u.oneCell' = true)
  (hmax : vs.length ≤ 5000000000) (hB : B ≤ w.heap.size)
  (hK : ∀ v' w', Row B w' v' (vs ++ [u]) → Below B w w' → w.grownBy w' v.ownBlock → (v'.ownBlock = v.ownBlock ∨ v'.ownBlock = some w.heap.size) → K (a.put o.dst v') w') :
  if Region.wanted o (yielded ops a.tmps) = true then Oper.wp P o a w K Q else E := by
 have hw : Region.wanted o (yielded ops a.tmps) = true := by simp [Region.wanted, hgd]
 rw [if_pos hw]
 obtain ⟨i0, hi, hz0, hz1, hz2⟩ := info_parts hinfo
 obtain ⟨v', w', hrun, h2, h3, _, h5⟩ := run_append_own_at (P := P) w B t o.type 22 i0 (.slice none 0 0) 1 24 ht hi hz0 hz1 hz2 rfl (by decide) v vs.length vs h ⟨g, 0, none⟩ 1 1 [u] rfl (by
  intro j y hj
  match j, hj with
  | 0, hj => simp at hj; subst hj; simpa [Addr.add] using hu) (by intro y hy; simp at hy; subst hy; exact h1) (by unfold maxLen; omega) (by omega) hB
 unfold Oper.wp
 simp [execOp, ho, resolve, invoke, builtin, hv, hx, hrun, Result.andThen]
 refine hK v' w' ?_ ((Below.refl B w).grown h3 hB (fun k hk => (h.lt k hk).1)) h3 h5
 show w'.ownsRow B 22 1 v' (vs ++ [u]).length (vs ++ [u])
 rw [List.length_append]
 exact h2
def FrB (row : Option Nat) (w w' : World) : Prop := ∀ b, b < w.heap.size → row ≠ some b → w'.heap[b]? = w.heap[b]?
theorem rxlight_3 (S : Sg) (h : SH) (x : Nums) (nm : ByteArray) (d : Value) (l : List Nat) (w : World) (B : Nat) (hR : OwnP B w (.slice h.ao S.outs.length h.co) S.outs) (hB : B ≤ w.heap.size) (hb : Bs w d l) (hlen : l.length ≤ 16384) (hk : x.k = 3) (hn : 0 ≤ S.x.nx ∧ S.x.nx ≤ 32) (hs : S.outs.length ≤ 100) : Calls Tryz.prog 96 #[sv S h, rv x nm d] w fun e w' => ∃ a, ∃ c : Nat, e = .returned (sv { S with x := { S.x with la := x.a, fl := false, tr := 0, nx := S.x.nx + 1 }, outs := S.outs ++ [l] } { h with ao := a, co := c }) ∧ OwnP B w' (.slice a (S.outs.length + 1) c) (S.outs ++ [l]) ∧ Below B w w' ∧ FrB (Value.slice h.ao S.outs.length h.co).ownBlock w w' ∧ (∀ g, (Value.slice a (S.outs.length + 1) c).ownBlock = some g → (Value.slice h.ao S.outs.length h.co).ownBlock = some g ∨ w.heap.size ≤ g) := by
 obtain ⟨ad, cd, rfl, _⟩ := hb.shape
 have HBY : Hid (∀ w', Below w.heap.size w w' → Calls Tryz.prog 50 #[.slice ad l.length cd] w' fun e w'' => ∃ a, ∃ c : Nat, e = .returned (.slice a l.length c) ∧ Own w'.heap.size w'' (.slice a l.length c) l ∧ Below w'.heap.size w' w'') := fun w' hb' => rxbytes_any _ l w' (hb.kept hb') (by omega)
 have HIN : Hid ((Tryz.prog.info? 22).map (fun i => (i.zero, i.size, i.bytes)) = some (some (.slice none 0 0), 1, 24)) := info22
 have i1 : IntKind.i64.wrap (S.x.nx + 1) = S.x.nx + 1 := IntWalk.i64_in _ (by omega)
 obtain ⟨vs, hr, hvl, hve⟩ := hR
 have HVL : Hid (vs.length = S.outs.length) := hvl
 have HR0 : Hid (Row B w (.slice h.ao S.outs.length h.co) vs ∧ ∀ j (h : j < vs.length) (h2 : j < S.outs.length), Own B w vs[j] S.outs[j]) := ⟨hr, hve⟩
 have HRB : Hid (∀ g, (Value.slice h.ao S.outs.length h.co).ownBlock = some g → g < w.heap.size) := fun g e => (row_block hr g e).2
 clear hb hr hvl hve
 obtain ⟨Z, hZ⟩ : ∃ Z, Z = zcl := ⟨_, rfl⟩
 have HZ : Hid (Z = zcl) := hZ
 have HZL : Hid (Z.length = 16) := by show _ = _; rw [hZ]; rfl
 obtain ⟨D, hD, hL, hE⟩ := sv_letter S h
 obtain ⟨E, hD2, hL2, hE2⟩ := rv_letter x nm (.slice ad l.length cd)
 rw [hD, hD2]
 have HE : Hid (D = scl S h) := hE
 have HE2 : Hid (E = rcE x nm (.slice ad l.length cd)) := hE2
 have HX : Hid (LB (((w.alloc (.cells D.toArray 25)).alloc (.cells E.toArray 37)).alloc (.cells Z.toArray 25)) w.heap.size 25 D ∧ LB (((w.alloc (.cells D.toArray 25)).alloc (.cells E.toArray 37)).alloc (.cells Z.toArray 25)) (w.heap.size + 1) 37 E ∧ LB (((w.alloc (.cells D.toArray 25)).alloc (.cells E.toArray 37)).alloc (.cells Z.toArray 25)) (w.heap.size + 2) 25 Z ∧ Below w.heap.size w (((w.alloc (.cells D.toArray 25)).alloc (.cells E.toArray 37)).alloc (.cells Z.toArray 25))) := lb_new3 w D E Z _ _ _
 clear hD hL hE hD2 hL2 hE2 hZ
 go_enter Tryz.func96, Tryz.ntmps96
 go_wp2_with (first | (refine wpList_alloc_Z HZ.out rfl rfl ?_; (try simp only [heap_one]); (obtain ⟨W1, hW1⟩ : ∃ W1, ((w.alloc (.cells D.toArray 25)).alloc (.cells E.toArray 37)).alloc (.cells Z.toArray 25) = W1 := ⟨_, rfl⟩); (rw [hW1] at HX ⊢); (clear hW1); (have r5 := HX.out.2.1.cell 5 (.int .i64 x.a) (by rw [HE2.out]; rfl)); (have r1 := HX.out.2.1.cell 1 (.int .i64 3) (by rw [HE2.out, ← hk]; rfl)); (have c5 := HX.out.1.cell 5 (.int .i64 S.x.la) (by rw [HE.out]; rfl)); (have f5 := HX.out.1.free 5); (have c9 := HX.out.1.cell 9 (.bool S.x.fl) (by rw [HE.out]; rfl)); (have f9 := HX.out.1.free 9); (have c8 := HX.out.1.cell 8 (.int .i64 S.x.nx) (by rw [HE.out]; rfl)); (have f8 := HX.out.1.free 8); (have c10 := HX.out.1.cell 10 (.int .i64 S.x.tr) (by rw [HE.out]; rfl)); (have f10 := HX.out.1.free 10)) | fail)
 obtain ⟨C2, hC2⟩ : ∃ C2, ((((D.set 5 (.int .i64 x.a)).set 9 (.bool false)).set 8 (.int .i64 (S.x.nx + 1))).set 10 (.int .i64 0)) = C2 := ⟨_, rfl⟩
 have HC2 : Hid (C2 = scl { S with x := { S.x with la := x.a, fl := false, tr := 0, nx := S.x.nx + 1 } } h) := by show _ = _; rw [← hC2, HE.out]; rfl
 obtain ⟨W2, hW2⟩ : ∃ W2, ((((W1.setCell ⟨w.heap.size, 5, none⟩ (.int .i64 x.a)).setCell ⟨w.heap.size, 9, none⟩ (.bool false)).setCell ⟨w.heap.size, 8, none⟩ (.int .i64 (S.x.nx + 1))).setCell ⟨w.heap.size, 10, none⟩ (.int .i64 0)) = W2 := ⟨_, rfl⟩
 have H2 : Hid (LB W2 w.heap.size 25 C2 ∧ LB W2 (w.heap.size + 1) 37 E ∧ LB W2 (w.heap.size + 2) 25 Z ∧ Below w.heap.size w W2 ∧ w.heap.size + 2 < W2.heap.size) := by rw [← hW2, ← hC2]; exact ⟨((((HX.out.1.set _ _).set _ _).set _ _).set _ _), ((((HX.out.2.1.other _ _ (show w.heap.size + 1 ≠ w.heap.size by omega)).other _ _ (show w.heap.size + 1 ≠ w.heap.size by omega)).other _ _ (show w.heap.size + 1 ≠ w.heap.size by omega)).other _ _ (show w.heap.size + 1 ≠ w.heap.size by omega)), ((((HX.out.2.2.1.other _ _ (show w.heap.size + 2 ≠ w.heap.size by omega)).other _ _ (show w.heap.size + 2 ≠ w.heap.size by omega)).other _ _ (show w.heap.size + 2 ≠ w.heap.size by omega)).other _ _ (show w.heap.size + 2 ≠ w.heap.size by omega)), (Below.setCell (Below.setCell (Below.setCell (Below.setCell HX.out.2.2.2 (Nat.le_refl _) _) (Nat.le_refl _) _) (Nat.le_refl _) _) (Nat.le_refl _) _), ((((HX.out.2.2.1.other _ _ (show w.heap.size + 2 ≠ w.heap.size by omega)).other _ _ (show w.heap.size + 2 ≠ w.heap.size by omega)).other _ _ (show w.heap.size + 2 ≠ w.heap.size by omega)).other _ _ (show w.heap.size + 2 ≠ w.heap.size by omega)).lt⟩
 rw [hW2]
 clear hW2 hC2 HX c5 f5 c9 f9 c10 f10 c8 f8 r5 r1
 have HKEEP : Hid (∀ W W' : World, (LB W w.heap.size 25 C2 ∧ LB W (w.heap.size + 1) 37 E ∧ LB W (w.heap.size + 2) 25 Z ∧ Below w.heap.size w W ∧ w.heap.size + 2 < W.heap.size) → Below W.heap.size W W' → (LB W' w.heap.size 25 C2 ∧ LB W' (w.heap.size + 1) 37 E ∧ LB W' (w.heap.size + 2) 25 Z ∧ Below w.heap.size w W' ∧ w.heap.size + 2 < W'.heap.size)) := fun W W' H b9 => ⟨H.1.kept b9, H.2.1.kept b9, H.2.2.1.kept b9, andThen H.2.2.2.1 b9, Nat.lt_of_lt_of_le H.2.2.2.2 b9.size⟩
 have HFIN : Hid (∀ (W W' : World) (v' u : Value), (LB W w.heap.size 25 C2 ∧ LB W (w.heap.size + 1) 37 E ∧ LB W (w.heap.size + 2) 25 Z ∧ Below w.heap.size w W ∧ w.heap.size + 2 < W.heap.size) → Own B W u l → Row B W' v' (vs ++ [u]) → Below B W W' → W.grownBy W' (Value.slice h.ao S.outs.length h.co).ownBlock → LB (W'.setCell ⟨w.heap.size, 11, none⟩ v') w.heap.size 25 (C2.set 11 v') ∧ LB (W'.setCell ⟨w.heap.size, 11, none⟩ v') (w.heap.size + 2) 25 Z ∧ OwnP B (W'.setCell ⟨w.heap.size, 11, none⟩ v') v' (S.outs ++ [l]) ∧ Below B w (W'.setCell ⟨w.heap.size, 11, none⟩ v') ∧ FrB (Value.slice h.ao S.outs.length h.co).ownBlock w (W'.setCell ⟨w.heap.size, 11, none⟩ v') ∧ w.heap.size + 2 < (W'.setCell ⟨w.heap.size, 11, none⟩ v').heap.size) := by
  intro W W' v' u H hu hrow hb' hgr
  have hR1 := HR0.out.1.kept H.2.2.2.1
  have hR2 : ∀ j (h : j < vs.length) (h2 : j < S.outs.length), Own B W vs[j] S.outs[j] := fun j a b => (HR0.out.2 j a b).kept H.2.2.2.1
  have hrg : (Value.slice h.ao S.outs.length h.co).ownBlock ≠ some w.heap.size := fun e => Nat.lt_irrefl _ (HRB.out _ e)
  have hrg2 : (Value.slice h.ao S.outs.length h.co).ownBlock ≠ some (w.heap.size + 2) := fun e => by have := HRB.out _ e; omega
  have hpush := OwnP.push hR1 HVL.out hR2 hu hrow hgr
  have hLg : LB W' w.heap.size 25 C2 := (hgr.block _ H.1.lt (Ne.symm hrg)).trans H.1
  have hLz : LB W' (w.heap.size + 2) 25 Z := (hgr.block _ H.2.2.1.lt (Ne.symm hrg2)).trans H.2.2.1
  have hrow2 : v'.ownBlock ≠ some w.heap.size := fun e => by obtain ⟨cs, z, h9⟩ := row_typed hrow _ e; rw [hLg] at h9; simp at h9
  refine ⟨hLg.set 11 v', hLz.other _ _ (show w.heap.size + 2 ≠ w.heap.size by omega), ?_, Below.setCell ((H.2.2.2.1.mono hB).trans hb') hB _, fun b h1 h2 => ?_, hLz.other _ _ (show w.heap.size + 2 ≠ w.heap.size by omega) |>.lt⟩
  ·obtain ⟨us, u1, u2, u3⟩ := hpush
   refine ⟨us, row_kept2 u1 (fun b e => set_other _ _ _ _ (fun e2 => hrow2 (by rw [e]; exact congrArg some e2))), u2, fun j a b => own_keptB (u3 j a b) (fun c e => set_other _ _ _ _ (fun e2 => ?_))⟩
   rcases (u3 j a b).row.2 with ⟨e3, _⟩ | ⟨g', cap, cur, e3, _, hg', _⟩
   ·rw [e3] at e; simp [Value.ownBlock] at e
   ·rw [e3] at e; simp [Value.ownBlock] at e; subst e; have e2' : g' = w.heap.size := e2; subst e2'; rw [hLg] at hg'; simp at hg'
  ·rw [set_other _ _ _ _ (show b ≠ w.heap.size by omega), hgr.block b (by have := H.2.2.2.2; omega) (Ne.symm h2)]
   exact H.2.2.2.1.block b h1
 skip
 refine wp_region_held_drew (S := fun w' : World => w'.cell? ⟨w.heap.size + 1, 11, none⟩ = some (.slice ad l.length cd)) (by kernel_rfl) ((H2.out.2.1.kept (Below.drew (Below.refl _ _))).cell 11 _ (by rw [HE2.out]; rfl)) (fun hH => ?_)
 have H3 : Hid (LB W2.drew w.heap.size 25 C2 ∧ LB W2.drew (w.heap.size + 1) 37 E ∧ LB W2.drew (w.heap.size + 2) 25 Z ∧ Below w.heap.size w W2.drew ∧ w.heap.size + 2 < W2.drew.heap.size) := HKEEP.out _ _ H2.out (Below.drew (Below.refl _ _))
 clear H2
 generalize W2.drew = V1 at *
 have HD : Hid (∀ W, (LB W w.heap.size 25 C2 ∧ LB W (w.heap.size + 1) 37 E ∧ LB W (w.heap.size + 2) 25 Z ∧ Below w.heap.size w W ∧ w.heap.size + 2 < W.heap.size) → W.cell? ⟨w.heap.size + 1, 11, none⟩ = some (.slice ad l.length cd)) := fun W H => H.2.1.cell 11 _ (by rw [HE2.out]; rfl)
 refine zqk 0 rfl hH ?_
 simp only [zq]
 refine zqk 2 rfl hH ?_
 simp only [zq]
 refine zqk 3 rfl hH ?_
 simp only [zq]
 refine wpAnyH_ready (rs := [1, 4]) (by kernel_rfl) (by simp) ?_
 refine AllReadyH.cons rfl (fun K hK => ?p1) ?p2
 case' p1 =>
  have cOa := H3.out.1.cell 11 (.slice h.ao S.outs.length h.co) (by rw [HC2.out]; rfl)
  go_simp
  refine hK.out _ _ (HD.out _ H3.out) (fun hH2 => ?_)
  clear hK K hH
  have hH := hH2
  clear hH2
  refine zqr 4 rfl (fun K hK => ?_)
  go_simp
  refine (HBY.out _ H3.out.2.2.2.1).mono ?_
  rintro e xD ⟨aD, cD, rfl, oD, bD⟩
  have H4 : Hid (LB xD w.heap.size 25 C2 ∧ LB xD (w.heap.size + 1) 37 E ∧ LB xD (w.heap.size + 2) 25 Z ∧ Below w.heap.size w xD ∧ w.heap.size + 2 < xD.heap.size) := HKEEP.out _ _ H3.out bD
  have O4 : Hid (Own B xD (.slice aD l.length cD) l) := own_weak oD (Nat.le_trans hB H3.out.2.2.2.1.size)
  refine hK.out _ _ (HD.out _ H4.out) (fun hH2 => ?_)
  clear hK K hH
  have hH := hH2
  clear hH2
  clear bD oD
  refine zqr 5 rfl (fun K hK => ?_)
  go_simp
  have H5 : Hid (LB (xD.alloc (.cells #[.slice aD l.length cD] 22)) w.heap.size 25 C2 ∧ LB (xD.alloc (.cells #[.slice aD l.length cD] 22)) (w.heap.size + 1) 37 E ∧ LB (xD.alloc (.cells #[.slice aD l.length cD] 22)) (w.heap.size + 2) 25 Z ∧ Below w.heap.size w (xD.alloc (.cells #[.slice aD l.length cD] 22)) ∧ w.heap.size + 2 < (xD.alloc (.cells #[.slice aD l.length cD] 22)).heap.size) := HKEEP.out _ _ H4.out (up0 _ _)
  have HCE : Hid ((xD.alloc (.cells #[.slice aD l.length cD] 22)).cell? ⟨xD.heap.size, 0, none⟩ = some (.slice aD l.length cD)) := by show _ = _; rw [World.cell?_alloc_new]; rfl
  have O5 : Hid (Own B (xD.alloc (.cells #[.slice aD l.length cD] 22)) (.slice aD l.length cD) l) := O4.out.kept (up0 _ _)
  refine hK.out _ _ (HD.out _ H5.out) (fun hH2 => ?_)
  clear hK K hH
  have hH := hH2
  clear hH2
 case' p2 =>
  refine AllReadyH.cons rfl (fun K hK => ?_) AllReadyH.nil
  go_simp
  refine (HBY.out _ H3.out.2.2.2.1).mono ?_
  rintro e xD ⟨aD, cD, rfl, oD, bD⟩
  have H4 : Hid (LB xD w.heap.size 25 C2 ∧ LB xD (w.heap.size + 1) 37 E ∧ LB xD (w.heap.size + 2) 25 Z ∧ Below w.heap.size w xD ∧ w.heap.size + 2 < xD.heap.size) := HKEEP.out _ _ H3.out bD
  have O4 : Hid (Own B xD (.slice aD l.length cD) l) := own_weak oD (Nat.le_trans hB H3.out.2.2.2.1.size)
  refine hK.out _ _ (HD.out _ H4.out) (fun hH2 => ?_)
  clear hK K hH
  have hH := hH2
  clear hH2
  clear bD oD
  refine wpAnyH_ready (rs := [1, 5]) (by kernel_rfl) (by simp) ?_
  refine AllReadyH.cons rfl (fun K hK => ?p3) ?p4
  case' p3 =>
   have cOb := H4.out.1.cell 11 (.slice h.ao S.outs.length h.co) (by rw [HC2.out]; rfl)
   go_simp
   refine hK.out _ _ (HD.out _ H4.out) (fun hH2 => ?_)
   clear hK K hH
   have hH := hH2
   clear hH2
   refine zqr 5 rfl (fun K hK => ?_)
   go_simp
   have H5 : Hid (LB (xD.alloc (.cells #[.slice aD l.length cD] 22)) w.heap.size 25 C2 ∧ LB (xD.alloc (.cells #[.slice aD l.length cD] 22)) (w.heap.size + 1) 37 E ∧ LB (xD.alloc (.cells #[.slice aD l.length cD] 22)) (w.heap.size + 2) 25 Z ∧ Below w.heap.size w (xD.alloc (.cells #[.slice aD l.length cD] 22)) ∧ w.heap.size + 2 < (xD.alloc (.cells #[.slice aD l.length cD] 22)).heap.size) := HKEEP.out _ _ H4.out (up0 _ _)
   have HCE : Hid ((xD.alloc (.cells #[.slice aD l.length cD] 22)).cell? ⟨xD.heap.size, 0, none⟩ = some (.slice aD l.length cD)) := by show _ = _; rw [World.cell?_alloc_new]; rfl
   have O5 : Hid (Own B (xD.alloc (.cells #[.slice aD l.length cD] 22)) (.slice aD l.length cD) l) := O4.out.kept (up0 _ _)
   refine hK.out _ _ (HD.out _ H5.out) (fun hH2 => ?_)
   clear hK K hH
   have hH := hH2
   clear hH2
  case' p4 =>
   refine AllReadyH.cons rfl (fun K hK => ?_) AllReadyH.nil
   go_simp
   have H5 : Hid (LB (xD.alloc (.cells #[.slice aD l.length cD] 22)) w.heap.size 25 C2 ∧ LB (xD.alloc (.cells #[.slice aD l.length cD] 22)) (w.heap.size + 1) 37 E ∧ LB (xD.alloc (.cells #[.slice aD l.length cD] 22)) (w.heap.size + 2) 25 Z ∧ Below w.heap.size w (xD.alloc (.cells #[.slice aD l.length cD] 22)) ∧ w.heap.size + 2 < (xD.alloc (.cells #[.slice aD l.length cD] 22)).heap.size) := HKEEP.out _ _ H4.out (up0 _ _)
   have HCE : Hid ((xD.alloc (.cells #[.slice aD l.length cD] 22)).cell? ⟨xD.heap.size, 0, none⟩ = some (.slice aD l.length cD)) := by show _ = _; rw [World.cell?_alloc_new]; rfl
   have O5 : Hid (Own B (xD.alloc (.cells #[.slice aD l.length cD] 22)) (.slice aD l.length cD) l) := O4.out.kept (up0 _ _)
   refine hK.out _ _ (HD.out _ H5.out) (fun hH2 => ?_)
   clear hK K hH
   have hH := hH2
   clear hH2
   refine zqr 1 rfl (fun K hK => ?_)
   have cOc := H5.out.1.cell 11 (.slice h.ao S.outs.length h.co) (by rw [HC2.out]; rfl)
   go_simp
   refine hK.out _ _ (HD.out _ H5.out) (fun hH2 => ?_)
   clear hK K hH
   have hH := hH2
   clear hH2
 all_goals
  refine zqr 6 rfl (fun K hK => ?_)
  refine step_push_at rfl (.tmp 33) (.tmp 37) 23 rfl B HIN.out Tryz.underlying23 (.slice h.ao S.outs.length h.co) vs rfl (HR0.out.1.kept H5.out.2.2.2.1) xD.heap.size (.slice aD l.length cD) rfl HCE.out rfl (by rw [HVL.out]; omega) (Nat.le_trans hB H5.out.2.2.2.1.size) ?_
  intro v' w' hrow hb' hgr hat
  have HAT : Hid (∀ g, v'.ownBlock = some g → (Value.slice h.ao S.outs.length h.co).ownBlock = some g ∨ w.heap.size ≤ g) := fun g e => by rcases hat with h9 | h9; (· rw [h9] at e; exact .inl e); (· rw [h9] at e; exact .inr (Nat.le_trans H5.out.2.2.2.1.size (Nat.le_of_eq (Option.some.inj e))))
  have HF : Hid _ := HFIN.out _ _ _ _ H5.out O5.out hrow hb' hgr
  have hrg : (Value.slice h.ao S.outs.length h.co).ownBlock ≠ some w.heap.size := fun e => Nat.lt_irrefl _ (HRB.out _ e)
  have hrg1 : (Value.slice h.ao S.outs.length h.co).ownBlock ≠ some (w.heap.size + 1) := fun e => by have := HRB.out _ e; omega
  have hLg : LB w' w.heap.size 25 C2 := (hgr.block _ H5.out.1.lt (Ne.symm hrg)).trans H5.out.1
  have hLe : LB w' (w.heap.size + 1) 37 E := (hgr.block _ H5.out.2.1.lt (Ne.symm hrg1)).trans H5.out.2.1
  have cg := hLg.cell 11 (.slice h.ao S.outs.length h.co) (by rw [HC2.out]; rfl)
  have fg := hLg.free 11
  obtain ⟨a9, c9, e9⟩ : ∃ a c, v' = .slice a (S.outs.length + 1) c := by
   rcases Row.shape hrow with ⟨_, e⟩ | ⟨g9, c9, e, _⟩
   ·simp at e
   ·exact ⟨some ⟨g9, 0, none⟩, c9, by rw [e]; simp [HVL.out]⟩
  subst e9
  have hS2 : (w'.setCell ⟨w.heap.size, 11, none⟩ (.slice a9 (S.outs.length + 1) c9)).cell? ⟨w.heap.size + 1, 11, none⟩ = some (.slice ad l.length cd) := (hLe.other _ _ (show w.heap.size + 1 ≠ w.heap.size by omega)).cell 11 _ (by rw [HE2.out]; rfl)
  have HS2 : Hid _ := hS2
  refine hK.out _ _ (hLe.cell 11 _ (by rw [HE2.out]; rfl)) (fun hH2 => ?_)
  clear hK K hH
  have hH := hH2
  clear hH2
  clear hrow hb' hgr hat hrg hrg1 hLg hLe hS2 H3 H4 H5 O4 O5 HCE HKEEP HFIN HBY
  simp only [zq]
  refine zqk 7 rfl hH ?_
  simp only [zq]
  refine zqr 8 rfl (fun K hK => ?_)
  go_simp
  refine hK.out _ _ HS2.out (fun hH2 => ?_)
  clear hK K hH
  have hH := hH2
  clear hH2
  refine wpAnyH_done (by kernel_rfl) ?_ _
  clear hH HS2 cg fg
  obtain ⟨M, hM, hML, hME⟩ := sv_letter { S with x := { S.x with la := x.a, fl := false, tr := 0, nx := S.x.nx + 1 }, outs := S.outs ++ [l] } { h with ao := a9, co := c9 }
  have HMV : Hid (sv { S with x := { S.x with la := x.a, fl := false, tr := 0, nx := S.x.nx + 1 }, outs := S.outs ++ [l] } { h with ao := a9, co := c9 } = .agg M.toArray) := hM
  have HML : Hid _ := hML
  have HME : Hid (C2.set 11 (.slice a9 (S.outs.length + 1) c9) = M) := by show _ = _; rw [HC2.out, hME]; simp [scl]
  have HM1 : Hid (∀ v ∈ M, v.oneCell' = true) := by show ∀ v ∈ M, _; rw [hME]; exact scl_one _ _
  have HMZ : Hid (M.length = Z.length) := by show _ = _; rw [hME, HZL.out]; rfl
  clear hM hML hME
  rw [HME.out] at HF
  obtain ⟨X, hX⟩ : ∃ X, w'.setCell ⟨w.heap.size, 11, none⟩ (.slice a9 (S.outs.length + 1) c9) = X := ⟨_, rfl⟩
  rw [hX] at HF
  try rw [hX]
  clear hX
  go_wp2_with (first | (refine wpList_load_mid rfl 25 _ rfl w.heap.size 0 rfl M _ HF.out.1.range Tryz.underlying25 rfl HML.out ?_) | (refine wpList_store_mid rfl 25 (.tmp 4) (.tmp 78) rfl (w.heap.size + 2) 0 M.toArray rfl rfl (there_of HF.out.2.1 (by simpa using HMZ.out)) (by simpa using HML.out) (all_oneCell_toArray HM1.out) ?_; (rw [List.toList_toArray])) | fail)
  have HR9 : Hid ((X.setCells (w.heap.size + 2) 0 M).rangeAt (w.heap.size + 2) 0 M) := (HF.out.2.1.sets M HMZ.out).range
  have hOZ : OwnP B (X.setCells (w.heap.size + 2) 0 M) (.slice a9 (S.outs.length + 1) c9) (S.outs ++ [l]) := ownp_oth HF.out.2.2.1 HF.out.2.1 (by decide) (by decide) (Oth.sets _ _ _ _)
  refine bodyPost_ret (results_cell_mid rfl _ (X.setCells (w.heap.size + 2) 0 M) (w.heap.size + 2) M _ rfl HR9.out Tryz.underlying25 rfl HML.out) rfl ?_
  exact ⟨a9, c9, by rw [HMV.out], hOZ, below_cells (by omega) _ 0 _ HF.out.2.2.2.1, fun b h1 h2 => (cells_other _ _ _ _ _ (by omega)).trans (HF.out.2.2.2.2.1 b h1 h2), HAT.out⟩
theorem rxlight_6 (S : Sg) (h : SH) (x : Nums) (nm : ByteArray) (d : Value) (l : List Nat) (w : World) (B : Nat) (hR : OwnP B w (.slice h.au S.und.length h.cu) S.und) (hB : B ≤ w.heap.size) (hb : Bs w d l) (hlen : l.length ≤ 16384) (hk : x.k = 6) (hn : 0 ≤ S.x.nx ∧ S.x.nx ≤ 32) (hs : S.und.length ≤ 100) : Calls Tryz.prog 96 #[sv S h, rv x nm d] w fun e w' => ∃ a, ∃ c : Nat, e = .returned (sv { S with x := { S.x with la := x.a, fl := false, tr := 0, nx := S.x.nx - 1 }, und := S.und ++ [l] } { h with au := a, cu := c }) ∧ OwnP B w' (.slice a (S.und.length + 1) c) (S.und ++ [l]) ∧ Below B w w' ∧ FrB (Value.slice h.au S.und.length h.cu).ownBlock w w' ∧ (∀ g, (Value.slice a (S.und.length + 1) c).ownBlock = some g → (Value.slice h.au S.und.length h.cu).ownBlock = some g ∨ w.heap.size ≤ g) := by
 obtain ⟨ad, cd, rfl, _⟩ := hb.shape
 have HBY : Hid (∀ w', Below w.heap.size w w' → Calls Tryz.prog 50 #[.slice ad l.length cd] w' fun e w'' => ∃ a, ∃ c : Nat, e = .returned (.slice a l.length c) ∧ Own w'.heap.size w'' (.slice a l.length c) l ∧ Below w'.heap.size w' w'') := fun w' hb' => rxbytes_any _ l w' (hb.kept hb') (by omega)
 have HIN : Hid ((Tryz.prog.info? 22).map (fun i => (i.zero, i.size, i.bytes)) = some (some (.slice none 0 0), 1, 24)) := info22
 have i1 : IntKind.i64.wrap (S.x.nx - 1) = S.x.nx - 1 := IntWalk.i64_in _ (by omega)
 obtain ⟨vs, hr, hvl, hve⟩ := hR
 have HVL : Hid (vs.length = S.und.length) := hvl
 have HR0 : Hid (Row B w (.slice h.au S.und.length h.cu) vs ∧ ∀ j (h : j < vs.length) (h2 : j < S.und.length), Own B w vs[j] S.und[j]) := ⟨hr, hve⟩
 have HRB : Hid (∀ g, (Value.slice h.au S.und.length h.cu).ownBlock = some g → g < w.heap.size) := fun g e => (row_block hr g e).2
 clear hb hr hvl hve
 obtain ⟨Z, hZ⟩ : ∃ Z, Z = zcl := ⟨_, rfl⟩
 have HZ : Hid (Z = zcl) := hZ
 have HZL : Hid (Z.length = 16) := by show _ = _; rw [hZ]; rfl
 obtain ⟨D, hD, hL, hE⟩ := sv_letter S h
 obtain ⟨E, hD2, hL2, hE2⟩ := rv_letter x nm (.slice ad l.length cd)
 rw [hD, hD2]
 have HE : Hid (D = scl S h) := hE
 have HE2 : Hid (E = rcE x nm (.slice ad l.length cd)) := hE2
 have HX : Hid (LB (((w.alloc (.cells D.toArray 25)).alloc (.cells E.toArray 37)).alloc (.cells Z.toArray 25)) w.heap.size 25 D ∧ LB (((w.alloc (.cells D.toArray 25)).alloc (.cells E.toArray 37)).alloc (.cells Z.toArray 25)) (w.heap.size + 1) 37 E ∧ LB (((w.alloc (.cells D.toArray 25)).alloc (.cells E.toArray 37)).alloc (.cells Z.toArray 25)) (w.heap.size + 2) 25 Z ∧ Below w.heap.size w (((w.alloc (.cells D.toArray 25)).alloc (.cells E.toArray 37)).alloc (.cells Z.toArray 25))) := lb_new3 w D E Z _ _ _
 clear hD hL hE hD2 hL2 hE2 hZ
 go_enter Tryz.func96, Tryz.ntmps96
 go_wp2_with (first | (refine wpList_alloc_Z HZ.out rfl rfl ?_; (try simp only [heap_one]); (obtain ⟨W1, hW1⟩ : ∃ W1, ((w.alloc (.cells D.toArray 25)).alloc (.cells E.toArray 37)).alloc (.cells Z.toArray 25) = W1 := ⟨_, rfl⟩); (rw [hW1] at HX ⊢); (clear hW1); (have r5 := HX.out.2.1.cell 5 (.int .i64 x.a) (by rw [HE2.out]; rfl)); (have r1 := HX.out.2.1.cell 1 (.int .i64 6) (by rw [HE2.out, ← hk]; rfl)); (have c5 := HX.out.1.cell 5 (.int .i64 S.x.la) (by rw [HE.out]; rfl)); (have f5 := HX.out.1.free 5); (have c9 := HX.out.1.cell 9 (.bool S.x.fl) (by rw [HE.out]; rfl)); (have f9 := HX.out.1.free 9); (have c8 := HX.out.1.cell 8 (.int .i64 S.x.nx) (by rw [HE.out]; rfl)); (have f8 := HX.out.1.free 8); (have c10 := HX.out.1.cell 10 (.int .i64 S.x.tr) (by rw [HE.out]; rfl)); (have f10 := HX.out.1.free 10)) | fail)
 obtain ⟨C2, hC2⟩ : ∃ C2, ((((D.set 5 (.int .i64 x.a)).set 9 (.bool false)).set 8 (.int .i64 (S.x.nx - 1))).set 10 (.int .i64 0)) = C2 := ⟨_, rfl⟩
 have HC2 : Hid (C2 = scl { S with x := { S.x with la := x.a, fl := false, tr := 0, nx := S.x.nx - 1 } } h) := by show _ = _; rw [← hC2, HE.out]; rfl
 obtain ⟨W2, hW2⟩ : ∃ W2, ((((W1.setCell ⟨w.heap.size, 5, none⟩ (.int .i64 x.a)).setCell ⟨w.heap.size, 9, none⟩ (.bool false)).setCell ⟨w.heap.size, 8, none⟩ (.int .i64 (S.x.nx - 1))).setCell ⟨w.heap.size, 10, none⟩ (.int .i64 0)) = W2 := ⟨_, rfl⟩
 have H2 : Hid (LB W2 w.heap.size 25 C2 ∧ LB W2 (w.heap.size + 1) 37 E ∧ LB W2 (w.heap.size + 2) 25 Z ∧ Below w.heap.size w W2 ∧ w.heap.size + 2 < W2.heap.size) := by rw [← hW2, ← hC2]; exact ⟨((((HX.out.1.set _ _).set _ _).set _ _).set _ _), ((((HX.out.2.1.other _ _ (show w.heap.size + 1 ≠ w.heap.size by omega)).other _ _ (show w.heap.size + 1 ≠ w.heap.size by omega)).other _ _ (show w.heap.size + 1 ≠ w.heap.size by omega)).other _ _ (show w.heap.size + 1 ≠ w.heap.size by omega)), ((((HX.out.2.2.1.other _ _ (show w.heap.size + 2 ≠ w.heap.size by omega)).other _ _ (show w.heap.size + 2 ≠ w.heap.size by omega)).other _ _ (show w.heap.size + 2 ≠ w.heap.size by omega)).other _ _ (show w.heap.size + 2 ≠ w.heap.size by omega)), (Below.setCell (Below.setCell (Below.setCell (Below.setCell HX.out.2.2.2 (Nat.le_refl _) _) (Nat.le_refl _) _) (Nat.le_refl _) _) (Nat.le_refl _) _), ((((HX.out.2.2.1.other _ _ (show w.heap.size + 2 ≠ w.heap.size by omega)).other _ _ (show w.heap.size + 2 ≠ w.heap.size by omega)).other _ _ (show w.heap.size + 2 ≠ w.heap.size by omega)).other _ _ (show w.heap.size + 2 ≠ w.heap.size by omega)).lt⟩
 rw [hW2]
 clear hW2 hC2 HX c5 f5 c9 f9 c10 f10 c8 f8 r5 r1
 have HKEEP : Hid (∀ W W' : World, (LB W w.heap.size 25 C2 ∧ LB W (w.heap.size + 1) 37 E ∧ LB W (w.heap.size + 2) 25 Z ∧ Below w.heap.size w W ∧ w.heap.size + 2 < W.heap.size) → Below W.heap.size W W' → (LB W' w.heap.size 25 C2 ∧ LB W' (w.heap.size + 1) 37 E ∧ LB W' (w.heap.size + 2) 25 Z ∧ Below w.heap.size w W' ∧ w.heap.size + 2 < W'.heap.size)) := fun W W' H b9 => ⟨H.1.kept b9, H.2.1.kept b9, H.2.2.1.kept b9, andThen H.2.2.2.1 b9, Nat.lt_of_lt_of_le H.2.2.2.2 b9.size⟩
 have HFIN : Hid (∀ (W W' : World) (v' u : Value), (LB W w.heap.size 25 C2 ∧ LB W (w.heap.size + 1) 37 E ∧ LB W (w.heap.size + 2) 25 Z ∧ Below w.heap.size w W ∧ w.heap.size + 2 < W.heap.size) → Own B W u l → Row B W' v' (vs ++ [u]) → Below B W W' → W.grownBy W' (Value.slice h.au S.und.length h.cu).ownBlock → LB (W'.setCell ⟨w.heap.size, 12, none⟩ v') w.heap.size 25 (C2.set 12 v') ∧ LB (W'.setCell ⟨w.heap.size, 12, none⟩ v') (w.heap.size + 2) 25 Z ∧ OwnP B (W'.setCell ⟨w.heap.size, 12, none⟩ v') v' (S.und ++ [l]) ∧ Below B w (W'.setCell ⟨w.heap.size, 12, none⟩ v') ∧ FrB (Value.slice h.au S.und.length h.cu).ownBlock w (W'.setCell ⟨w.heap.size, 12, none⟩ v') ∧ w.heap.size + 2 < (W'.setCell ⟨w.heap.size, 12, none⟩ v').heap.size) := by
  intro W W' v' u H hu hrow hb' hgr
  have hR1 := HR0.out.1.kept H.2.2.2.1
  have hR2 : ∀ j (h : j < vs.length) (h2 : j < S.und.length), Own B W vs[j] S.und[j] := fun j a b => (HR0.out.2 j a b).kept H.2.2.2.1
  have hrg : (Value.slice h.au S.und.length h.cu).ownBlock ≠ some w.heap.size := fun e => Nat.lt_irrefl _ (HRB.out _ e)
  have hrg2 : (Value.slice h.au S.und.length h.cu).ownBlock ≠ some (w.heap.size + 2) := fun e => by have := HRB.out _ e; omega
  have hpush := OwnP.push hR1 HVL.out hR2 hu hrow hgr
  have hLg : LB W' w.heap.size 25 C2 := (hgr.block _ H.1.lt (Ne.symm hrg)).trans H.1
  have hLz : LB W' (w.heap.size + 2) 25 Z := (hgr.block _ H.2.2.1.lt (Ne.symm hrg2)).trans H.2.2.1
  have hrow2 : v'.ownBlock ≠ some w.heap.size := fun e => by obtain ⟨cs, z, h9⟩ := row_typed hrow _ e; rw [hLg] at h9; simp at h9
  refine ⟨hLg.set 12 v', hLz.other _ _ (show w.heap.size + 2 ≠ w.heap.size by omega), ?_, Below.setCell ((H.2.2.2.1.mono hB).trans hb') hB _, fun b h1 h2 => ?_, hLz.other _ _ (show w.heap.size + 2 ≠ w.heap.size by omega) |>.lt⟩
  ·obtain ⟨us, u1, u2, u3⟩ := hpush
   refine ⟨us, row_kept2 u1 (fun b e => set_other _ _ _ _ (fun e2 => hrow2 (by rw [e]; exact congrArg some e2))), u2, fun j a b => own_keptB (u3 j a b) (fun c e => set_other _ _ _ _ (fun e2 => ?_))⟩
   rcases (u3 j a b).row.2 with ⟨e3, _⟩ | ⟨g', cap, cur, e3, _, hg', _⟩
   ·rw [e3] at e; simp [Value.ownBlock] at e
   ·rw [e3] at e; simp [Value.ownBlock] at e; subst e; have e2' : g' = w.heap.size := e2; subst e2'; rw [hLg] at hg'; simp at hg'
  ·rw [set_other _ _ _ _ (show b ≠ w.heap.size by omega), hgr.block b (by have := H.2.2.2.2; omega) (Ne.symm h2)]
   exact H.2.2.2.1.block b h1
 skip
 refine wp_region_held_drew (S := fun w' : World => w'.cell? ⟨w.heap.size + 1, 11, none⟩ = some (.slice ad l.length cd)) (by kernel_rfl) ((H2.out.2.1.kept (Below.drew (Below.refl _ _))).cell 11 _ (by rw [HE2.out]; rfl)) (fun hH => ?_)
 have H3 : Hid (LB W2.drew w.heap.size 25 C2 ∧ LB W2.drew (w.heap.size + 1) 37 E ∧ LB W2.drew (w.heap.size + 2) 25 Z ∧ Below w.heap.size w W2.drew ∧ w.heap.size + 2 < W2.drew.heap.size) := HKEEP.out _ _ H2.out (Below.drew (Below.refl _ _))
 clear H2
 generalize W2.drew = V1 at *
 have HD : Hid (∀ W, (LB W w.heap.size 25 C2 ∧ LB W (w.heap.size + 1) 37 E ∧ LB W (w.heap.size + 2) 25 Z ∧ Below w.heap.size w W ∧ w.heap.size + 2 < W.heap.size) → W.cell? ⟨w.heap.size + 1, 11, none⟩ = some (.slice ad l.length cd)) := fun W H => H.2.1.cell 11 _ (by rw [HE2.out]; rfl)
 refine zqk 0 rfl hH ?_
 simp only [zq]
 refine zqk 2 rfl hH ?_
 simp only [zq]
 refine zqk 3 rfl hH ?_
 simp only [zq]
 refine wpAnyH_ready (rs := [1, 4]) (by kernel_rfl) (by simp) ?_
 refine AllReadyH.cons rfl (fun K hK => ?p1) ?p2
 case' p1 =>
  have cOa := H3.out.1.cell 12 (.slice h.au S.und.length h.cu) (by rw [HC2.out]; rfl)
  go_simp
  refine hK.out _ _ (HD.out _ H3.out) (fun hH2 => ?_)
  clear hK K hH
  have hH := hH2
  clear hH2
  refine zqr 4 rfl (fun K hK => ?_)
  go_simp
  refine (HBY.out _ H3.out.2.2.2.1).mono ?_
  rintro e xD ⟨aD, cD, rfl, oD, bD⟩
  have H4 : Hid (LB xD w.heap.size 25 C2 ∧ LB xD (w.heap.size + 1) 37 E ∧ LB xD (w.heap.size + 2) 25 Z ∧ Below w.heap.size w xD ∧ w.heap.size + 2 < xD.heap.size) := HKEEP.out _ _ H3.out bD
  have O4 : Hid (Own B xD (.slice aD l.length cD) l) := own_weak oD (Nat.le_trans hB H3.out.2.2.2.1.size)
  refine hK.out _ _ (HD.out _ H4.out) (fun hH2 => ?_)
  clear hK K hH
  have hH := hH2
  clear hH2
  clear bD oD
  refine zqr 5 rfl (fun K hK => ?_)
  go_simp
  have H5 : Hid (LB (xD.alloc (.cells #[.slice aD l.length cD] 22)) w.heap.size 25 C2 ∧ LB (xD.alloc (.cells #[.slice aD l.length cD] 22)) (w.heap.size + 1) 37 E ∧ LB (xD.alloc (.cells #[.slice aD l.length cD] 22)) (w.heap.size + 2) 25 Z ∧ Below w.heap.size w (xD.alloc (.cells #[.slice aD l.length cD] 22)) ∧ w.heap.size + 2 < (xD.alloc (.cells #[.slice aD l.length cD] 22)).heap.size) := HKEEP.out _ _ H4.out (up0 _ _)
  have HCE : Hid ((xD.alloc (.cells #[.slice aD l.length cD] 22)).cell? ⟨xD.heap.size, 0, none⟩ = some (.slice aD l.length cD)) := by show _ = _; rw [World.cell?_alloc_new]; rfl
  have O5 : Hid (Own B (xD.alloc (.cells #[.slice aD l.length cD] 22)) (.slice aD l.length cD) l) := O4.out.kept (up0 _ _)
  refine hK.out _ _ (HD.out _ H5.out) (fun hH2 => ?_)
  clear hK K hH
  have hH := hH2
  clear hH2
 case' p2 =>
  refine AllReadyH.cons rfl (fun K hK => ?_) AllReadyH.nil
  go_simp
  refine (HBY.out _ H3.out.2.2.2.1).mono ?_
  rintro e xD ⟨aD, cD, rfl, oD, bD⟩
  have H4 : Hid (LB xD w.heap.size 25 C2 ∧ LB xD (w.heap.size + 1) 37 E ∧ LB xD (w.heap.size + 2) 25 Z ∧ Below w.heap.size w xD ∧ w.heap.size + 2 < xD.heap.size) := HKEEP.out _ _ H3.out bD
  have O4 : Hid (Own B xD (.slice aD l.length cD) l) := own_weak oD (Nat.le_trans hB H3.out.2.2.2.1.size)
  refine hK.out _ _ (HD.out _ H4.out) (fun hH2 => ?_)
  clear hK K hH
  have hH := hH2
  clear hH2
  clear bD oD
  refine wpAnyH_ready (rs := [1, 5]) (by kernel_rfl) (by simp) ?_
  refine AllReadyH.cons rfl (fun K hK => ?p3) ?p4
  case' p3 =>
   have cOb := H4.out.1.cell 12 (.slice h.au S.und.length h.cu) (by rw [HC2.out]; rfl)
   go_simp
   refine hK.out _ _ (HD.out _ H4.out) (fun hH2 => ?_)
   clear hK K hH
   have hH := hH2
   clear hH2
   refine zqr 5 rfl (fun K hK => ?_)
   go_simp
   have H5 : Hid (LB (xD.alloc (.cells #[.slice aD l.length cD] 22)) w.heap.size 25 C2 ∧ LB (xD.alloc (.cells #[.slice aD l.length cD] 22)) (w.heap.size + 1) 37 E ∧ LB (xD.alloc (.cells #[.slice aD l.length cD] 22)) (w.heap.size + 2) 25 Z ∧ Below w.heap.size w (xD.alloc (.cells #[.slice aD l.length cD] 22)) ∧ w.heap.size + 2 < (xD.alloc (.cells #[.slice aD l.length cD] 22)).heap.size) := HKEEP.out _ _ H4.out (up0 _ _)
   have HCE : Hid ((xD.alloc (.cells #[.slice aD l.length cD] 22)).cell? ⟨xD.heap.size, 0, none⟩ = some (.slice aD l.length cD)) := by show _ = _; rw [World.cell?_alloc_new]; rfl
   have O5 : Hid (Own B (xD.alloc (.cells #[.slice aD l.length cD] 22)) (.slice aD l.length cD) l) := O4.out.kept (up0 _ _)
   refine hK.out _ _ (HD.out _ H5.out) (fun hH2 => ?_)
   clear hK K hH
   have hH := hH2
   clear hH2
  case' p4 =>
   refine AllReadyH.cons rfl (fun K hK => ?_) AllReadyH.nil
   go_simp
   have H5 : Hid (LB (xD.alloc (.cells #[.slice aD l.length cD] 22)) w.heap.size 25 C2 ∧ LB (xD.alloc (.cells #[.slice aD l.length cD] 22)) (w.heap.size + 1) 37 E ∧ LB (xD.alloc (.cells #[.slice aD l.length cD] 22)) (w.heap.size + 2) 25 Z ∧ Below w.heap.size w (xD.alloc (.cells #[.slice aD l.length cD] 22)) ∧ w.heap.size + 2 < (xD.alloc (.cells #[.slice aD l.length cD] 22)).heap.size) := HKEEP.out _ _ H4.out (up0 _ _)
   have HCE : Hid ((xD.alloc (.cells #[.slice aD l.length cD] 22)).cell? ⟨xD.heap.size, 0, none⟩ = some (.slice aD l.length cD)) := by show _ = _; rw [World.cell?_alloc_new]; rfl
   have O5 : Hid (Own B (xD.alloc (.cells #[.slice aD l.length cD] 22)) (.slice aD l.length cD) l) := O4.out.kept (up0 _ _)
   refine hK.out _ _ (HD.out _ H5.out) (fun hH2 => ?_)
   clear hK K hH
   have hH := hH2
   clear hH2
   refine zqr 1 rfl (fun K hK => ?_)
   have cOc := H5.out.1.cell 12 (.slice h.au S.und.length h.cu) (by rw [HC2.out]; rfl)
   go_simp
   refine hK.out _ _ (HD.out _ H5.out) (fun hH2 => ?_)
   clear hK K hH
   have hH := hH2
   clear hH2
 all_goals
  refine zqr 6 rfl (fun K hK => ?_)
  refine step_push_at rfl (.tmp 65) (.tmp 69) 23 rfl B HIN.out Tryz.underlying23 (.slice h.au S.und.length h.cu) vs rfl (HR0.out.1.kept H5.out.2.2.2.1) xD.heap.size (.slice aD l.length cD) rfl HCE.out rfl (by rw [HVL.out]; omega) (Nat.le_trans hB H5.out.2.2.2.1.size) ?_
  intro v' w' hrow hb' hgr hat
  have HAT : Hid (∀ g, v'.ownBlock = some g → (Value.slice h.au S.und.length h.cu).ownBlock = some g ∨ w.heap.size ≤ g) := fun g e => by rcases hat with h9 | h9; (· rw [h9] at e; exact .inl e); (· rw [h9] at e; exact .inr (Nat.le_trans H5.out.2.2.2.1.size (Nat.le_of_eq (Option.some.inj e))))
  have HF : Hid _ := HFIN.out _ _ _ _ H5.out O5.out hrow hb' hgr
  have hrg : (Value.slice h.au S.und.length h.cu).ownBlock ≠ some w.heap.size := fun e => Nat.lt_irrefl _ (HRB.out _ e)
  have hrg1 : (Value.slice h.au S.und.length h.cu).ownBlock ≠ some (w.heap.size + 1) := fun e => by have := HRB.out _ e; omega
  have hLg : LB w' w.heap.size 25 C2 := (hgr.block _ H5.out.1.lt (Ne.symm hrg)).trans H5.out.1
  have hLe : LB w' (w.heap.size + 1) 37 E := (hgr.block _ H5.out.2.1.lt (Ne.symm hrg1)).trans H5.out.2.1
  have cg := hLg.cell 12 (.slice h.au S.und.length h.cu) (by rw [HC2.out]; rfl)
  have fg := hLg.free 12
  obtain ⟨a9, c9, e9⟩ : ∃ a c, v' = .slice a (S.und.length + 1) c := by
   rcases Row.shape hrow with ⟨_, e⟩ | ⟨g9, c9, e, _⟩
   ·simp at e
   ·exact ⟨some ⟨g9, 0, none⟩, c9, by rw [e]; simp [HVL.out]⟩
  subst e9
  have hS2 : (w'.setCell ⟨w.heap.size, 12, none⟩ (.slice a9 (S.und.length + 1) c9)).cell? ⟨w.heap.size + 1, 11, none⟩ = some (.slice ad l.length cd) := (hLe.other _ _ (show w.heap.size + 1 ≠ w.heap.size by omega)).cell 11 _ (by rw [HE2.out]; rfl)
  have HS2 : Hid _ := hS2
  refine hK.out _ _ (hLe.cell 11 _ (by rw [HE2.out]; rfl)) (fun hH2 => ?_)
  clear hK K hH
  have hH := hH2
  clear hH2
  clear hrow hb' hgr hat hrg hrg1 hLg hLe hS2 H3 H4 H5 O4 O5 HCE HKEEP HFIN HBY
  simp only [zq]
  refine zqk 7 rfl hH ?_
  simp only [zq]
  refine zqr 8 rfl (fun K hK => ?_)
  go_simp
  refine hK.out _ _ HS2.out (fun hH2 => ?_)
  clear hK K hH
  have hH := hH2
  clear hH2
  refine wpAnyH_done (by kernel_rfl) ?_ _
  clear hH HS2 cg fg
  obtain ⟨M, hM, hML, hME⟩ := sv_letter { S with x := { S.x with la := x.a, fl := false, tr := 0, nx := S.x.nx - 1 }, und := S.und ++ [l] } { h with au := a9, cu := c9 }
  have HMV : Hid (sv { S with x := { S.x with la := x.a, fl := false, tr := 0, nx := S.x.nx - 1 }, und := S.und ++ [l] } { h with au := a9, cu := c9 } = .agg M.toArray) := hM
  have HML : Hid _ := hML
  have HME : Hid (C2.set 12 (.slice a9 (S.und.length + 1) c9) = M) := by show _ = _; rw [HC2.out, hME]; simp [scl]
  have HM1 : Hid (∀ v ∈ M, v.oneCell' = true) := by show ∀ v ∈ M, _; rw [hME]; exact scl_one _ _
  have HMZ : Hid (M.length = Z.length) := by show _ = _; rw [hME, HZL.out]; rfl
  clear hM hML hME
  rw [HME.out] at HF
  obtain ⟨X, hX⟩ : ∃ X, w'.setCell ⟨w.heap.size, 12, none⟩ (.slice a9 (S.und.length + 1) c9) = X := ⟨_, rfl⟩
  rw [hX] at HF
  try rw [hX]
  clear hX
  go_wp2_with (first | (refine wpList_load_mid rfl 25 _ rfl w.heap.size 0 rfl M _ HF.out.1.range Tryz.underlying25 rfl HML.out ?_) | (refine wpList_store_mid rfl 25 (.tmp 4) (.tmp 78) rfl (w.heap.size + 2) 0 M.toArray rfl rfl (there_of HF.out.2.1 (by simpa using HMZ.out)) (by simpa using HML.out) (all_oneCell_toArray HM1.out) ?_; (rw [List.toList_toArray])) | fail)
  have HR9 : Hid ((X.setCells (w.heap.size + 2) 0 M).rangeAt (w.heap.size + 2) 0 M) := (HF.out.2.1.sets M HMZ.out).range
  have hOZ : OwnP B (X.setCells (w.heap.size + 2) 0 M) (.slice a9 (S.und.length + 1) c9) (S.und ++ [l]) := ownp_oth HF.out.2.2.1 HF.out.2.1 (by decide) (by decide) (Oth.sets _ _ _ _)
  refine bodyPost_ret (results_cell_mid rfl _ (X.setCells (w.heap.size + 2) 0 M) (w.heap.size + 2) M _ rfl HR9.out Tryz.underlying25 rfl HML.out) rfl ?_
  exact ⟨a9, c9, by rw [HMV.out], hOZ, below_cells (by omega) _ 0 _ HF.out.2.2.2.1, fun b h1 h2 => (cells_other _ _ _ _ _ (by omega)).trans (HF.out.2.2.2.2.1 b h1 h2), HAT.out⟩
end Go.Proofs.YtabdfafffjgfiaaGreatDoor
