/-
  PlanAllOrNothing: said.
-/
import Derived.Test.YtodcakplmoajiaaDoorHPk
namespace Go.Proofs.YtodcakplmoajiaaDoor
open Go Go.RowKit
open Wb

/-- the numbers of the record that the turn tells -/
def saidX (p : Pln) (S : Sg) (O cc : Int) : Nums :=
  if S.x.fl then (if O = 4 then ⟨0, 0, 0, 0, 0, 0, 0, 0, 0, 0⟩ else ansX p S O cc)
  else recQ (deedK S.x) S.x.id (if 1 ≤ deedK S.x ∧ deedK S.x ≤ 4 then S.x.turn else 0) (if deedK S.x = 1 ∨ deedK S.x = 3 then S.x.nextTry else if deedK S.x = 2 ∨ deedK S.x = 4 then S.x.tr else 0)
theorem deed_flight {S : Sg} (hl : S.x.fl = false) : ¬(deedK S.x = 2 ∨ deedK S.x = 4) := by
  unfold deedK; rw [hl]; split <;> (try split) <;> (try split) <;> (try split) <;> simp_all
set_option maxRecDepth 100000 in
set_option maxHeartbeats 8000000 in
theorem psaid_0 (p : Pln) (v : Value) (S : Sg) (h : SH) (O cc : Int) (d : Value) (l : List Nat) (w : World) (a : PA w p v S h) (hb : Bs w d l) (hf : fitP p S = 0) (hfl : S.x.fl = false) : Calls Tryd.prog 11 #[plv p v, sv S h, .agg (anl O cc d).toArray] w fun e w' => ∃ a' n' c', e = .returned (rv (saidX p S O cc) ⟨#[]⟩ (.slice a' n' c')) ∧ Below w.heap.size w w' := by
  have HNX0 : ∀ w', Below w.heap.size w w' → Calls Tryd.prog 6 #[plv p v, sv S h] w' fun e w'' => e = .returned (.tuple #[nextV p S, .int .i64 0]) ∧ Below w'.heap.size w' w'' := fun w' hb => pnext_any p v S h w' (a.kept hb) hf
  obtain ⟨ZR, hZR⟩ : ∃ ZR, ZR = zrl := ⟨_, rfl⟩
  have HZR : Hid (ZR = zrl) := hZR
  have HZRL : Hid (ZR.length = 12) := by show _ = _; rw [hZR]; rfl
  clear hZR
  obtain ⟨M, hMM⟩ : ∃ M : List Value, M = actl (deedK S.x) S.x.id (if 1 ≤ deedK S.x ∧ deedK S.x ≤ 4 then S.x.turn else 0) (if deedK S.x = 1 ∨ deedK S.x = 3 then S.x.nextTry else if deedK S.x = 2 ∨ deedK S.x = 4 then S.x.tr else 0) (if 1 ≤ deedK S.x ∧ deedK S.x ≤ 4 then nameT p S else ⟨#[]⟩) := ⟨_, rfl⟩
  have hNV : nextV p S = .agg M.toArray := by rw [hMM]; rfl
  rw [hNV] at HNX0
  have HM5 : Hid (M.length = 5 ∧ (Tryd.prog.info? 31).map (·.size) = some M.length ∧ (∀ v ∈ M, v.oneCell' = true)) := by rw [hMM]; exact ⟨rfl, infoAct, actl_one _ _ _ _ _⟩
  have HK0 : Hid (M[0]? = some (.int .i64 (deedK S.x))) := by show _ = _; rw [hMM]; rfl
  have hk24 := deed_flight hfl
  obtain ⟨X, hX⟩ : ∃ X, X = saidX p S O cc := ⟨_, rfl⟩
  have HRE : Hid (∀ w', Calls Tryd.prog 20 #[.agg M.toArray] w' fun e w'' => e = .returned (rv X ⟨#[]⟩ (.slice none 0 0)) ∧ Below w'.heap.size w' w'') := fun w' => by
    have e9 : ¬(S.x.fl = true) := by rw [hfl]; decide
    rw [hX, hMM]; unfold saidX; rw [if_neg e9]; exact precord_any _ _ _ _ _ w'
  have e2 : (deedK S.x == 2) = false := by rw [beq_eq_false_iff_ne]; omega
  have e4 : (deedK S.x == 4) = false := by rw [beq_eq_false_iff_ne]; omega
  rw [← hX]
  generalize deedK S.x = KD at *
  obtain ⟨ad, cd, ed, -⟩ := hb.shape
  subst ed
  clear hMM hNV a hf hX hk24 hfl
  obtain ⟨C, hC, hM, hG⟩ := plv_letter p v
  obtain ⟨D, hD, hL, hE⟩ := sv_letter S h
  rw [hC, hD]
  try rw [hC] at HNX0
  try rw [hD] at HNX0
  have HNX : Hid _ := HNX0
  have HM : Hid _ := hM
  have HG : Hid (C = plvl p v) := hG
  have HL : Hid _ := hL
  have HE : Hid (D = scl S h) := hE
  clear hC hM hG hD hL hE HNX0
  go_enter Tryd.func11, Tryd.ntmps11
  go_upto_region 1 with (first | (refine wpList_alloc_R HZR.out rfl rfl ?_) | fail)
  rw [heap_one, heap_one, heap_one]
  obtain ⟨W, eW⟩ : ∃ W, W = (((w.alloc (.cells C.toArray 24)).alloc (.cells D.toArray 28)).alloc (.cells (anl O cc (.slice ad l.length cd)).toArray 39)).alloc (.cells ZR.toArray 50) := ⟨_, rfl⟩
  rw [← eW]
  have H0 : Hid (LB W w.heap.size 24 C ∧ LB W (w.heap.size + 1) 28 D ∧ Below w.heap.size w W ∧ LB W (w.heap.size + 1 + 1) 39 (anl O cc (.slice ad l.length cd)) ∧ LB W (w.heap.size + 1 + 1 + 1) 50 ZR) := by
    obtain ⟨q1, q2, q3, q4⟩ := lb_new3 w C D (anl O cc (.slice ad l.length cd)) 24 28 39
    rw [eW]
    exact ⟨q1.kept (up0 _ _), q2.kept (up0 _ _), andThen q4 (up0 _ _), q3.kept (up0 _ _), lb_new4 w C D _ _ _ _ _ _⟩
  clear eW
  generalize hg4 : w.heap.size + 1 + 1 + 1 = g4 at *
  generalize hg3 : w.heap.size + 1 + 1 = g3 at *
  have HG4 : Hid (w.heap.size ≤ g4) := by show _ ≤ _; omega
  clear hg3 hg4
  go_wp2_with (first | (refine wpList_load_mid rfl 24 _ rfl w.heap.size 0 rfl C _ H0.out.1.range Tryd.underlying24 rfl HM.out ?_) | (refine wpList_load_mid rfl 28 _ rfl (w.heap.size + 1) 0 rfl D _ H0.out.2.1.range Tryd.underlying28 rfl HL.out ?_) | fail)
  refine (HNX.out _ H0.out.2.2.1).mono ?_
  rintro e w1 ⟨rfl, b1⟩
  have HT9 : Hid ((w1.alloc (.cells #[.int .i64 0, .int .i64 0, .int .i64 0, .int .i64 0, .string ⟨#[]⟩] 31)).there w1.heap.size 0 M.toArray.size) := there_of (lb_new w1 [.int .i64 0, .int .i64 0, .int .i64 0, .int .i64 0, .string ⟨#[]⟩] _) (by simp [HM5.out.1])
  have E9 : Hid (∃ Y, Y = (w1.alloc (.cells #[.int .i64 0, .int .i64 0, .int .i64 0, .int .i64 0, .string ⟨#[]⟩] 31)).setCells w1.heap.size 0 M ∧ (LB Y w.heap.size 24 C ∧ LB Y (w.heap.size + 1) 28 D ∧ Below w.heap.size w Y ∧ LB Y g3 39 (anl O cc (.slice ad l.length cd)) ∧ LB Y g4 50 ZR) ∧ LB Y w1.heap.size 31 M) := by
    obtain ⟨q1, q2⟩ := one_boxQ w1 31 [.int .i64 0, .int .i64 0, .int .i64 0, .int .i64 0, .string ⟨#[]⟩] M HM5.out.1
    have z := H0.out
    have q3 := andThen b1 q2
    exact ⟨_, rfl, ⟨z.1.kept q3, z.2.1.kept q3, andThen z.2.2.1 q3, z.2.2.2.1.kept q3, z.2.2.2.2.kept q3⟩, q1⟩
  clear b1 H0 HNX
  go_wp2_with (first | (refine wpList_store_mid rfl 31 (.tmp 7) (.tmp 16) rfl w1.heap.size 0 M.toArray rfl rfl HT9.out (by simpa using HM5.out.2.1) (all_oneCell_toArray HM5.out.2.2) ?_; (obtain ⟨Y1, hY, hq⟩ := E9.out); (have H1 : Hid _ := hq); (have k0 := hq.2.cell 0 _ HK0.out); (rw [List.toList_toArray, ← hY]); (clear hY hq E9 HT9)) | (refine wpList_load_mid rfl 31 _ rfl w1.heap.size 0 rfl M _ H1.out.2.range Tryd.underlying31 rfl HM5.out.2.1 ?_) | fail)
  refine (HRE.out _).mono ?_
  rintro e w4 ⟨rfl, b4⟩
  obtain ⟨D4, hD, hL, hE⟩ := rv_letter X ⟨#[]⟩ (.slice none 0 0)
  rw [hD]
  have HD4 : Hid (rv X ⟨#[]⟩ (.slice none 0 0) = .agg D4.toArray) := hD
  have HDL4 : Hid _ := hL
  have HDO4 : Hid (∀ v ∈ D4, v.oneCell' = true) := by show ∀ v ∈ D4, _; rw [hE]; exact rcE_one _ _ _ rfl
  have HDZ4 : Hid (D4.length = ZR.length) := by show _ = _; rw [hE, HZRL.out]; rfl
  have H4 : Hid (Below w.heap.size w w4 ∧ LB w4 g4 50 ZR) := ⟨andThen H1.out.1.2.2.1 b4, H1.out.1.2.2.2.2.kept b4⟩
  clear hD hL hE b4 H1 HRE k0
  have HT5 : Hid (w4.there g4 0 D4.toArray.size) := there_of H4.out.2 (by simpa using HDZ4.out)
  have H5 : Hid (∀ Y, Y = w4.setCells g4 0 D4 → LB Y g4 50 D4 ∧ Below w.heap.size w Y) := fun Y hY => by
    rw [hY]
    exact ⟨H4.out.2.sets D4 HDZ4.out, below_cells HG4.out _ 0 _ H4.out.1⟩
  go_wp2_with (first | (refine wpList_store_mid rfl 50 (.tmp 6) (.tmp 36) rfl g4 0 D4.toArray rfl rfl HT5.out (by simpa using HDL4.out) (all_oneCell_toArray HDO4.out) ?_; (rw [List.toList_toArray])) | fail)
  refine bodyPost_ret (results_cell_mid rfl _ (w4.setCells g4 0 D4) g4 D4 _ rfl (H5.out _ rfl).1.range Tryd.underlying50 rfl HDL4.out) rfl ?_
  exact ⟨_, _, _, by rw [← HD4.out], (H5.out _ rfl).2⟩
set_option maxRecDepth 100000 in
set_option maxHeartbeats 8000000 in
theorem psaid_1 (p : Pln) (v : Value) (S : Sg) (h : SH) (O cc : Int) (d : Value) (l : List Nat) (w : World) (a : PA w p v S h) (hb : Bs w d l) (hf : fitP p S = 0) (hlen : l.length ≤ 16384) (hO : 1 ≤ O ∧ O ≤ 4) (hfl : S.x.fl = true) : Calls Tryd.prog 11 #[plv p v, sv S h, .agg (anl O cc d).toArray] w fun e w' => ∃ a' n' c', e = .returned (rv (saidX p S O cc) ⟨#[]⟩ (.slice a' n' c')) ∧ Below w.heap.size w w' := by
  have HNX0 : ∀ w', Below w.heap.size w w' → Calls Tryd.prog 6 #[plv p v, sv S h] w' fun e w'' => e = .returned (.tuple #[nextV p S, .int .i64 0]) ∧ Below w'.heap.size w' w'' := fun w' hb => pnext_any p v S h w' (a.kept hb) hf
  obtain ⟨ZR, hZR⟩ : ∃ ZR, ZR = zrl := ⟨_, rfl⟩
  have HZR : Hid (ZR = zrl) := hZR
  have HZRL : Hid (ZR.length = 12) := by show _ = _; rw [hZR]; rfl
  clear hZR
  obtain ⟨M, hMM⟩ : ∃ M : List Value, M = actl (deedK S.x) S.x.id (if 1 ≤ deedK S.x ∧ deedK S.x ≤ 4 then S.x.turn else 0) (if deedK S.x = 1 ∨ deedK S.x = 3 then S.x.nextTry else if deedK S.x = 2 ∨ deedK S.x = 4 then S.x.tr else 0) (if 1 ≤ deedK S.x ∧ deedK S.x ≤ 4 then nameT p S else ⟨#[]⟩) := ⟨_, rfl⟩
  have hNV : nextV p S = .agg M.toArray := by rw [hMM]; rfl
  rw [hNV] at HNX0
  have HM5 : Hid (M.length = 5 ∧ (Tryd.prog.info? 31).map (·.size) = some M.length ∧ (∀ v ∈ M, v.oneCell' = true)) := by rw [hMM]; exact ⟨rfl, infoAct, actl_one _ _ _ _ _⟩
  have HK0 : Hid (M[0]? = some (.int .i64 (deedK S.x))) := by show _ = _; rw [hMM]; rfl
  obtain ⟨X, hX⟩ : ∃ X, X = saidX p S O cc := ⟨_, rfl⟩
  have HAN0 : ∀ w', Below w.heap.size w w' → Calls Tryd.prog 22 #[plv p v, sv S h, .agg (anl O cc d).toArray] w' fun e w'' => ∃ a' n' c' B, e = .returned (.tuple #[rv X ⟨#[]⟩ (.slice a' n' c'), .bool B, .int .i64 0]) ∧ Below w'.heap.size w' w'' := fun w' hb' => by
    rw [hX]
    unfold saidX
    rw [if_pos hfl]
    by_cases h4 : O = 4
    · subst h4
      rw [if_pos rfl]
      exact (panswer_4 p v S h cc d l w' (a.kept hb') (hb.kept hb') hlen hf hfl).mono fun e w'' q => ⟨none, 0, 0, false, q.1, q.2⟩
    · rw [if_neg h4]
      refine (panswer_any p v S h O cc d l w' (a.kept hb') (hb.kept hb') hlen hf hfl (by omega)).mono fun e w'' q => ?_
      obtain ⟨d', e1, o1, b1⟩ := q
      obtain ⟨a8, c8, e8, -⟩ := o1.bs.shape
      subst e8
      exact ⟨_, _, _, true, e1, b1⟩
  have hkd : deedK S.x = 2 ∨ deedK S.x = 4 := by rcases flight_deed (pfits_iff hf).2.1 hfl with ⟨e, e2⟩ | ⟨e, e2⟩ <;> omega
  have e24 : (deedK S.x == 2) = true ∨ ((deedK S.x == 2) = false ∧ (deedK S.x == 4) = true) := by rcases hkd with e | e <;> rw [e] <;> decide
  rw [← hX]
  generalize deedK S.x = KD at *
  obtain ⟨ad, cd, ed, -⟩ := hb.shape
  subst ed
  clear hMM hNV a hf hX hfl hkd hlen hO
  obtain ⟨C, hC, hM, hG⟩ := plv_letter p v
  obtain ⟨D, hD, hL, hE⟩ := sv_letter S h
  rw [hC, hD]
  try rw [hC] at HNX0
  try rw [hD] at HNX0
  try rw [hC] at HAN0
  try rw [hD] at HAN0
  have HNX : Hid _ := HNX0
  have HAN : Hid _ := HAN0
  have HM : Hid _ := hM
  have HG : Hid (C = plvl p v) := hG
  have HL : Hid _ := hL
  have HE : Hid (D = scl S h) := hE
  clear hC hM hG hD hL hE HNX0 HAN0
  go_enter Tryd.func11, Tryd.ntmps11
  go_upto_region 1 with (first | (refine wpList_alloc_R HZR.out rfl rfl ?_) | fail)
  rw [heap_one, heap_one, heap_one]
  obtain ⟨W, eW⟩ : ∃ W, W = (((w.alloc (.cells C.toArray 24)).alloc (.cells D.toArray 28)).alloc (.cells (anl O cc (.slice ad l.length cd)).toArray 39)).alloc (.cells ZR.toArray 50) := ⟨_, rfl⟩
  rw [← eW]
  have H0 : Hid (LB W w.heap.size 24 C ∧ LB W (w.heap.size + 1) 28 D ∧ Below w.heap.size w W ∧ LB W (w.heap.size + 1 + 1) 39 (anl O cc (.slice ad l.length cd)) ∧ LB W (w.heap.size + 1 + 1 + 1) 50 ZR) := by
    obtain ⟨q1, q2, q3, q4⟩ := lb_new3 w C D (anl O cc (.slice ad l.length cd)) 24 28 39
    rw [eW]
    exact ⟨q1.kept (up0 _ _), q2.kept (up0 _ _), andThen q4 (up0 _ _), q3.kept (up0 _ _), lb_new4 w C D _ _ _ _ _ _⟩
  clear eW
  generalize hg4 : w.heap.size + 1 + 1 + 1 = g4 at *
  generalize hg3 : w.heap.size + 1 + 1 = g3 at *
  have HG4 : Hid (w.heap.size ≤ g4) := by show _ ≤ _; omega
  clear hg3 hg4
  go_wp2_with (first | (refine wpList_load_mid rfl 24 _ rfl w.heap.size 0 rfl C _ H0.out.1.range Tryd.underlying24 rfl HM.out ?_) | (refine wpList_load_mid rfl 28 _ rfl (w.heap.size + 1) 0 rfl D _ H0.out.2.1.range Tryd.underlying28 rfl HL.out ?_) | fail)
  refine (HNX.out _ H0.out.2.2.1).mono ?_
  rintro e w1 ⟨rfl, b1⟩
  have HT9 : Hid ((w1.alloc (.cells #[.int .i64 0, .int .i64 0, .int .i64 0, .int .i64 0, .string ⟨#[]⟩] 31)).there w1.heap.size 0 M.toArray.size) := there_of (lb_new w1 [.int .i64 0, .int .i64 0, .int .i64 0, .int .i64 0, .string ⟨#[]⟩] _) (by simp [HM5.out.1])
  have E9 : Hid (∃ Y, Y = (w1.alloc (.cells #[.int .i64 0, .int .i64 0, .int .i64 0, .int .i64 0, .string ⟨#[]⟩] 31)).setCells w1.heap.size 0 M ∧ (LB Y w.heap.size 24 C ∧ LB Y (w.heap.size + 1) 28 D ∧ Below w.heap.size w Y ∧ LB Y g3 39 (anl O cc (.slice ad l.length cd)) ∧ LB Y g4 50 ZR) ∧ LB Y w1.heap.size 31 M) := by
    obtain ⟨q1, q2⟩ := one_boxQ w1 31 [.int .i64 0, .int .i64 0, .int .i64 0, .int .i64 0, .string ⟨#[]⟩] M HM5.out.1
    have z := H0.out
    have q3 := andThen b1 q2
    exact ⟨_, rfl, ⟨z.1.kept q3, z.2.1.kept q3, andThen z.2.2.1 q3, z.2.2.2.1.kept q3, z.2.2.2.2.kept q3⟩, q1⟩
  clear b1 H0 HNX
  have HAI : Hid ((Tryd.prog.info? 39).map (·.size) = some (anl O cc (.slice ad l.length cd)).length) := infoAns
  rcases e24 with e2 | ⟨e2, e4⟩
  · go_wp2_with (first | (refine wpList_store_mid rfl 31 (.tmp 7) (.tmp 16) rfl w1.heap.size 0 M.toArray rfl rfl HT9.out (by simpa using HM5.out.2.1) (all_oneCell_toArray HM5.out.2.2) ?_; (obtain ⟨Y1, hY, hq⟩ := E9.out); (have H1 : Hid _ := hq); (have k0 := hq.2.cell 0 _ HK0.out); (rw [List.toList_toArray, ← hY]); (clear hY hq E9 HT9)) | (refine wpList_load_mid rfl 24 _ rfl w.heap.size 0 rfl C _ H1.out.1.1.range Tryd.underlying24 rfl HM.out ?_) | (refine wpList_load_mid rfl 28 _ rfl (w.heap.size + 1) 0 rfl D _ H1.out.1.2.1.range Tryd.underlying28 rfl HL.out ?_) | (refine wpList_load_mid rfl 39 _ rfl g3 0 rfl (anl O cc (.slice ad l.length cd)) _ H1.out.1.2.2.2.1.range Tryd.underlying39 rfl HAI.out ?_) | fail)
    refine (HAN.out _ H1.out.1.2.2.1).mono ?_
    rintro e w4 ⟨a', n', c', B, rfl, b4⟩
    obtain ⟨D4, hD, hL, hE⟩ := rv_letter X ⟨#[]⟩ (.slice a' n' c')
    rw [hD]
    have HD4 : Hid (rv X ⟨#[]⟩ (.slice a' n' c') = .agg D4.toArray) := hD
    have HDL4 : Hid _ := hL
    have HDO4 : Hid (∀ v ∈ D4, v.oneCell' = true) := by show ∀ v ∈ D4, _; rw [hE]; exact rcE_one _ _ _ rfl
    have HDZ4 : Hid (D4.length = ZR.length) := by show _ = _; rw [hE, HZRL.out]; rfl
    have HT5 : Hid ((w4.alloc (.cells ZR.toArray 50)).there w4.heap.size 0 D4.toArray.size) := there_of (lb_new w4 ZR _) (by simpa using HDZ4.out)
    have E5 : Hid (∃ Y, Y = (w4.alloc (.cells ZR.toArray 50)).setCells w4.heap.size 0 D4 ∧ LB Y w4.heap.size 50 D4 ∧ Below w.heap.size w Y ∧ LB Y g4 50 ZR) := by
      obtain ⟨q1, q2⟩ := one_boxQ w4 50 ZR D4 HDZ4.out
      have q3 := andThen b4 q2
      exact ⟨_, rfl, q1, andThen H1.out.1.2.2.1 q3, H1.out.1.2.2.2.2.kept q3⟩
    clear hD hL hE b4 H1 HAN k0
    go_wp2_with (first | (refine wpList_alloc_R HZR.out rfl rfl ?_) | (refine wpList_store_mid rfl 50 (.tmp 9) (.tmp 31) rfl w4.heap.size 0 D4.toArray rfl rfl HT5.out (by simpa using HDL4.out) (all_oneCell_toArray HDO4.out) ?_; (obtain ⟨Y5, hY, hq⟩ := E5.out); (have H5 : Hid _ := hq); (have HT6 : Hid (Y5.there g4 0 D4.toArray.size) := there_of hq.2.2 (by simpa using HDZ4.out)); (rw [List.toList_toArray, ← hY]); (clear hY hq E5 HT5)) | (refine wpList_load_mid rfl 50 _ rfl w4.heap.size 0 rfl D4 _ H5.out.1.range Tryd.underlying50 rfl HDL4.out ?_) | (refine wpList_store_mid rfl 50 (.tmp 6) (.tmp 34) rfl g4 0 D4.toArray rfl rfl HT6.out (by simpa using HDL4.out) (all_oneCell_toArray HDO4.out) ?_; (rw [List.toList_toArray])) | fail)
    have H6 : Hid (∀ Y, Y = Y5.setCells g4 0 D4 → LB Y g4 50 D4 ∧ Below w.heap.size w Y) := fun Y hY => by
      rw [hY]
      exact ⟨H5.out.2.2.sets D4 HDZ4.out, below_cells HG4.out _ 0 _ H5.out.2.1⟩
    refine bodyPost_ret (results_cell_mid rfl _ (Y5.setCells g4 0 D4) g4 D4 _ rfl (H6.out _ rfl).1.range Tryd.underlying50 rfl HDL4.out) rfl ?_
    exact ⟨_, _, _, by rw [← HD4.out], (H6.out _ rfl).2⟩
  · go_wp2_with (first | (refine wpList_store_mid rfl 31 (.tmp 7) (.tmp 16) rfl w1.heap.size 0 M.toArray rfl rfl HT9.out (by simpa using HM5.out.2.1) (all_oneCell_toArray HM5.out.2.2) ?_; (obtain ⟨Y1, hY, hq⟩ := E9.out); (have H1 : Hid _ := hq); (have k0 := hq.2.cell 0 _ HK0.out); (rw [List.toList_toArray, ← hY]); (clear hY hq E9 HT9)) | (refine wpList_load_mid rfl 24 _ rfl w.heap.size 0 rfl C _ H1.out.1.1.range Tryd.underlying24 rfl HM.out ?_) | (refine wpList_load_mid rfl 28 _ rfl (w.heap.size + 1) 0 rfl D _ H1.out.1.2.1.range Tryd.underlying28 rfl HL.out ?_) | (refine wpList_load_mid rfl 39 _ rfl g3 0 rfl (anl O cc (.slice ad l.length cd)) _ H1.out.1.2.2.2.1.range Tryd.underlying39 rfl HAI.out ?_) | fail)
    refine (HAN.out _ H1.out.1.2.2.1).mono ?_
    rintro e w4 ⟨a', n', c', B, rfl, b4⟩
    obtain ⟨D4, hD, hL, hE⟩ := rv_letter X ⟨#[]⟩ (.slice a' n' c')
    rw [hD]
    have HD4 : Hid (rv X ⟨#[]⟩ (.slice a' n' c') = .agg D4.toArray) := hD
    have HDL4 : Hid _ := hL
    have HDO4 : Hid (∀ v ∈ D4, v.oneCell' = true) := by show ∀ v ∈ D4, _; rw [hE]; exact rcE_one _ _ _ rfl
    have HDZ4 : Hid (D4.length = ZR.length) := by show _ = _; rw [hE, HZRL.out]; rfl
    have HT5 : Hid ((w4.alloc (.cells ZR.toArray 50)).there w4.heap.size 0 D4.toArray.size) := there_of (lb_new w4 ZR _) (by simpa using HDZ4.out)
    have E5 : Hid (∃ Y, Y = (w4.alloc (.cells ZR.toArray 50)).setCells w4.heap.size 0 D4 ∧ LB Y w4.heap.size 50 D4 ∧ Below w.heap.size w Y ∧ LB Y g4 50 ZR) := by
      obtain ⟨q1, q2⟩ := one_boxQ w4 50 ZR D4 HDZ4.out
      have q3 := andThen b4 q2
      exact ⟨_, rfl, q1, andThen H1.out.1.2.2.1 q3, H1.out.1.2.2.2.2.kept q3⟩
    clear hD hL hE b4 H1 HAN k0
    go_wp2_with (first | (refine wpList_alloc_R HZR.out rfl rfl ?_) | (refine wpList_store_mid rfl 50 (.tmp 9) (.tmp 31) rfl w4.heap.size 0 D4.toArray rfl rfl HT5.out (by simpa using HDL4.out) (all_oneCell_toArray HDO4.out) ?_; (obtain ⟨Y5, hY, hq⟩ := E5.out); (have H5 : Hid _ := hq); (have HT6 : Hid (Y5.there g4 0 D4.toArray.size) := there_of hq.2.2 (by simpa using HDZ4.out)); (rw [List.toList_toArray, ← hY]); (clear hY hq E5 HT5)) | (refine wpList_load_mid rfl 50 _ rfl w4.heap.size 0 rfl D4 _ H5.out.1.range Tryd.underlying50 rfl HDL4.out ?_) | (refine wpList_store_mid rfl 50 (.tmp 6) (.tmp 34) rfl g4 0 D4.toArray rfl rfl HT6.out (by simpa using HDL4.out) (all_oneCell_toArray HDO4.out) ?_; (rw [List.toList_toArray])) | fail)
    have H6 : Hid (∀ Y, Y = Y5.setCells g4 0 D4 → LB Y g4 50 D4 ∧ Below w.heap.size w Y) := fun Y hY => by
      rw [hY]
      exact ⟨H5.out.2.2.sets D4 HDZ4.out, below_cells HG4.out _ 0 _ H5.out.2.1⟩
    refine bodyPost_ret (results_cell_mid rfl _ (Y5.setCells g4 0 D4) g4 D4 _ rfl (H6.out _ rfl).1.range Tryd.underlying50 rfl HDL4.out) rfl ?_
    exact ⟨_, _, _, by rw [← HD4.out], (H6.out _ rfl).2⟩
/-- said -/
theorem psaid_any (p : Pln) (v : Value) (S : Sg) (h : SH) (O cc : Int) (d : Value) (l : List Nat) (w : World) (a : PA w p v S h) (hb : Bs w d l) (hlen : l.length ≤ 16384) (hf : fitP p S = 0) (hO : 1 ≤ O ∧ O ≤ 4) : Calls Tryd.prog 11 #[plv p v, sv S h, .agg (anl O cc d).toArray] w fun e w' => ∃ a' n' c', e = .returned (rv (saidX p S O cc) ⟨#[]⟩ (.slice a' n' c')) ∧ Below w.heap.size w w' := by
  cases hfl : S.x.fl with
  | false => exact psaid_0 p v S h O cc d l w a hb hf hfl
  | true => exact psaid_1 p v S h O cc d l w a hb hf hlen hO hfl
end Go.Proofs.YtodcakplmoajiaaDoor
