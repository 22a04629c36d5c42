/-
  PlanAllOrNothing: what is lost.
-/
import Derived.Test.YtodcakplmoajiaaDoorHPj
namespace Go.Proofs.YtodcakplmoajiaaDoor
open Go Go.RowKit
open Wb

theorem wpList_build_R {Z : List Value} (hZ : Z = zrl) {ops : Array Oper} {rest : List Oper} {op : Oper} {a : Act} {w : World} {Q : Exit → Act → World → Prop} (hgd : op.guard = none) (ho : op.op = .build 50 #[])
    (h : wpList Tryd.prog ops Q rest (a.put op.dst (.agg Z.toArray)) w) : wpList Tryd.prog ops Q (op :: rest) a w := by
  subst hZ
  refine wpList_plain hgd fun K hK => ?_
  obtain ⟨dst, op', ty, pos, after, guard⟩ := op
  simp only at ho hgd
  subst ho hgd
  have hK2 := hK _ _ h
  clear hK h
  unfold zrl at hK2
  go_simp
  exact hK2

set_option maxRecDepth 100000 in
set_option maxHeartbeats 8000000 in
theorem panswer_4 (p : Pln) (v : Value) (S : Sg) (h : SH) (c : Int) (d : Value) (l : List Nat) (w : World) (a : PA w p v S h) (hb : Bs w d l) (hlen : l.length ≤ 16384) (hf : fitP p S = 0) (hl : S.x.fl = true) : Calls Tryd.prog 22 #[plv p v, sv S h, .agg (anl 4 c d).toArray] w fun e w' => e = .returned (.tuple #[.agg #[.int .i64 0, .int .i64 0, .int .i64 0, .int .i64 0, .int .i64 0, .int .i64 0, .int .i64 0, .int .i64 0, .int .i64 0, .int .i64 0, .string ⟨#[]⟩, .slice none 0 0], .bool false, .int .i64 0]) ∧ Below w.heap.size w w' := by
  have hc := (pfits_iff hf).2.1
  have HFI0 : ∀ w', Below w.heap.size w w' → Calls Tryd.prog 28 #[plv p v, sv S h] w' fun e w'' => e = .returned (.int .i64 0) ∧ Below w'.heap.size w' w'' := fun w' hb => by have e := pflight_any p v S h w' (a.kept hb); rw [flightP_ok hf hl] at e; exact e
  have HOT0 : ∀ w', Below w.heap.size w w' → Calls Tryd.prog 18 #[plv p v, sv S h] w' fun e w'' => e = .returned (.tuple #[.int .i64 S.x.turn, .string (nameT p S)]) ∧ Below w'.heap.size w' w'' := fun w' hb => ponturn_any p v S h w' (a.s.kept hb) hf (by rcases flight_deed hc hl with ⟨e, _⟩ | ⟨e, _⟩ <;> rw [e] <;> decide)
  obtain ⟨ad, cd, ed, -⟩ := hb.shape
  subst ed
  generalize nameT p S = N at *
  generalize S.x.turn = U at *
  clear a hf hc hl
  obtain ⟨C, hC, hM, hG⟩ := plv_letter p v
  obtain ⟨D, hD, hL, hE⟩ := sv_letter S h
  rw [hC, hD]
  try rw [hC] at HFI0
  try rw [hD] at HFI0
  try rw [hC] at HOT0
  try rw [hD] at HOT0
  have HFI : Hid _ := HFI0
  have HOT : Hid _ := HOT0
  have HM : Hid _ := hM
  have HG : Hid (C = plvl p v) := hG
  have HL : Hid _ := hL
  have HE : Hid (D = scl S h) := hE
  clear hC hM hG hD hL hE HFI0 HOT0
  have hl1 : ((l.length : Int) > 16384) = False := by simp; omega
  have hl2 : ¬ (16384 : Int) < (l.length : Int) := by omega
  go_enter Tryd.func22, Tryd.ntmps22
  go_upto_region 1 with fail
  obtain ⟨W, eW⟩ : ∃ W, W = (((w.alloc (.cells C.toArray 24)).alloc (.cells D.toArray 28)).alloc (.cells (anl 4 c (.slice ad l.length cd)).toArray 39)).alloc (.cells #[.int .i64 0, .int .i64 0, .int .i64 0, .int .i64 0, .int .i64 0, .int .i64 0, .int .i64 0, .int .i64 0, .int .i64 0, .int .i64 0, .string ⟨#[]⟩, .slice none 0 0] 50) := ⟨_, rfl⟩
  rw [← eW]
  have H0 : Hid (LB W w.heap.size 24 C ∧ LB W (w.heap.size + 1) 28 D ∧ Below w.heap.size w W ∧ LB W (w.heap.size + 1 + 1) 39 (anl 4 c (.slice ad l.length cd)) ∧ LB W (w.heap.size + 1 + 1 + 1) 50 [.int .i64 0, .int .i64 0, .int .i64 0, .int .i64 0, .int .i64 0, .int .i64 0, .int .i64 0, .int .i64 0, .int .i64 0, .int .i64 0, .string ⟨#[]⟩, .slice none 0 0]) := by
    obtain ⟨q1, q2, q3, q4⟩ := lb_new3 w C D (anl 4 c (.slice ad l.length cd)) 24 28 39
    rw [eW]
    exact ⟨q1.kept (up0 _ _), q2.kept (up0 _ _), andThen q4 (up0 _ _), q3.kept (up0 _ _), lb_new4 w C D _ _ _ _ _ _⟩
  clear eW
  generalize hg4 : w.heap.size + 1 + 1 + 1 = g4 at *
  generalize hg3 : w.heap.size + 1 + 1 = g3 at *
  have HG : Hid (w.heap.size ≤ g3 ∧ w.heap.size ≤ g4) := by constructor <;> omega
  clear hg3 hg4
  have a2 := H0.out.2.2.2.1.cell 2 _ rfl
  go_wp2_with (first | (refine wpList_load_mid rfl 24 _ rfl w.heap.size 0 rfl C _ H0.out.1.range Tryd.underlying24 rfl HM.out ?_) | (refine wpList_load_mid rfl 28 _ rfl (w.heap.size + 1) 0 rfl D _ H0.out.2.1.range Tryd.underlying28 rfl HL.out ?_) | (refine wpList_load_midG rfl 24 _ rfl w.heap.size 0 rfl C _ H0.out.1.range Tryd.underlying24 rfl HM.out ?_) | (refine wpList_load_midG rfl 28 _ rfl (w.heap.size + 1) 0 rfl D _ H0.out.2.1.range Tryd.underlying28 rfl HL.out ?_) | fail)
  refine (HFI.out _ H0.out.2.2.1).mono ?_
  rintro e w1 ⟨rfl, b1⟩
  have H1 : Hid (LB w1 w.heap.size 24 C ∧ LB w1 (w.heap.size + 1) 28 D ∧ Below w.heap.size w w1 ∧ LB w1 g3 39 (anl 4 c (.slice ad l.length cd)) ∧ LB w1 g4 50 [.int .i64 0, .int .i64 0, .int .i64 0, .int .i64 0, .int .i64 0, .int .i64 0, .int .i64 0, .int .i64 0, .int .i64 0, .int .i64 0, .string ⟨#[]⟩, .slice none 0 0]) := ⟨H0.out.1.kept b1, H0.out.2.1.kept b1, andThen H0.out.2.2.1 b1, H0.out.2.2.2.1.kept b1, H0.out.2.2.2.2.kept b1⟩
  clear b1 H0 HFI a2
  go_wp2_with (first | (refine wpList_load_mid rfl 24 _ rfl w.heap.size 0 rfl C _ H1.out.1.range Tryd.underlying24 rfl HM.out ?_) | (refine wpList_load_mid rfl 28 _ rfl (w.heap.size + 1) 0 rfl D _ H1.out.2.1.range Tryd.underlying28 rfl HL.out ?_) | (refine wpList_load_midG rfl 24 _ rfl w.heap.size 0 rfl C _ H1.out.1.range Tryd.underlying24 rfl HM.out ?_) | (refine wpList_load_midG rfl 28 _ rfl (w.heap.size + 1) 0 rfl D _ H1.out.2.1.range Tryd.underlying28 rfl HL.out ?_) | fail)
  refine (HOT.out _ H1.out.2.2.1).mono ?_
  rintro e w2 ⟨rfl, b2⟩
  have H2 : Hid (LB w2 w.heap.size 24 C ∧ LB w2 (w.heap.size + 1) 28 D ∧ Below w.heap.size w w2 ∧ LB w2 g3 39 (anl 4 c (.slice ad l.length cd)) ∧ LB w2 g4 50 [.int .i64 0, .int .i64 0, .int .i64 0, .int .i64 0, .int .i64 0, .int .i64 0, .int .i64 0, .int .i64 0, .int .i64 0, .int .i64 0, .string ⟨#[]⟩, .slice none 0 0]) := ⟨H1.out.1.kept b2, H1.out.2.1.kept b2, andThen H1.out.2.2.1 b2, H1.out.2.2.2.1.kept b2, H1.out.2.2.2.2.kept b2⟩
  clear b2 H1 HOT
  have c0 := H2.out.2.1.cell 0 (.int .i64 S.x.id) (by rw [HE.out]; rfl)
  have a0 := H2.out.2.2.2.1.cell 0 _ rfl
  have a1 := H2.out.2.2.2.1.cell 1 _ rfl
  go_upto_region 8 with fail
  obtain ⟨X, eX⟩ : ∃ X, X = w2.alloc (.cells #[.int .i64 3, .int .i64 4, .int .i64 S.x.id, .int .i64 U, .int .i64 0, .int .i64 0, .int .i64 0, .int .i64 c, .int .i64 0, .int .i64 0, .string ⟨#[]⟩, .slice none 0 0] 50) := ⟨_, rfl⟩
  have H3 : Hid ((LB X w.heap.size 24 C ∧ LB X (w.heap.size + 1) 28 D ∧ Below w.heap.size w X ∧ LB X g3 39 (anl 4 c (.slice ad l.length cd)) ∧ LB X g4 50 [.int .i64 0, .int .i64 0, .int .i64 0, .int .i64 0, .int .i64 0, .int .i64 0, .int .i64 0, .int .i64 0, .int .i64 0, .int .i64 0, .string ⟨#[]⟩, .slice none 0 0]) ∧ LB X w2.heap.size 50 [.int .i64 3, .int .i64 4, .int .i64 S.x.id, .int .i64 U, .int .i64 0, .int .i64 0, .int .i64 0, .int .i64 c, .int .i64 0, .int .i64 0, .string ⟨#[]⟩, .slice none 0 0] ∧ w.heap.size ≤ w2.heap.size ∧ w2.heap.size ≠ g4) := by
    obtain ⟨z1, z2, z3, z4, z5⟩ := H2.out
    have u0 := up0 w2 (.cells #[.int .i64 3, .int .i64 4, .int .i64 S.x.id, .int .i64 U, .int .i64 0, .int .i64 0, .int .i64 0, .int .i64 c, .int .i64 0, .int .i64 0, .string ⟨#[]⟩, .slice none 0 0] 50)
    rw [eX]
    exact ⟨⟨z1.kept u0, z2.kept u0, andThen z3 u0, z4.kept u0, z5.kept u0⟩, lb_new w2 _ _, z3.size, by have := z5.lt; omega⟩
  rw [← eX]
  clear eX H2 c0 a0 a1
  generalize w2.heap.size = gr at *
  have a0 := H3.out.1.2.2.2.1.cell 0 _ rfl
  obtain ⟨ZQ, hZQ⟩ : ∃ ZQ, ZQ = zrl := ⟨_, rfl⟩
  have HZQ : Hid (ZQ = zrl) := hZQ
  have HM1 : Hid ((Tryd.prog.info? 50).map (·.size) = some ZQ.length ∧ (∀ v ∈ ZQ, v.oneCell' = true) ∧ ZQ.length = 12) := by
    rw [hZQ]
    refine ⟨infoRec, ?_, rfl⟩
    intro v hv
    unfold zrl at hv
    simp only [List.mem_cons, List.not_mem_nil, or_false] at hv
    rcases hv with rfl | rfl | rfl | rfl | rfl | rfl | rfl | rfl | rfl | rfl | rfl | rfl <;> rfl
  have HT7 : Hid (X.there g4 0 ZQ.toArray.size) := there_of H3.out.1.2.2.2.2 (by simp [HM1.out.2.2])
  have H8 : Hid (∀ Y, Y = X.setCells g4 0 ZQ → LB Y g4 50 ZQ ∧ Below w.heap.size w Y) := fun Y hY => by
    rw [hY]
    exact ⟨H3.out.1.2.2.2.2.sets ZQ HM1.out.2.2, below_cells HG.out.2 _ 0 _ H3.out.1.2.2.1⟩
  clear hZQ
  go_wp2_with (first | (refine wpList_build_R HZQ.out rfl rfl ?_) | (refine wpList_store_mid rfl 50 (.tmp 6) (.tmp 64) rfl g4 0 ZQ.toArray rfl rfl HT7.out (by simpa using HM1.out.1) (all_oneCell_toArray HM1.out.2.1) ?_; (rw [List.toList_toArray])) | fail)
  refine bodyPost_ret (results_cell_slot2 (p := 6) (s := 7) (s2 := 8) (ty := 50) rfl _ (X.setCells g4 0 ZQ) g4 ZQ _ rfl (H8.out _ rfl).1.range Tryd.underlying50 rfl HM1.out.1) rfl ?_
  exact ⟨by rw [HZQ.out]; rfl, (H8.out _ rfl).2⟩

set_option maxRecDepth 100000 in
set_option maxHeartbeats 8000000 in
theorem pturnG_l2 (cc : Int) (p : Pln) (v : Value) (S : Sg) (h : SH) (d : Value) (l : List Nat) (w : World) (a : PA w p v S h) (_hT : STabs w) (hb : Bs w d l) (hlen : l.length ≤ 16384) (hf : fitP p S = 0) (_he : S.x.ended = false) (hfl : S.x.fl = true) (hph : S.x.ph = 1) : Calls Tryd.prog 8 #[plv p v, sv S h, .agg (anl 4 cc d).toArray] w fun e w' => e = .returned (.tuple #[sv S h, .bool false, .bool true]) ∧ Below w.heap.size w w' := by
  have hc := (pfits_iff hf).2.1
  have HNX0 : ∀ w', Below w.heap.size w w' → Calls Tryd.prog 6 #[plv p v, sv S h] w' fun e w'' => e = .returned (.tuple #[nextV p S, .int .i64 0]) ∧ Below w'.heap.size w' w'' := fun w' hb => pnext_any p v S h w' (a.kept hb) hf
  have HNU : Hid (∀ w', Calls Tryd.prog 7 #[.int .i64 0] w' fun e w'' => e = .returned (.int .i64 0) ∧ w' = w'') := fun w' => pnum_any 0 w' (by decide) (by decide)
  obtain ⟨ZR, hZR⟩ : ∃ ZR, ZR = zrl := ⟨_, rfl⟩
  have HZR : Hid (ZR = zrl) := hZR
  have HZRL : Hid (ZR.length = 12) := by show _ = _; rw [hZR]; rfl
  clear hZR
  have hkd : deedK S.x = 2 := by rcases flight_deed hc hfl with ⟨e, e2⟩ | ⟨e, e2⟩ <;> omega
  obtain ⟨M, hMM⟩ : ∃ M : List Value, M = actl (deedK S.x) S.x.id (if 1 ≤ deedK S.x ∧ deedK S.x ≤ 4 then S.x.turn else 0) (if deedK S.x = 1 ∨ deedK S.x = 3 then S.x.nextTry else if deedK S.x = 2 ∨ deedK S.x = 4 then S.x.tr else 0) (if 1 ≤ deedK S.x ∧ deedK S.x ≤ 4 then nameT p S else ⟨#[]⟩) := ⟨_, rfl⟩
  have hNV : nextV p S = .agg M.toArray := by rw [hMM]; rfl
  rw [hNV] at HNX0
  have HM5 : Hid (M.length = 5 ∧ (Tryd.prog.info? 31).map (·.size) = some M.length ∧ (∀ v ∈ M, v.oneCell' = true)) := by rw [hMM]; exact ⟨rfl, infoAct, actl_one _ _ _ _ _⟩
  have HK0 : Hid (M[0]? = some (.int .i64 (deedK S.x))) := by show _ = _; rw [hMM]; rfl
  have hk24 : deedK S.x = 2 ∨ deedK S.x = 4 := by omega
  have hk14 : 1 ≤ deedK S.x ∧ deedK S.x ≤ 4 := by omega
  have hk13 : ¬(deedK S.x = 1 ∨ deedK S.x = 3) := by omega
  obtain ⟨X, hX⟩ : ∃ X, X = recQ (deedK S.x) S.x.id S.x.turn S.x.tr := ⟨_, rfl⟩
  have hMX : M = actl (deedK S.x) S.x.id S.x.turn S.x.tr (nameT p S) := by rw [hMM, if_pos hk14, if_neg hk13, if_pos hk24, if_pos hk14]
  have HRE : Hid (∀ w', Calls Tryd.prog 20 #[.agg M.toArray] w' fun e w'' => e = .returned (rv X ⟨#[]⟩ (.slice none 0 0)) ∧ Below w'.heap.size w' w'') := fun w' => by
    rw [hX, hMX]; exact precord_any _ _ _ _ _ w'
  have HAS0 : ∀ w', Below w.heap.size w w' → Calls Tryd.prog 21 #[plv p v, sv S h] w' fun e w'' => ∃ d, e = .returned (.tuple #[.agg (askl S (nameT p S) d).toArray, .int .i64 0]) ∧ d.oneCell' = true ∧ Below w'.heap.size w' w'' := fun w' hb => pask_any p v S h w' (a.kept hb) hf hfl
  have HAN0 : ∀ w', Below w.heap.size w w' → Calls Tryd.prog 22 #[plv p v, sv S h, .agg (anl 4 cc d).toArray] w' fun e w'' => e = .returned (.tuple #[.agg zrl.toArray, .bool false, .int .i64 0]) ∧ Below w'.heap.size w' w'' := fun w' hb' => panswer_4 p v S h cc d l w' (a.kept hb') (hb.kept hb') hlen hf hfl
  have HM2 : Hid (M[2]? = some (.int .i64 S.x.turn) ∧ M[3]? = some (.int .i64 S.x.tr) ∧ M[4]? = some (.string (nameT p S))) := by rw [hMX]; exact ⟨rfl, rfl, rfl⟩
  have HAK : Hid (∀ d, askl S (nameT p S) d = [.int .i64 S.x.id, .int .i64 S.x.turn, .bool (S.x.ph == 2), .int .i64 S.x.tr, .string (nameT p S), d]) := fun d => rfl
  rw [hkd] at HK0
  have hp2 : (S.x.ph == 2) = false := by rw [hph]; decide
  generalize nameT p S = N at *
  generalize deedK S.x = KD at *
  clear hMM hNV a _hT hc hf _he hlen hfl hX hk24 hk14 hk13 hMX hkd
  obtain ⟨ad, cd, ed, -⟩ := hb.shape
  subst ed
  obtain ⟨Z, hZ⟩ : ∃ Z, Z = zcl := ⟨_, rfl⟩
  have HZ : Hid (Z = zcl) := hZ
  have HZL : Hid (Z.length = 16) := by show _ = _; rw [hZ]; rfl
  clear hZ
  obtain ⟨C, hC, hM, hG⟩ := plv_letter p v
  obtain ⟨D, hD, hL, hE⟩ := sv_letter S h
  rw [hC, hD]
  try rw [hC] at HNX0
  try rw [hD] at HNX0
  try rw [hC] at HAS0
  try rw [hD] at HAS0
  try rw [hC] at HAN0
  try rw [hD] at HAN0
  have HNX : Hid _ := HNX0
  have HAS : Hid _ := HAS0
  have HAN : Hid _ := HAN0
  have HM : Hid _ := hM
  have HG : Hid (C = plvl p v) := hG
  have HL : Hid _ := hL
  have HE : Hid (D = scl S h) := hE
  clear hC hM hG hD hL hE HNX0 HAS0 HAN0
  go_enter Tryd.func8, Tryd.ntmps8
  go_upto_region 1 with (first | (refine wpList_alloc_Z HZ.out rfl rfl ?_) | fail)
  obtain ⟨W, eW⟩ : ∃ W, W = (((w.alloc (.cells C.toArray 24)).alloc (.cells D.toArray 28)).alloc (.cells (anl 4 cc (.slice ad l.length cd)).toArray 39)).alloc (.cells Z.toArray 28) := ⟨_, rfl⟩
  rw [← eW]
  have H0 : Hid (LB W w.heap.size 24 C ∧ LB W (w.heap.size + 1) 28 D ∧ Below w.heap.size w W ∧ LB W (w.heap.size + 1 + 1) 39 (anl 4 cc (.slice ad l.length cd)) ∧ LB W (w.heap.size + 1 + 1 + 1) 28 Z) := by
    obtain ⟨q1, q2, q3, q4⟩ := lb_new3 w C D (anl 4 cc (.slice ad l.length cd)) 24 28 39
    rw [eW]
    exact ⟨q1.kept (up0 _ _), q2.kept (up0 _ _), andThen q4 (up0 _ _), q3.kept (up0 _ _), lb_new4 w C D _ _ _ _ _ _⟩
  clear eW
  generalize hg4 : w.heap.size + 1 + 1 + 1 = g4 at *
  generalize hg3 : w.heap.size + 1 + 1 = g3 at *
  have HG : Hid (w.heap.size ≤ g3 ∧ w.heap.size ≤ g4 ∧ w.heap.size + 1 ≠ g4) := by refine ⟨?_, ?_, ?_⟩ <;> omega
  clear hg3 hg4
  go_wp2_with (first | (refine wpList_load_mid rfl 24 _ rfl w.heap.size 0 rfl C _ H0.out.1.range Tryd.underlying24 rfl HM.out ?_) | (refine wpList_load_mid rfl 28 _ rfl (w.heap.size + 1) 0 rfl D _ H0.out.2.1.range Tryd.underlying28 rfl HL.out ?_) | (refine wpList_load_midG rfl 24 _ rfl w.heap.size 0 rfl C _ H0.out.1.range Tryd.underlying24 rfl HM.out ?_) | (refine wpList_load_midG rfl 28 _ rfl (w.heap.size + 1) 0 rfl D _ H0.out.2.1.range Tryd.underlying28 rfl HL.out ?_) | fail)
  refine (HNX.out _ H0.out.2.2.1).mono ?_
  rintro e w1 ⟨rfl, b1⟩
  have HT9 : Hid ((w1.alloc (.cells #[.int .i64 0, .int .i64 0, .int .i64 0, .int .i64 0, .string ⟨#[]⟩] 31)).there w1.heap.size 0 M.toArray.size) := there_of (lb_new w1 [.int .i64 0, .int .i64 0, .int .i64 0, .int .i64 0, .string ⟨#[]⟩] _) (by simp [HM5.out.1])
  have E9 : Hid (∃ Y, Y = (w1.alloc (.cells #[.int .i64 0, .int .i64 0, .int .i64 0, .int .i64 0, .string ⟨#[]⟩] 31)).setCells w1.heap.size 0 M ∧ (LB Y w.heap.size 24 C ∧ LB Y (w.heap.size + 1) 28 D ∧ Below w.heap.size w Y ∧ LB Y g3 39 (anl 4 cc (.slice ad l.length cd)) ∧ LB Y g4 28 Z) ∧ LB Y w1.heap.size 31 M ∧ w.heap.size ≤ w1.heap.size) := by
    obtain ⟨q1, q2⟩ := one_boxQ w1 31 [.int .i64 0, .int .i64 0, .int .i64 0, .int .i64 0, .string ⟨#[]⟩] M HM5.out.1
    have z := H0.out
    have q3 := andThen b1 q2
    exact ⟨_, rfl, ⟨z.1.kept q3, z.2.1.kept q3, andThen z.2.2.1 q3, z.2.2.2.1.kept q3, z.2.2.2.2.kept q3⟩, q1, (andThen z.2.2.1 b1).size⟩
  clear b1 H0 HNX
  go_wp2_with (first | (refine wpList_store_mid rfl 31 (.tmp 9) (.tmp 21) rfl w1.heap.size 0 M.toArray rfl rfl HT9.out (by simpa using HM5.out.2.1) (all_oneCell_toArray HM5.out.2.2) ?_; (obtain ⟨Y1, hY, hq⟩ := E9.out); (have H1 : Hid _ := hq); (rw [List.toList_toArray, ← hY]); (clear hY hq E9 HT9)) | fail)
  generalize w1.heap.size = g9 at *
  refine (HNU.out _).mono ?_
  rintro e w2 ⟨rfl, rfl⟩
  have k0 := H1.out.2.1.cell 0 _ HK0.out
  have hNN : (N.toList == N.toList) = true := by simp
  go_wp2_with (first | (refine wpList_load_mid rfl 31 _ rfl g9 0 rfl M _ H1.out.2.1.range Tryd.underlying31 rfl HM5.out.2.1 ?_) | fail)
  refine (HRE.out _).mono ?_
  rintro e w4 ⟨rfl, b4⟩
  have HN9 : Hid (w.heap.size ≤ g9) := H1.out.2.2
  obtain ⟨D4, hD, hL, hE⟩ := rv_letter X ⟨#[]⟩ (.slice none 0 0)
  rw [hD]
  have HD4 : Hid (rv X ⟨#[]⟩ (.slice none 0 0) = .agg D4.toArray) := hD
  have HDL4 : Hid _ := hL
  have HDO4 : Hid (∀ v ∈ D4, v.oneCell' = true) := by show ∀ v ∈ D4, _; rw [hE]; exact rcE_one _ _ _ rfl
  have HDZ4 : Hid (D4.length = ZR.length) := by show _ = _; rw [hE, HZRL.out]; rfl
  have HT4 : Hid ((w4.alloc (.cells ZR.toArray 50)).there w4.heap.size 0 D4.toArray.size) := there_of (lb_new w4 ZR _) (by simpa using HDZ4.out)
  have EE4 : Hid (∃ Y, Y = (w4.alloc (.cells ZR.toArray 50)).setCells w4.heap.size 0 D4 ∧ (LB Y w.heap.size 24 C ∧ LB Y (w.heap.size + 1) 28 D ∧ Below w.heap.size w Y ∧ LB Y g3 39 (anl 4 cc (.slice ad l.length cd)) ∧ LB Y g4 28 Z) ∧ LB Y w4.heap.size 50 D4 ∧ LB Y g9 31 M ∧ w.heap.size ≤ w4.heap.size) := by
    obtain ⟨q1, q2⟩ := one_boxQ w4 50 ZR D4 HDZ4.out
    exact ⟨_, rfl, by have z := H1.out.1; have q3 := andThen b4 q2; exact ⟨z.1.kept q3, z.2.1.kept q3, andThen z.2.2.1 q3, z.2.2.2.1.kept q3, z.2.2.2.2.kept q3⟩, q1, (H1.out.2.1.kept b4).kept q2, (andThen H1.out.1.2.2.1 b4).size⟩
  clear hD hL hE b4 H1 HRE k0
  go_wp2_with (first | (refine wpList_alloc_R HZR.out rfl rfl ?_) | (refine wpList_store_mid rfl 50 (.tmp 11) (.tmp 34) rfl w4.heap.size 0 D4.toArray rfl rfl HT4.out (by simpa using HDL4.out) (all_oneCell_toArray HDO4.out) ?_; (obtain ⟨Y4, hY, hq⟩ := EE4.out); (have H4 : Hid _ := hq); (rw [List.toList_toArray, ← hY]); (have k0 := hq.2.2.1.cell 0 _ HK0.out); (clear hY hq EE4 HT4)) | (refine wpList_load_mid rfl 24 _ rfl w.heap.size 0 rfl C _ H4.out.1.1.range Tryd.underlying24 rfl HM.out ?_) | (refine wpList_load_mid rfl 28 _ rfl (w.heap.size + 1) 0 rfl D _ H4.out.1.2.1.range Tryd.underlying28 rfl HL.out ?_) | (refine wpList_load_midG rfl 24 _ rfl w.heap.size 0 rfl C _ H4.out.1.1.range Tryd.underlying24 rfl HM.out ?_) | (refine wpList_load_midG rfl 28 _ rfl (w.heap.size + 1) 0 rfl D _ H4.out.1.2.1.range Tryd.underlying28 rfl HL.out ?_) | fail)
  generalize w4.heap.size = q4g at *
  refine (HAS.out _ H4.out.1.2.2.1).mono ?_
  rintro e w6 ⟨da, rfl, h1a, b6⟩
  obtain ⟨MA, hMA⟩ : ∃ MA, MA = askl S N da := ⟨_, rfl⟩
  rw [← hMA]
  have HMA : Hid (MA.length = 6 ∧ (Tryd.prog.info? 64).map (·.size) = some MA.length ∧ (∀ v ∈ MA, v.oneCell' = true) ∧ MA[1]? = some (.int .i64 S.x.turn) ∧ MA[2]? = some (.bool (S.x.ph == 2)) ∧ MA[3]? = some (.int .i64 S.x.tr) ∧ MA[4]? = some (.string N)) := by rw [hMA]; exact ⟨rfl, infoCall, askl_one S N da h1a, rfl, rfl, rfl, rfl⟩
  have HT6 : Hid ((w6.alloc (.cells #[.int .i64 0, .int .i64 0, .bool false, .int .i64 0, .string ⟨#[]⟩, .slice none 0 0] 64)).there w6.heap.size 0 MA.toArray.size) := there_of (lb_new w6 [.int .i64 0, .int .i64 0, .bool false, .int .i64 0, .string ⟨#[]⟩, .slice none 0 0] _) (by simp [HMA.out.1])
  have E6 : Hid (∃ Y, Y = (w6.alloc (.cells #[.int .i64 0, .int .i64 0, .bool false, .int .i64 0, .string ⟨#[]⟩, .slice none 0 0] 64)).setCells w6.heap.size 0 MA ∧ (LB Y w.heap.size 24 C ∧ LB Y (w.heap.size + 1) 28 D ∧ Below w.heap.size w Y ∧ LB Y g3 39 (anl 4 cc (.slice ad l.length cd)) ∧ LB Y g4 28 Z) ∧ LB Y q4g 50 D4 ∧ LB Y g9 31 M ∧ LB Y w6.heap.size 64 MA) := by
    obtain ⟨q1, q2⟩ := one_boxQ w6 64 [.int .i64 0, .int .i64 0, .bool false, .int .i64 0, .string ⟨#[]⟩, .slice none 0 0] MA HMA.out.1
    have z := H4.out.1
    have q3 := andThen b6 q2
    exact ⟨_, rfl, ⟨z.1.kept q3, z.2.1.kept q3, andThen z.2.2.1 q3, z.2.2.2.1.kept q3, z.2.2.2.2.kept q3⟩, H4.out.2.1.kept q3, H4.out.2.2.1.kept q3, q1⟩
  have HQ4 : Hid (w.heap.size ≤ q4g) := H4.out.2.2.2
  have HQN : Hid (q4g ≠ g4 ∧ q4g ≠ w.heap.size + 1) := ⟨lb_ne H4.out.2.1 H4.out.1.2.2.2.2 (by decide), lb_ne H4.out.2.1 H4.out.1.2.1 (by decide)⟩
  clear hMA h1a b6 H4 HAS k0
  go_wp2_with (first | (refine wpList_store_mid rfl 64 (.tmp 12) (.tmp 47) rfl w6.heap.size 0 MA.toArray rfl rfl HT6.out (by simpa using HMA.out.2.1) (all_oneCell_toArray HMA.out.2.2.1) ?_; (obtain ⟨Y6, hY, hq⟩ := E6.out); (have H6 : Hid _ := hq); (rw [List.toList_toArray, ← hY]); (clear hY hq E6 HT6)) | fail)
  generalize w6.heap.size = q6g at *
  refine (HNU.out _).mono ?_
  rintro e w7 ⟨rfl, rfl⟩
  have k0 := H6.out.2.2.1.cell 0 _ HK0.out
  have k2 := H6.out.2.2.1.cell 2 _ HM2.out.1
  have k3 := H6.out.2.2.1.cell 3 _ HM2.out.2.1
  have k4 := H6.out.2.2.1.cell 4 _ HM2.out.2.2
  have m1 := H6.out.2.2.2.cell 1 _ HMA.out.2.2.2.1
  have m2 := H6.out.2.2.2.cell 2 _ HMA.out.2.2.2.2.1
  have m3 := H6.out.2.2.2.cell 3 _ HMA.out.2.2.2.2.2.1
  have m4 := H6.out.2.2.2.cell 4 _ HMA.out.2.2.2.2.2.2
  have HAI : Hid ((Tryd.prog.info? 39).map (·.size) = some (anl 4 cc (.slice ad l.length cd)).length) := infoAns
  go_wp2_with (first | (refine wpList_load_mid rfl 24 _ rfl w.heap.size 0 rfl C _ H6.out.1.1.range Tryd.underlying24 rfl HM.out ?_) | (refine wpList_load_mid rfl 28 _ rfl (w.heap.size + 1) 0 rfl D _ H6.out.1.2.1.range Tryd.underlying28 rfl HL.out ?_) | (refine wpList_load_midG rfl 24 _ rfl w.heap.size 0 rfl C _ H6.out.1.1.range Tryd.underlying24 rfl HM.out ?_) | (refine wpList_load_midG rfl 28 _ rfl (w.heap.size + 1) 0 rfl D _ H6.out.1.2.1.range Tryd.underlying28 rfl HL.out ?_) | (refine wpList_load_mid rfl 39 _ rfl g3 0 rfl (anl 4 cc (.slice ad l.length cd)) _ H6.out.1.2.2.2.1.range Tryd.underlying39 rfl HAI.out ?_) | fail)
  rw [← HZR.out] at HAN
  refine (HAN.out _ H6.out.1.2.2.1).mono ?_
  rintro e w8 ⟨rfl, b8⟩
  have HDO8 : Hid (∀ v ∈ ZR, v.oneCell' = true) := by
    show ∀ v ∈ ZR, _
    rw [HZR.out]
    intro v hv
    unfold zrl at hv
    simp only [List.mem_cons, List.not_mem_nil, or_false] at hv
    rcases hv with rfl | rfl | rfl | rfl | rfl | rfl | rfl | rfl | rfl | rfl | rfl | rfl <;> rfl
  have HDL8 : Hid ((Tryd.prog.info? 50).map (·.size) = some ZR.length) := by show _ = _; rw [HZRL.out]; exact infoRec
  have HT8 : Hid (w8.there q4g 0 ZR.toArray.size) := there_of (H6.out.2.1.kept b8) (by simp [HDZ4.out])
  have E8 : Hid (∃ Y, Y = w8.setCells q4g 0 ZR ∧ (LB Y w.heap.size 24 C ∧ LB Y (w.heap.size + 1) 28 D ∧ Below w.heap.size w Y ∧ LB Y g3 39 (anl 4 cc (.slice ad l.length cd)) ∧ LB Y g4 28 Z)) := by
    have z := H6.out.1
    have zr := H6.out.2.1.kept b8
    exact ⟨_, rfl, (z.1.kept b8).others _ _ _ (lb_ne (z.1.kept b8) zr (by decide)), (z.2.1.kept b8).others _ _ _ (Ne.symm HQN.out.2), below_cells HQ4.out _ 0 _ (andThen z.2.2.1 b8), (z.2.2.2.1.kept b8).others _ _ _ (lb_ne (z.2.2.2.1.kept b8) zr (by decide)), (z.2.2.2.2.kept b8).others _ _ _ (Ne.symm HQN.out.1)⟩
  clear b8 H6 k0 k2 k3 k4 m1 m2 m3 m4 HAN
  go_wp2_with (first | (refine wpList_store_mid rfl 50 (.tmp 11) (.tmp 87) rfl q4g 0 ZR.toArray rfl rfl HT8.out (by simpa using HDL8.out) (all_oneCell_toArray HDO8.out) ?_; (obtain ⟨Y8, hY, hq⟩ := E8.out); (have H8 : Hid _ := hq); (rw [List.toList_toArray, ← hY]); (clear hY hq E8 HT8)) | fail)
  refine (HNU.out _).mono ?_
  rintro e w9 ⟨rfl, rfl⟩
  have a0 := H8.out.2.2.2.1.cell 0 _ rfl
  have HDO : Hid (∀ v ∈ D, v.oneCell' = true) := by show ∀ v ∈ D, _; rw [HE.out]; exact scl_one _ _
  have HDZ : Hid (D.length = Z.length) := by show _ = _; rw [HE.out, HZL.out]; rfl
  have HT9 : Hid (Y8.there g4 0 D.toArray.size) := there_of H8.out.2.2.2.2 (by simp [HDZ.out])
  have H9 : Hid (∀ Y, Y = Y8.setCells g4 0 D → LB Y g4 28 D ∧ Below w.heap.size w Y) := fun Y hY => by
    rw [hY]
    exact ⟨H8.out.2.2.2.2.sets D HDZ.out, below_cells HG.out.2.1 _ 0 _ H8.out.2.2.1⟩
  go_wp2_with (first | (refine wpList_load_mid rfl 28 _ rfl (w.heap.size + 1) 0 rfl D _ H8.out.2.1.range Tryd.underlying28 rfl HL.out ?_) | (refine wpList_store_mid rfl 28 (.tmp 6) (.tmp 103) rfl g4 0 D.toArray rfl rfl HT9.out (by simpa using HL.out) (all_oneCell_toArray HDO.out) ?_; (rw [List.toList_toArray])) | fail)
  refine bodyPost_ret (results_cell_slot2 (p := 6) (s := 7) (s2 := 8) (ty := 28) rfl _ (Y8.setCells g4 0 D) g4 D _ rfl (H9.out _ rfl).1.range Tryd.underlying28 rfl HL.out) rfl ?_
  exact ⟨rfl, (H9.out _ rfl).2⟩

set_option maxRecDepth 100000 in
set_option maxHeartbeats 8000000 in
theorem pturnG_l4 (cc : Int) (p : Pln) (v : Value) (S : Sg) (h : SH) (d : Value) (l : List Nat) (w : World) (a : PA w p v S h) (_hT : STabs w) (hb : Bs w d l) (hlen : l.length ≤ 16384) (hf : fitP p S = 0) (_he : S.x.ended = false) (hfl : S.x.fl = true) (hph : S.x.ph = 2) : Calls Tryd.prog 8 #[plv p v, sv S h, .agg (anl 4 cc d).toArray] w fun e w' => e = .returned (.tuple #[sv S h, .bool false, .bool true]) ∧ Below w.heap.size w w' := by
  have hc := (pfits_iff hf).2.1
  have HNX0 : ∀ w', Below w.heap.size w w' → Calls Tryd.prog 6 #[plv p v, sv S h] w' fun e w'' => e = .returned (.tuple #[nextV p S, .int .i64 0]) ∧ Below w'.heap.size w' w'' := fun w' hb => pnext_any p v S h w' (a.kept hb) hf
  have HNU : Hid (∀ w', Calls Tryd.prog 7 #[.int .i64 0] w' fun e w'' => e = .returned (.int .i64 0) ∧ w' = w'') := fun w' => pnum_any 0 w' (by decide) (by decide)
  obtain ⟨ZR, hZR⟩ : ∃ ZR, ZR = zrl := ⟨_, rfl⟩
  have HZR : Hid (ZR = zrl) := hZR
  have HZRL : Hid (ZR.length = 12) := by show _ = _; rw [hZR]; rfl
  clear hZR
  have hkd : deedK S.x = 4 := by rcases flight_deed hc hfl with ⟨e, e2⟩ | ⟨e, e2⟩ <;> omega
  obtain ⟨M, hMM⟩ : ∃ M : List Value, M = actl (deedK S.x) S.x.id (if 1 ≤ deedK S.x ∧ deedK S.x ≤ 4 then S.x.turn else 0) (if deedK S.x = 1 ∨ deedK S.x = 3 then S.x.nextTry else if deedK S.x = 2 ∨ deedK S.x = 4 then S.x.tr else 0) (if 1 ≤ deedK S.x ∧ deedK S.x ≤ 4 then nameT p S else ⟨#[]⟩) := ⟨_, rfl⟩
  have hNV : nextV p S = .agg M.toArray := by rw [hMM]; rfl
  rw [hNV] at HNX0
  have HM5 : Hid (M.length = 5 ∧ (Tryd.prog.info? 31).map (·.size) = some M.length ∧ (∀ v ∈ M, v.oneCell' = true)) := by rw [hMM]; exact ⟨rfl, infoAct, actl_one _ _ _ _ _⟩
  have HK0 : Hid (M[0]? = some (.int .i64 (deedK S.x))) := by show _ = _; rw [hMM]; rfl
  have hk24 : deedK S.x = 2 ∨ deedK S.x = 4 := by omega
  have hk14 : 1 ≤ deedK S.x ∧ deedK S.x ≤ 4 := by omega
  have hk13 : ¬(deedK S.x = 1 ∨ deedK S.x = 3) := by omega
  obtain ⟨X, hX⟩ : ∃ X, X = recQ (deedK S.x) S.x.id S.x.turn S.x.tr := ⟨_, rfl⟩
  have hMX : M = actl (deedK S.x) S.x.id S.x.turn S.x.tr (nameT p S) := by rw [hMM, if_pos hk14, if_neg hk13, if_pos hk24, if_pos hk14]
  have HRE : Hid (∀ w', Calls Tryd.prog 20 #[.agg M.toArray] w' fun e w'' => e = .returned (rv X ⟨#[]⟩ (.slice none 0 0)) ∧ Below w'.heap.size w' w'') := fun w' => by
    rw [hX, hMX]; exact precord_any _ _ _ _ _ w'
  have HAS0 : ∀ w', Below w.heap.size w w' → Calls Tryd.prog 21 #[plv p v, sv S h] w' fun e w'' => ∃ d, e = .returned (.tuple #[.agg (askl S (nameT p S) d).toArray, .int .i64 0]) ∧ d.oneCell' = true ∧ Below w'.heap.size w' w'' := fun w' hb => pask_any p v S h w' (a.kept hb) hf hfl
  have HAN0 : ∀ w', Below w.heap.size w w' → Calls Tryd.prog 22 #[plv p v, sv S h, .agg (anl 4 cc d).toArray] w' fun e w'' => e = .returned (.tuple #[.agg zrl.toArray, .bool false, .int .i64 0]) ∧ Below w'.heap.size w' w'' := fun w' hb' => panswer_4 p v S h cc d l w' (a.kept hb') (hb.kept hb') hlen hf hfl
  have HM2 : Hid (M[2]? = some (.int .i64 S.x.turn) ∧ M[3]? = some (.int .i64 S.x.tr) ∧ M[4]? = some (.string (nameT p S))) := by rw [hMX]; exact ⟨rfl, rfl, rfl⟩
  have HAK : Hid (∀ d, askl S (nameT p S) d = [.int .i64 S.x.id, .int .i64 S.x.turn, .bool (S.x.ph == 2), .int .i64 S.x.tr, .string (nameT p S), d]) := fun d => rfl
  rw [hkd] at HK0
  have hp2 : (S.x.ph == 2) = true := by rw [hph]; decide
  generalize nameT p S = N at *
  generalize deedK S.x = KD at *
  clear hMM hNV a _hT hc hf _he hlen hfl hX hk24 hk14 hk13 hMX hkd
  obtain ⟨ad, cd, ed, -⟩ := hb.shape
  subst ed
  obtain ⟨Z, hZ⟩ : ∃ Z, Z = zcl := ⟨_, rfl⟩
  have HZ : Hid (Z = zcl) := hZ
  have HZL : Hid (Z.length = 16) := by show _ = _; rw [hZ]; rfl
  clear hZ
  obtain ⟨C, hC, hM, hG⟩ := plv_letter p v
  obtain ⟨D, hD, hL, hE⟩ := sv_letter S h
  rw [hC, hD]
  try rw [hC] at HNX0
  try rw [hD] at HNX0
  try rw [hC] at HAS0
  try rw [hD] at HAS0
  try rw [hC] at HAN0
  try rw [hD] at HAN0
  have HNX : Hid _ := HNX0
  have HAS : Hid _ := HAS0
  have HAN : Hid _ := HAN0
  have HM : Hid _ := hM
  have HG : Hid (C = plvl p v) := hG
  have HL : Hid _ := hL
  have HE : Hid (D = scl S h) := hE
  clear hC hM hG hD hL hE HNX0 HAS0 HAN0
  go_enter Tryd.func8, Tryd.ntmps8
  go_upto_region 1 with (first | (refine wpList_alloc_Z HZ.out rfl rfl ?_) | fail)
  obtain ⟨W, eW⟩ : ∃ W, W = (((w.alloc (.cells C.toArray 24)).alloc (.cells D.toArray 28)).alloc (.cells (anl 4 cc (.slice ad l.length cd)).toArray 39)).alloc (.cells Z.toArray 28) := ⟨_, rfl⟩
  rw [← eW]
  have H0 : Hid (LB W w.heap.size 24 C ∧ LB W (w.heap.size + 1) 28 D ∧ Below w.heap.size w W ∧ LB W (w.heap.size + 1 + 1) 39 (anl 4 cc (.slice ad l.length cd)) ∧ LB W (w.heap.size + 1 + 1 + 1) 28 Z) := by
    obtain ⟨q1, q2, q3, q4⟩ := lb_new3 w C D (anl 4 cc (.slice ad l.length cd)) 24 28 39
    rw [eW]
    exact ⟨q1.kept (up0 _ _), q2.kept (up0 _ _), andThen q4 (up0 _ _), q3.kept (up0 _ _), lb_new4 w C D _ _ _ _ _ _⟩
  clear eW
  generalize hg4 : w.heap.size + 1 + 1 + 1 = g4 at *
  generalize hg3 : w.heap.size + 1 + 1 = g3 at *
  have HG : Hid (w.heap.size ≤ g3 ∧ w.heap.size ≤ g4 ∧ w.heap.size + 1 ≠ g4) := by refine ⟨?_, ?_, ?_⟩ <;> omega
  clear hg3 hg4
  go_wp2_with (first | (refine wpList_load_mid rfl 24 _ rfl w.heap.size 0 rfl C _ H0.out.1.range Tryd.underlying24 rfl HM.out ?_) | (refine wpList_load_mid rfl 28 _ rfl (w.heap.size + 1) 0 rfl D _ H0.out.2.1.range Tryd.underlying28 rfl HL.out ?_) | (refine wpList_load_midG rfl 24 _ rfl w.heap.size 0 rfl C _ H0.out.1.range Tryd.underlying24 rfl HM.out ?_) | (refine wpList_load_midG rfl 28 _ rfl (w.heap.size + 1) 0 rfl D _ H0.out.2.1.range Tryd.underlying28 rfl HL.out ?_) | fail)
  refine (HNX.out _ H0.out.2.2.1).mono ?_
  rintro e w1 ⟨rfl, b1⟩
  have HT9 : Hid ((w1.alloc (.cells #[.int .i64 0, .int .i64 0, .int .i64 0, .int .i64 0, .string ⟨#[]⟩] 31)).there w1.heap.size 0 M.toArray.size) := there_of (lb_new w1 [.int .i64 0, .int .i64 0, .int .i64 0, .int .i64 0, .string ⟨#[]⟩] _) (by simp [HM5.out.1])
  have E9 : Hid (∃ Y, Y = (w1.alloc (.cells #[.int .i64 0, .int .i64 0, .int .i64 0, .int .i64 0, .string ⟨#[]⟩] 31)).setCells w1.heap.size 0 M ∧ (LB Y w.heap.size 24 C ∧ LB Y (w.heap.size + 1) 28 D ∧ Below w.heap.size w Y ∧ LB Y g3 39 (anl 4 cc (.slice ad l.length cd)) ∧ LB Y g4 28 Z) ∧ LB Y w1.heap.size 31 M ∧ w.heap.size ≤ w1.heap.size) := by
    obtain ⟨q1, q2⟩ := one_boxQ w1 31 [.int .i64 0, .int .i64 0, .int .i64 0, .int .i64 0, .string ⟨#[]⟩] M HM5.out.1
    have z := H0.out
    have q3 := andThen b1 q2
    exact ⟨_, rfl, ⟨z.1.kept q3, z.2.1.kept q3, andThen z.2.2.1 q3, z.2.2.2.1.kept q3, z.2.2.2.2.kept q3⟩, q1, (andThen z.2.2.1 b1).size⟩
  clear b1 H0 HNX
  go_wp2_with (first | (refine wpList_store_mid rfl 31 (.tmp 9) (.tmp 21) rfl w1.heap.size 0 M.toArray rfl rfl HT9.out (by simpa using HM5.out.2.1) (all_oneCell_toArray HM5.out.2.2) ?_; (obtain ⟨Y1, hY, hq⟩ := E9.out); (have H1 : Hid _ := hq); (rw [List.toList_toArray, ← hY]); (clear hY hq E9 HT9)) | fail)
  generalize w1.heap.size = g9 at *
  refine (HNU.out _).mono ?_
  rintro e w2 ⟨rfl, rfl⟩
  have k0 := H1.out.2.1.cell 0 _ HK0.out
  have hNN : (N.toList == N.toList) = true := by simp
  go_wp2_with (first | (refine wpList_load_mid rfl 31 _ rfl g9 0 rfl M _ H1.out.2.1.range Tryd.underlying31 rfl HM5.out.2.1 ?_) | fail)
  refine (HRE.out _).mono ?_
  rintro e w4 ⟨rfl, b4⟩
  have HN9 : Hid (w.heap.size ≤ g9) := H1.out.2.2
  obtain ⟨D4, hD, hL, hE⟩ := rv_letter X ⟨#[]⟩ (.slice none 0 0)
  rw [hD]
  have HD4 : Hid (rv X ⟨#[]⟩ (.slice none 0 0) = .agg D4.toArray) := hD
  have HDL4 : Hid _ := hL
  have HDO4 : Hid (∀ v ∈ D4, v.oneCell' = true) := by show ∀ v ∈ D4, _; rw [hE]; exact rcE_one _ _ _ rfl
  have HDZ4 : Hid (D4.length = ZR.length) := by show _ = _; rw [hE, HZRL.out]; rfl
  have HT4 : Hid ((w4.alloc (.cells ZR.toArray 50)).there w4.heap.size 0 D4.toArray.size) := there_of (lb_new w4 ZR _) (by simpa using HDZ4.out)
  have EE4 : Hid (∃ Y, Y = (w4.alloc (.cells ZR.toArray 50)).setCells w4.heap.size 0 D4 ∧ (LB Y w.heap.size 24 C ∧ LB Y (w.heap.size + 1) 28 D ∧ Below w.heap.size w Y ∧ LB Y g3 39 (anl 4 cc (.slice ad l.length cd)) ∧ LB Y g4 28 Z) ∧ LB Y w4.heap.size 50 D4 ∧ LB Y g9 31 M ∧ w.heap.size ≤ w4.heap.size) := by
    obtain ⟨q1, q2⟩ := one_boxQ w4 50 ZR D4 HDZ4.out
    exact ⟨_, rfl, by have z := H1.out.1; have q3 := andThen b4 q2; exact ⟨z.1.kept q3, z.2.1.kept q3, andThen z.2.2.1 q3, z.2.2.2.1.kept q3, z.2.2.2.2.kept q3⟩, q1, (H1.out.2.1.kept b4).kept q2, (andThen H1.out.1.2.2.1 b4).size⟩
  clear hD hL hE b4 H1 HRE k0
  go_wp2_with (first | (refine wpList_alloc_R HZR.out rfl rfl ?_) | (refine wpList_store_mid rfl 50 (.tmp 11) (.tmp 34) rfl w4.heap.size 0 D4.toArray rfl rfl HT4.out (by simpa using HDL4.out) (all_oneCell_toArray HDO4.out) ?_; (obtain ⟨Y4, hY, hq⟩ := EE4.out); (have H4 : Hid _ := hq); (rw [List.toList_toArray, ← hY]); (have k0 := hq.2.2.1.cell 0 _ HK0.out); (clear hY hq EE4 HT4)) | (refine wpList_load_mid rfl 24 _ rfl w.heap.size 0 rfl C _ H4.out.1.1.range Tryd.underlying24 rfl HM.out ?_) | (refine wpList_load_mid rfl 28 _ rfl (w.heap.size + 1) 0 rfl D _ H4.out.1.2.1.range Tryd.underlying28 rfl HL.out ?_) | (refine wpList_load_midG rfl 24 _ rfl w.heap.size 0 rfl C _ H4.out.1.1.range Tryd.underlying24 rfl HM.out ?_) | (refine wpList_load_midG rfl 28 _ rfl (w.heap.size + 1) 0 rfl D _ H4.out.1.2.1.range Tryd.underlying28 rfl HL.out ?_) | fail)
  generalize w4.heap.size = q4g at *
  refine (HAS.out _ H4.out.1.2.2.1).mono ?_
  rintro e w6 ⟨da, rfl, h1a, b6⟩
  obtain ⟨MA, hMA⟩ : ∃ MA, MA = askl S N da := ⟨_, rfl⟩
  rw [← hMA]
  have HMA : Hid (MA.length = 6 ∧ (Tryd.prog.info? 64).map (·.size) = some MA.length ∧ (∀ v ∈ MA, v.oneCell' = true) ∧ MA[1]? = some (.int .i64 S.x.turn) ∧ MA[2]? = some (.bool (S.x.ph == 2)) ∧ MA[3]? = some (.int .i64 S.x.tr) ∧ MA[4]? = some (.string N)) := by rw [hMA]; exact ⟨rfl, infoCall, askl_one S N da h1a, rfl, rfl, rfl, rfl⟩
  have HT6 : Hid ((w6.alloc (.cells #[.int .i64 0, .int .i64 0, .bool false, .int .i64 0, .string ⟨#[]⟩, .slice none 0 0] 64)).there w6.heap.size 0 MA.toArray.size) := there_of (lb_new w6 [.int .i64 0, .int .i64 0, .bool false, .int .i64 0, .string ⟨#[]⟩, .slice none 0 0] _) (by simp [HMA.out.1])
  have E6 : Hid (∃ Y, Y = (w6.alloc (.cells #[.int .i64 0, .int .i64 0, .bool false, .int .i64 0, .string ⟨#[]⟩, .slice none 0 0] 64)).setCells w6.heap.size 0 MA ∧ (LB Y w.heap.size 24 C ∧ LB Y (w.heap.size + 1) 28 D ∧ Below w.heap.size w Y ∧ LB Y g3 39 (anl 4 cc (.slice ad l.length cd)) ∧ LB Y g4 28 Z) ∧ LB Y q4g 50 D4 ∧ LB Y g9 31 M ∧ LB Y w6.heap.size 64 MA) := by
    obtain ⟨q1, q2⟩ := one_boxQ w6 64 [.int .i64 0, .int .i64 0, .bool false, .int .i64 0, .string ⟨#[]⟩, .slice none 0 0] MA HMA.out.1
    have z := H4.out.1
    have q3 := andThen b6 q2
    exact ⟨_, rfl, ⟨z.1.kept q3, z.2.1.kept q3, andThen z.2.2.1 q3, z.2.2.2.1.kept q3, z.2.2.2.2.kept q3⟩, H4.out.2.1.kept q3, H4.out.2.2.1.kept q3, q1⟩
  have HQ4 : Hid (w.heap.size ≤ q4g) := H4.out.2.2.2
  have HQN : Hid (q4g ≠ g4 ∧ q4g ≠ w.heap.size + 1) := ⟨lb_ne H4.out.2.1 H4.out.1.2.2.2.2 (by decide), lb_ne H4.out.2.1 H4.out.1.2.1 (by decide)⟩
  clear hMA h1a b6 H4 HAS k0
  go_wp2_with (first | (refine wpList_store_mid rfl 64 (.tmp 12) (.tmp 47) rfl w6.heap.size 0 MA.toArray rfl rfl HT6.out (by simpa using HMA.out.2.1) (all_oneCell_toArray HMA.out.2.2.1) ?_; (obtain ⟨Y6, hY, hq⟩ := E6.out); (have H6 : Hid _ := hq); (rw [List.toList_toArray, ← hY]); (clear hY hq E6 HT6)) | fail)
  generalize w6.heap.size = q6g at *
  refine (HNU.out _).mono ?_
  rintro e w7 ⟨rfl, rfl⟩
  have k0 := H6.out.2.2.1.cell 0 _ HK0.out
  have k2 := H6.out.2.2.1.cell 2 _ HM2.out.1
  have k3 := H6.out.2.2.1.cell 3 _ HM2.out.2.1
  have k4 := H6.out.2.2.1.cell 4 _ HM2.out.2.2
  have m1 := H6.out.2.2.2.cell 1 _ HMA.out.2.2.2.1
  have m2 := H6.out.2.2.2.cell 2 _ HMA.out.2.2.2.2.1
  have m3 := H6.out.2.2.2.cell 3 _ HMA.out.2.2.2.2.2.1
  have m4 := H6.out.2.2.2.cell 4 _ HMA.out.2.2.2.2.2.2
  have HAI : Hid ((Tryd.prog.info? 39).map (·.size) = some (anl 4 cc (.slice ad l.length cd)).length) := infoAns
  go_wp2_with (first | (refine wpList_load_mid rfl 24 _ rfl w.heap.size 0 rfl C _ H6.out.1.1.range Tryd.underlying24 rfl HM.out ?_) | (refine wpList_load_mid rfl 28 _ rfl (w.heap.size + 1) 0 rfl D _ H6.out.1.2.1.range Tryd.underlying28 rfl HL.out ?_) | (refine wpList_load_midG rfl 24 _ rfl w.heap.size 0 rfl C _ H6.out.1.1.range Tryd.underlying24 rfl HM.out ?_) | (refine wpList_load_midG rfl 28 _ rfl (w.heap.size + 1) 0 rfl D _ H6.out.1.2.1.range Tryd.underlying28 rfl HL.out ?_) | (refine wpList_load_mid rfl 39 _ rfl g3 0 rfl (anl 4 cc (.slice ad l.length cd)) _ H6.out.1.2.2.2.1.range Tryd.underlying39 rfl HAI.out ?_) | fail)
  rw [← HZR.out] at HAN
  refine (HAN.out _ H6.out.1.2.2.1).mono ?_
  rintro e w8 ⟨rfl, b8⟩
  have HDO8 : Hid (∀ v ∈ ZR, v.oneCell' = true) := by
    show ∀ v ∈ ZR, _
    rw [HZR.out]
    intro v hv
    unfold zrl at hv
    simp only [List.mem_cons, List.not_mem_nil, or_false] at hv
    rcases hv with rfl | rfl | rfl | rfl | rfl | rfl | rfl | rfl | rfl | rfl | rfl | rfl <;> rfl
  have HDL8 : Hid ((Tryd.prog.info? 50).map (·.size) = some ZR.length) := by show _ = _; rw [HZRL.out]; exact infoRec
  have HT8 : Hid (w8.there q4g 0 ZR.toArray.size) := there_of (H6.out.2.1.kept b8) (by simp [HDZ4.out])
  have E8 : Hid (∃ Y, Y = w8.setCells q4g 0 ZR ∧ (LB Y w.heap.size 24 C ∧ LB Y (w.heap.size + 1) 28 D ∧ Below w.heap.size w Y ∧ LB Y g3 39 (anl 4 cc (.slice ad l.length cd)) ∧ LB Y g4 28 Z)) := by
    have z := H6.out.1
    have zr := H6.out.2.1.kept b8
    exact ⟨_, rfl, (z.1.kept b8).others _ _ _ (lb_ne (z.1.kept b8) zr (by decide)), (z.2.1.kept b8).others _ _ _ (Ne.symm HQN.out.2), below_cells HQ4.out _ 0 _ (andThen z.2.2.1 b8), (z.2.2.2.1.kept b8).others _ _ _ (lb_ne (z.2.2.2.1.kept b8) zr (by decide)), (z.2.2.2.2.kept b8).others _ _ _ (Ne.symm HQN.out.1)⟩
  clear b8 H6 k0 k2 k3 k4 m1 m2 m3 m4 HAN
  go_wp2_with (first | (refine wpList_store_mid rfl 50 (.tmp 11) (.tmp 87) rfl q4g 0 ZR.toArray rfl rfl HT8.out (by simpa using HDL8.out) (all_oneCell_toArray HDO8.out) ?_; (obtain ⟨Y8, hY, hq⟩ := E8.out); (have H8 : Hid _ := hq); (rw [List.toList_toArray, ← hY]); (clear hY hq E8 HT8)) | fail)
  refine (HNU.out _).mono ?_
  rintro e w9 ⟨rfl, rfl⟩
  have a0 := H8.out.2.2.2.1.cell 0 _ rfl
  have HDO : Hid (∀ v ∈ D, v.oneCell' = true) := by show ∀ v ∈ D, _; rw [HE.out]; exact scl_one _ _
  have HDZ : Hid (D.length = Z.length) := by show _ = _; rw [HE.out, HZL.out]; rfl
  have HT9 : Hid (Y8.there g4 0 D.toArray.size) := there_of H8.out.2.2.2.2 (by simp [HDZ.out])
  have H9 : Hid (∀ Y, Y = Y8.setCells g4 0 D → LB Y g4 28 D ∧ Below w.heap.size w Y) := fun Y hY => by
    rw [hY]
    exact ⟨H8.out.2.2.2.2.sets D HDZ.out, below_cells HG.out.2.1 _ 0 _ H8.out.2.2.1⟩
  go_wp2_with (first | (refine wpList_load_mid rfl 28 _ rfl (w.heap.size + 1) 0 rfl D _ H8.out.2.1.range Tryd.underlying28 rfl HL.out ?_) | (refine wpList_store_mid rfl 28 (.tmp 6) (.tmp 103) rfl g4 0 D.toArray rfl rfl HT9.out (by simpa using HL.out) (all_oneCell_toArray HDO.out) ?_; (rw [List.toList_toArray])) | fail)
  refine bodyPost_ret (results_cell_slot2 (p := 6) (s := 7) (s2 := 8) (ty := 28) rfl _ (Y8.setCells g4 0 D) g4 D _ rfl (H9.out _ rfl).1.range Tryd.underlying28 rfl HL.out) rfl ?_
  exact ⟨rfl, (H9.out _ rfl).2⟩

/-- what turn leaves, whatever is answered -/
def TuG (p : Pln) (S : Sg) (h : SH) (O cc : Int) (l : List Nat) (w : World) (e : Ending) (w' : World) : Prop := ∃ T h' en, e = .returned (.tuple #[sv T h', .bool en, .bool true]) ∧ Below w.heap.size w w' ∧
  ((S.x.ended = true ∧ T = S ∧ h' = h ∧ en = true) ∨ (S.x.ended = false ∧ S.x.fl = true ∧ O = 4 ∧ T = S ∧ h' = h ∧ en = false) ∨
   (S.x.ended = false ∧ S.x.fl = true ∧ O ≠ 4 ∧ T = deedS S (ansR p S O cc l) ∧ en = false ∧ SgO w.heap.size w' T h') ∨ (S.x.ended = false ∧ S.x.fl = false ∧ T = deedS S (turnR S l) ∧ en = false ∧ SgO w.heap.size w' T h'))
theorem pturnG_any (p : Pln) (v : Value) (S : Sg) (h : SH) (O cc : Int) (d : Value) (l : List Nat) (w : World) (a : PA w p v S h) (hT : STabs w) (hb : Bs w d l) (hlen : l.length ≤ 16384) (hf : fitP p S = 0) (hO : 1 ≤ O ∧ O ≤ 4) (hc1 : -9223372036854775808 ≤ cc) (hc2 : cc ≤ 9223372036854775807) : Calls Tryd.prog 8 #[plv p v, sv S h, .agg (anl O cc d).toArray] w fun e w' => TuG p S h O cc l w e w' := by
  cases he : S.x.ended with
  | true =>
    refine (pturnG_0 O cc p v S h d l w a hT hb hlen hf he).mono fun e w' q => ?_
    unfold TuPost at q
    rw [if_pos he] at q
    exact ⟨S, h, true, q.1, q.2, .inl ⟨he, rfl, rfl, rfl⟩⟩
  | false =>
    cases hl : S.x.fl with
    | false =>
      refine (pturnG_a O cc p v S h d l w a hT hb hlen hf he hl).mono fun e w' q => ?_
      unfold TuPost at q
      rw [if_neg (by rw [he]; decide)] at q
      obtain ⟨h', e1, e2, e3⟩ := q
      exact ⟨_, h', false, e1, e3, .inr (.inr (.inr ⟨he, hl, rfl, rfl, e2⟩))⟩
    | true =>
      by_cases h4 : O = 4
      · subst h4
        rcases flight_deed (pfits_iff hf).2.1 hl with ⟨_, e⟩ | ⟨_, e⟩
        · exact (pturnG_l2 cc p v S h d l w a hT hb hlen hf he hl e).mono fun e w' q => ⟨S, h, false, q.1, q.2, .inr (.inl ⟨he, hl, rfl, rfl, rfl, rfl⟩)⟩
        · exact (pturnG_l4 cc p v S h d l w a hT hb hlen hf he hl e).mono fun e w' q => ⟨S, h, false, q.1, q.2, .inr (.inl ⟨he, hl, rfl, rfl, rfl, rfl⟩)⟩
      · have hO3 : 1 ≤ O ∧ O ≤ 3 := by omega
        rcases flight_deed (pfits_iff hf).2.1 hl with ⟨_, e⟩ | ⟨_, e⟩
        · exact (pturnG_b2 O cc p v S h d l w a hT hb hlen hf he hl hO3 hc1 hc2 e).mono fun e w' ⟨h', e1, e2, e3⟩ => ⟨_, h', false, e1, e3, .inr (.inr (.inl ⟨he, hl, h4, rfl, rfl, e2⟩))⟩
        · exact (pturnG_b4 O cc p v S h d l w a hT hb hlen hf he hl hO3 hc1 hc2 e).mono fun e w' ⟨h', e1, e2, e3⟩ => ⟨_, h', false, e1, e3, .inr (.inr (.inl ⟨he, hl, h4, rfl, rfl, e2⟩))⟩
end Go.Proofs.YtodcakplmoajiaaDoor
