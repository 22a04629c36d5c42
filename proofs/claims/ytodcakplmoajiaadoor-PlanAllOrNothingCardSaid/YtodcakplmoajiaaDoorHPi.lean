/-
  Package plan: Answer, of failures and of what is lost.
-/
import Derived.Test.YtodcakplmoajiaaDoorHX0
import Derived.Deep.RegionHeld3
namespace Go.Proofs.YtodcakplmoajiaaDoor
open Go Go.RowKit
open Wb

theorem nx_of {S : Sg} (hc : chkS S = true) : 0 ≤ S.x.nx ∧ S.x.nx ≤ 32 := (bnd_of S hc).1

set_option maxRecDepth 100000 in
set_option maxHeartbeats 8000000 in
theorem panswer_3 (p : Pln) (v : Value) (S : Sg) (h : SH) (c : Int) (d : Value) (l : List Nat) (w : World) (a : PA w p v S h) (hb : Bs w d l) (hlen : l.length ≤ 16384) (hf : fitP p S = 0) (hl : S.x.fl = true) : Calls Tryd.prog 22 #[plv p v, sv S h, .agg (anl 3 c d).toArray] w fun e w' => AnPost p S 3 c l w e w' := by
  have hc := (pfits_iff hf).2.1
  have HFI0 : ∀ w', Below w.heap.size w w' → Calls Tryd.prog 28 #[plv p v, sv S h] w' fun e w'' => e = .returned (.int .i64 0) ∧ Below w'.heap.size w' w'' := fun w' hb => by have e := pflight_any p v S h w' (a.kept hb); rw [flightP_ok hf hl] at e; exact e
  have HOT0 : ∀ w', Below w.heap.size w w' → Calls Tryd.prog 18 #[plv p v, sv S h] w' fun e w'' => e = .returned (.tuple #[.int .i64 S.x.turn, .string (nameT p S)]) ∧ Below w'.heap.size w' w'' := fun w' hb => ponturn_any p v S h w' (a.s.kept hb) hf (by rcases flight_deed hc hl with ⟨e, _⟩ | ⟨e, _⟩ <;> rw [e] <;> decide)
  have hnx := nx_of hc
  have HLA0 : ∀ w', Calls Tryd.prog 32 #[plv p v, sv S h] w' fun e w'' => e = .returned (.int .i64 (lastW p S.x)) ∧ Below w'.heap.size w' w'' := fun w' => plastw_any p v S h w' hnx.1 hnx.2
  have HCL : Hid (∀ w', Below w.heap.size w w' → Calls Tryd.prog 29 #[d] w' fun e w'' => ∃ d', e = .returned d' ∧ Own w'.heap.size w'' d' l ∧ Below w'.heap.size w' w'') := fun w' hb' => bclone_any d _ w' (hb.kept hb') (by omega)
  have HAX : Hid (∀ d' w', Own w.heap.size w' d' l → Below w.heap.size w w' → AnPost p S 3 c l w (.returned (.tuple #[.agg #[.int .i64 3, .int .i64 4, .int .i64 S.x.id, .int .i64 S.x.turn, .int .i64 0, .int .i64 0, .int .i64 (lastW p S.x), .int .i64 c, .int .i64 0, .int .i64 0, .string ⟨#[]⟩, d'], .bool true, .int .i64 0])) w') := fun d' w' h2 h3 => ⟨d', rfl, h2, h3⟩
  obtain ⟨ad, cd, ed, -⟩ := hb.shape
  subst ed
  generalize nameT p S = N at *
  generalize S.x.turn = U at *
  generalize lastW p S.x = Q at *
  generalize AnPost p S 3 c l w = POST at *
  clear a hf hc hl hnx
  obtain ⟨C, hC, hM, hG⟩ := plv_letter p v
  obtain ⟨D, hD, hL, hE⟩ := sv_letter S h
  rw [hC, hD]
  try rw [hC] at HFI0
  try rw [hD] at HFI0
  try rw [hC] at HOT0
  try rw [hD] at HOT0
  try rw [hC] at HLA0
  try rw [hD] at HLA0
  have HFI : Hid _ := HFI0
  have HOT : Hid _ := HOT0
  have HLA : Hid _ := HLA0
  have HM : Hid _ := hM
  have HG : Hid (C = plvl p v) := hG
  have HL : Hid _ := hL
  have HE : Hid (D = scl S h) := hE
  clear hC hM hG hD hL hE HFI0 HOT0 HLA0
  have hl1 : ((l.length : Int) > 16384) = False := by simp; omega
  have hl2 : ¬ (16384 : Int) < (l.length : Int) := by omega
  go_enter Tryd.func22, Tryd.ntmps22
  go_upto_region 1 with fail
  obtain ⟨W, eW⟩ : ∃ W, W = (((w.alloc (.cells C.toArray 24)).alloc (.cells D.toArray 28)).alloc (.cells (anl 3 c (.slice ad l.length cd)).toArray 39)).alloc (.cells #[.int .i64 0, .int .i64 0, .int .i64 0, .int .i64 0, .int .i64 0, .int .i64 0, .int .i64 0, .int .i64 0, .int .i64 0, .int .i64 0, .string ⟨#[]⟩, .slice none 0 0] 50) := ⟨_, rfl⟩
  rw [← eW]
  have H0 : Hid (LB W w.heap.size 24 C ∧ LB W (w.heap.size + 1) 28 D ∧ Below w.heap.size w W ∧ LB W (w.heap.size + 1 + 1) 39 (anl 3 c (.slice ad l.length cd)) ∧ LB W (w.heap.size + 1 + 1 + 1) 50 [.int .i64 0, .int .i64 0, .int .i64 0, .int .i64 0, .int .i64 0, .int .i64 0, .int .i64 0, .int .i64 0, .int .i64 0, .int .i64 0, .string ⟨#[]⟩, .slice none 0 0]) := by
    obtain ⟨q1, q2, q3, q4⟩ := lb_new3 w C D (anl 3 c (.slice ad l.length cd)) 24 28 39
    rw [eW]
    exact ⟨q1.kept (up0 _ _), q2.kept (up0 _ _), andThen q4 (up0 _ _), q3.kept (up0 _ _), lb_new4 w C D _ _ _ _ _ _⟩
  clear eW
  generalize hg4 : w.heap.size + 1 + 1 + 1 = g4 at *
  generalize hg3 : w.heap.size + 1 + 1 = g3 at *
  have HG : Hid (w.heap.size ≤ g3 ∧ w.heap.size ≤ g4) := by constructor <;> omega
  clear hg3 hg4
  have a2 := H0.out.2.2.2.1.cell 2 _ rfl
  go_wp2_with (first | (refine wpList_load_mid rfl 24 _ rfl w.heap.size 0 rfl C _ H0.out.1.range Tryd.underlying24 rfl HM.out ?_) | (refine wpList_load_mid rfl 28 _ rfl (w.heap.size + 1) 0 rfl D _ H0.out.2.1.range Tryd.underlying28 rfl HL.out ?_) | (refine wpList_load_midG rfl 24 _ rfl w.heap.size 0 rfl C _ H0.out.1.range Tryd.underlying24 rfl HM.out ?_) | (refine wpList_load_midG rfl 28 _ rfl (w.heap.size + 1) 0 rfl D _ H0.out.2.1.range Tryd.underlying28 rfl HL.out ?_) | fail)
  refine (HFI.out _ H0.out.2.2.1).mono ?_
  rintro e w1 ⟨rfl, b1⟩
  have H1 : Hid (LB w1 w.heap.size 24 C ∧ LB w1 (w.heap.size + 1) 28 D ∧ Below w.heap.size w w1 ∧ LB w1 g3 39 (anl 3 c (.slice ad l.length cd)) ∧ LB w1 g4 50 [.int .i64 0, .int .i64 0, .int .i64 0, .int .i64 0, .int .i64 0, .int .i64 0, .int .i64 0, .int .i64 0, .int .i64 0, .int .i64 0, .string ⟨#[]⟩, .slice none 0 0]) := ⟨H0.out.1.kept b1, H0.out.2.1.kept b1, andThen H0.out.2.2.1 b1, H0.out.2.2.2.1.kept b1, H0.out.2.2.2.2.kept b1⟩
  clear b1 H0 HFI a2
  go_wp2_with (first | (refine wpList_load_mid rfl 24 _ rfl w.heap.size 0 rfl C _ H1.out.1.range Tryd.underlying24 rfl HM.out ?_) | (refine wpList_load_mid rfl 28 _ rfl (w.heap.size + 1) 0 rfl D _ H1.out.2.1.range Tryd.underlying28 rfl HL.out ?_) | (refine wpList_load_midG rfl 24 _ rfl w.heap.size 0 rfl C _ H1.out.1.range Tryd.underlying24 rfl HM.out ?_) | (refine wpList_load_midG rfl 28 _ rfl (w.heap.size + 1) 0 rfl D _ H1.out.2.1.range Tryd.underlying28 rfl HL.out ?_) | fail)
  refine (HOT.out _ H1.out.2.2.1).mono ?_
  rintro e w2 ⟨rfl, b2⟩
  have H2 : Hid (LB w2 w.heap.size 24 C ∧ LB w2 (w.heap.size + 1) 28 D ∧ Below w.heap.size w w2 ∧ LB w2 g3 39 (anl 3 c (.slice ad l.length cd)) ∧ LB w2 g4 50 [.int .i64 0, .int .i64 0, .int .i64 0, .int .i64 0, .int .i64 0, .int .i64 0, .int .i64 0, .int .i64 0, .int .i64 0, .int .i64 0, .string ⟨#[]⟩, .slice none 0 0]) := ⟨H1.out.1.kept b2, H1.out.2.1.kept b2, andThen H1.out.2.2.1 b2, H1.out.2.2.2.1.kept b2, H1.out.2.2.2.2.kept b2⟩
  clear b2 H1 HOT
  have c0 := H2.out.2.1.cell 0 (.int .i64 S.x.id) (by rw [HE.out]; rfl)
  have a0 := H2.out.2.2.2.1.cell 0 _ rfl
  have a1 := H2.out.2.2.2.1.cell 1 _ rfl
  go_upto_region 8 with fail
  obtain ⟨X, eX⟩ : ∃ X, X = w2.alloc (.cells #[.int .i64 3, .int .i64 4, .int .i64 S.x.id, .int .i64 U, .int .i64 0, .int .i64 0, .int .i64 0, .int .i64 c, .int .i64 0, .int .i64 0, .string ⟨#[]⟩, .slice none 0 0] 50) := ⟨_, rfl⟩
  have H3 : Hid ((LB X w.heap.size 24 C ∧ LB X (w.heap.size + 1) 28 D ∧ Below w.heap.size w X ∧ LB X g3 39 (anl 3 c (.slice ad l.length cd)) ∧ LB X g4 50 [.int .i64 0, .int .i64 0, .int .i64 0, .int .i64 0, .int .i64 0, .int .i64 0, .int .i64 0, .int .i64 0, .int .i64 0, .int .i64 0, .string ⟨#[]⟩, .slice none 0 0]) ∧ LB X w2.heap.size 50 [.int .i64 3, .int .i64 4, .int .i64 S.x.id, .int .i64 U, .int .i64 0, .int .i64 0, .int .i64 0, .int .i64 c, .int .i64 0, .int .i64 0, .string ⟨#[]⟩, .slice none 0 0] ∧ w.heap.size ≤ w2.heap.size ∧ w2.heap.size ≠ g4) := by
    obtain ⟨z1, z2, z3, z4, z5⟩ := H2.out
    have u0 := up0 w2 (.cells #[.int .i64 3, .int .i64 4, .int .i64 S.x.id, .int .i64 U, .int .i64 0, .int .i64 0, .int .i64 0, .int .i64 c, .int .i64 0, .int .i64 0, .string ⟨#[]⟩, .slice none 0 0] 50)
    rw [eX]
    exact ⟨⟨z1.kept u0, z2.kept u0, andThen z3 u0, z4.kept u0, z5.kept u0⟩, lb_new w2 _ _, z3.size, by have := z5.lt; omega⟩
  rw [← eX]
  clear eX H2 c0 a0 a1
  generalize w2.heap.size = gr at *
  have a0 := H3.out.1.2.2.2.1.cell 0 _ rfl
  go_wp2_with (first | (refine wpList_load_mid rfl 24 _ rfl w.heap.size 0 rfl C _ H3.out.1.1.range Tryd.underlying24 rfl HM.out ?_) | (refine wpList_load_mid rfl 28 _ rfl (w.heap.size + 1) 0 rfl D _ H3.out.1.2.1.range Tryd.underlying28 rfl HL.out ?_) | (refine wpList_load_midG rfl 24 _ rfl w.heap.size 0 rfl C _ H3.out.1.1.range Tryd.underlying24 rfl HM.out ?_) | (refine wpList_load_midG rfl 28 _ rfl (w.heap.size + 1) 0 rfl D _ H3.out.1.2.1.range Tryd.underlying28 rfl HL.out ?_) | fail)
  refine (HLA.out _).mono ?_
  rintro e w4 ⟨rfl, b4⟩
  have H4 : Hid ((LB w4 w.heap.size 24 C ∧ LB w4 (w.heap.size + 1) 28 D ∧ Below w.heap.size w w4 ∧ LB w4 g3 39 (anl 3 c (.slice ad l.length cd)) ∧ LB w4 g4 50 [.int .i64 0, .int .i64 0, .int .i64 0, .int .i64 0, .int .i64 0, .int .i64 0, .int .i64 0, .int .i64 0, .int .i64 0, .int .i64 0, .string ⟨#[]⟩, .slice none 0 0]) ∧ LB w4 gr 50 [.int .i64 3, .int .i64 4, .int .i64 S.x.id, .int .i64 U, .int .i64 0, .int .i64 0, .int .i64 0, .int .i64 c, .int .i64 0, .int .i64 0, .string ⟨#[]⟩, .slice none 0 0] ∧ w.heap.size ≤ gr ∧ gr ≠ g4) := by
    obtain ⟨⟨z1, z2, z3, z4, z5⟩, z6, z7, z8⟩ := H3.out
    exact ⟨⟨z1.kept b4, z2.kept b4, andThen z3 b4, z4.kept b4, z5.kept b4⟩, z6.kept b4, z7, z8⟩
  clear b4 H3 HLA a0
  have y6 := H4.out.2.1.cell 6 _ rfl
  have yf : ∀ j : Nat, w4.frozen? ⟨gr, j, none⟩ = false := fun j => H4.out.2.1.free j
  have a2 := H4.out.1.2.2.2.1.cell 2 _ rfl
  have hn3 : gr ≠ g3 := lb_ne H4.out.2.1 H4.out.1.2.2.2.1 (by decide)
  have hn3' : g3 ≠ gr := Ne.symm hn3
  go_upto_region 18 with fail
  obtain ⟨X, eX⟩ : ∃ X, X = w4.setCell ⟨gr, 6, none⟩ (.int .i64 Q) := ⟨_, rfl⟩
  have H5 : Hid ((LB X w.heap.size 24 C ∧ LB X (w.heap.size + 1) 28 D ∧ Below w.heap.size w X ∧ LB X g3 39 (anl 3 c (.slice ad l.length cd)) ∧ LB X g4 50 [.int .i64 0, .int .i64 0, .int .i64 0, .int .i64 0, .int .i64 0, .int .i64 0, .int .i64 0, .int .i64 0, .int .i64 0, .int .i64 0, .string ⟨#[]⟩, .slice none 0 0]) ∧ LB X gr 50 [.int .i64 3, .int .i64 4, .int .i64 S.x.id, .int .i64 U, .int .i64 0, .int .i64 0, .int .i64 Q, .int .i64 c, .int .i64 0, .int .i64 0, .string ⟨#[]⟩, .slice none 0 0] ∧ w.heap.size ≤ gr ∧ gr ≠ g4) := by
    obtain ⟨⟨z1, z2, z3, z4, z5⟩, z6, z7, z8⟩ := H4.out
    have n1 := lb_ne z1 z6 (by decide)
    have n2 := lb_ne z2 z6 (by decide)
    have n3 := lb_ne z4 z6 (by decide)
    rw [eX]
    exact ⟨⟨z1.other _ _ n1, z2.other _ _ n2, z3.setCell z7 _, z4.other _ _ n3, z5.other _ _ (Ne.symm z8)⟩, z6.set 6 _, z7, z8⟩
  rw [← eX]
  clear eX H4 y6 yf a2
  have a2 := H5.out.1.2.2.2.1.cell 2 _ rfl
  go_wp2_with fail
  refine (HCL.out _ H5.out.1.2.2.1).mono ?_
  rintro e w6 ⟨d6, rfl, o6, b6⟩
  obtain ⟨a6, c6, e6, -⟩ := o6.bs.shape
  subst e6
  have H6 : Hid ((LB w6 w.heap.size 24 C ∧ LB w6 (w.heap.size + 1) 28 D ∧ Below w.heap.size w w6 ∧ LB w6 g3 39 (anl 3 c (.slice ad l.length cd)) ∧ LB w6 g4 50 [.int .i64 0, .int .i64 0, .int .i64 0, .int .i64 0, .int .i64 0, .int .i64 0, .int .i64 0, .int .i64 0, .int .i64 0, .int .i64 0, .string ⟨#[]⟩, .slice none 0 0]) ∧ LB w6 gr 50 [.int .i64 3, .int .i64 4, .int .i64 S.x.id, .int .i64 U, .int .i64 0, .int .i64 0, .int .i64 Q, .int .i64 c, .int .i64 0, .int .i64 0, .string ⟨#[]⟩, .slice none 0 0] ∧ w.heap.size ≤ gr ∧ gr ≠ g4 ∧ Own w.heap.size w6 (.slice a6 l.length c6) l) := by
    obtain ⟨⟨z1, z2, z3, z4, z5⟩, z6, z7, z8⟩ := H5.out
    exact ⟨⟨z1.kept b6, z2.kept b6, andThen z3 b6, z4.kept b6, z5.kept b6⟩, z6.kept b6, z7, z8, own_weak o6 z3.size⟩
  clear b6 o6 H5 HCL a2
  have y11 := H6.out.2.1.cell 11 _ rfl
  have yf : ∀ j : Nat, w6.frozen? ⟨gr, j, none⟩ = false := fun j => H6.out.2.1.free j
  go_upto_region 19 with fail
  obtain ⟨X, eX⟩ : ∃ X, X = w6.setCell ⟨gr, 11, none⟩ (.slice a6 l.length c6) := ⟨_, rfl⟩
  have H7 : Hid (Below w.heap.size w X ∧ LB X gr 50 [.int .i64 3, .int .i64 4, .int .i64 S.x.id, .int .i64 U, .int .i64 0, .int .i64 0, .int .i64 Q, .int .i64 c, .int .i64 0, .int .i64 0, .string ⟨#[]⟩, .slice a6 l.length c6] ∧ LB X g4 50 [.int .i64 0, .int .i64 0, .int .i64 0, .int .i64 0, .int .i64 0, .int .i64 0, .int .i64 0, .int .i64 0, .int .i64 0, .int .i64 0, .string ⟨#[]⟩, .slice none 0 0] ∧ Own w.heap.size X (.slice a6 l.length c6) l) := by
    obtain ⟨⟨z1, z2, z3, z4, z5⟩, z6, z7, z8, z9⟩ := H6.out
    rw [eX]
    exact ⟨z3.setCell z7 _, z6.set 11 _, z5.other _ _ (Ne.symm z8), own_oth z9 z6 (by decide) (fun b hb _ => set_other w6 _ _ b hb)⟩
  rw [← eX]
  clear eX H6 y11 yf
  obtain ⟨M, hM⟩ : ∃ M : List Value, M = [.int .i64 3, .int .i64 4, .int .i64 S.x.id, .int .i64 U, .int .i64 0, .int .i64 0, .int .i64 Q, .int .i64 c, .int .i64 0, .int .i64 0, .string ⟨#[]⟩, .slice a6 l.length c6] := ⟨_, rfl⟩
  have HM1 : Hid (LB X gr 50 M ∧ (Tryd.prog.info? 50).map (·.size) = some M.length ∧ (∀ v ∈ M, v.oneCell' = true) ∧ M.length = 12) := by
    rw [hM]
    refine ⟨H7.out.2.1, infoRec, ?_, rfl⟩
    intro v hv
    simp only [List.mem_cons, List.not_mem_nil, or_false] at hv
    rcases hv with rfl | rfl | rfl | rfl | rfl | rfl | rfl | rfl | rfl | rfl | rfl | rfl <;> rfl
  have HT7 : Hid (X.there g4 0 M.toArray.size) := there_of H7.out.2.2.1 (by simp [HM1.out.2.2.2])
  have H8 : Hid (∀ Y, Y = X.setCells g4 0 M → LB Y g4 50 M ∧ POST (.returned (.tuple #[.agg M.toArray, .bool true, .int .i64 0])) Y) := fun Y hY => by
    rw [hY]
    refine ⟨H7.out.2.2.1.sets M HM1.out.2.2.2, ?_⟩
    rw [hM]
    exact HAX.out _ _ (own_oth H7.out.2.2.2 H7.out.2.2.1 (by decide) (Oth.sets _ _ _ _)) (below_cells HG.out.2 _ 0 _ H7.out.1)
  clear hM
  go_wp2_with (first | (refine wpList_load_mid rfl 50 _ rfl gr 0 rfl M _ HM1.out.1.range Tryd.underlying50 rfl HM1.out.2.1 ?_) | (refine wpList_store_mid rfl 50 (.tmp 6) (.tmp 70) rfl g4 0 M.toArray rfl rfl HT7.out (by simpa using HM1.out.2.1) (all_oneCell_toArray HM1.out.2.2.1) ?_; (rw [List.toList_toArray])) | fail)
  refine bodyPost_ret (results_cell_slot2 (p := 6) (s := 7) (s2 := 8) (ty := 50) rfl _ _ g4 M _ rfl (H8.out _ rfl).1.range Tryd.underlying50 rfl HM1.out.2.1) rfl ?_
  exact (H8.out _ rfl).2

set_option maxRecDepth 100000 in
set_option maxHeartbeats 8000000 in
theorem panswer_2b (p : Pln) (v : Value) (S : Sg) (h : SH) (c : Int) (d : Value) (l : List Nat) (w : World) (a : PA w p v S h) (hb : Bs w d l) (hlen : l.length ≤ 16384) (hf : fitP p S = 0) (hl : S.x.fl = true) (hlt : ¬ S.x.tr < triesT p S) : Calls Tryd.prog 22 #[plv p v, sv S h, .agg (anl 2 c d).toArray] w fun e w' => AnPost p S 2 c l w e w' := by
  have hc := (pfits_iff hf).2.1
  have HFI0 : ∀ w', Below w.heap.size w w' → Calls Tryd.prog 28 #[plv p v, sv S h] w' fun e w'' => e = .returned (.int .i64 0) ∧ Below w'.heap.size w' w'' := fun w' hb => by have e := pflight_any p v S h w' (a.kept hb); rw [flightP_ok hf hl] at e; exact e
  have HOT0 : ∀ w', Below w.heap.size w w' → Calls Tryd.prog 18 #[plv p v, sv S h] w' fun e w'' => e = .returned (.tuple #[.int .i64 S.x.turn, .string (nameT p S)]) ∧ Below w'.heap.size w' w'' := fun w' hb => ponturn_any p v S h w' (a.s.kept hb) hf (by rcases flight_deed hc hl with ⟨e, _⟩ | ⟨e, _⟩ <;> rw [e] <;> decide)
  have hnx := nx_of hc
  have HLA0 : ∀ w', Calls Tryd.prog 32 #[plv p v, sv S h] w' fun e w'' => e = .returned (.int .i64 (lastW p S.x)) ∧ Below w'.heap.size w' w'' := fun w' => plastw_any p v S h w' hnx.1 hnx.2
  have HCL : Hid (∀ w', Below w.heap.size w w' → Calls Tryd.prog 29 #[d] w' fun e w'' => ∃ d', e = .returned d' ∧ Own w'.heap.size w'' d' l ∧ Below w'.heap.size w' w'') := fun w' hb' => bclone_any d _ w' (hb.kept hb') (by omega)
  have HAX : Hid (∀ d' w', Own w.heap.size w' d' l → Below w.heap.size w w' → AnPost p S 2 c l w (.returned (.tuple #[.agg #[.int .i64 3, .int .i64 4, .int .i64 S.x.id, .int .i64 S.x.turn, .int .i64 0, .int .i64 0, .int .i64 (lastW p S.x), .int .i64 c, .int .i64 0, .int .i64 0, .string ⟨#[]⟩, d'], .bool true, .int .i64 0])) w') := fun d' w' h2 h3 => ⟨d', by simp [rv, ansX, ansLast, hlt], h2, h3⟩
  obtain ⟨i, st, hi1, hi2, hi3, -⟩ := turn_idx hf (by rcases flight_deed hc hl with ⟨e, _⟩ | ⟨e, _⟩ <;> rw [e] <;> decide)
  have htr : triesT p S = st.t := by unfold triesT; rw [hi3]; simp [hi1]
  rw [htr] at hlt
  have hil : i < p.ss.length := (List.getElem?_eq_some_iff.1 hi1).1
  obtain ⟨ao, cs, rfl, hsl, hsm, hsc⟩ := a.s
  obtain ⟨bs, os, rfl, hsr⟩ := hsc i st hi1
  unfold maxLen at hsm
  have HST : Hid (∀ w', Below w.heap.size w w' → w'.cell? ⟨bs, os + i * 3 + 2, none⟩ = some (.int .i64 st.t)) := fun w' hb' => range_kept hsr hb' 2 _ rfl
  have hi5 : (0 : Int) ≤ (i : Int) := by omega
  have hi6 : (i : Int) < (p.ss.length : Int) := by omega
  rw [hi3] at HOT0 HAX
  clear hi1 hsr hsc htr
  obtain ⟨ad, cd, ed, -⟩ := hb.shape
  subst ed
  generalize nameT p S = N at *
  generalize lastW p S.x = Q at *
  generalize AnPost p S 2 c l w = POST at *
  clear a hf hc hl hnx
  obtain ⟨C, hC, hM, hG⟩ := plv_letter p (.slice (some ⟨bs, os, none⟩) p.ss.length cs)
  obtain ⟨D, hD, hL, hE⟩ := sv_letter S h
  rw [hC, hD]
  try rw [hC] at HFI0
  try rw [hD] at HFI0
  try rw [hC] at HOT0
  try rw [hD] at HOT0
  try rw [hC] at HLA0
  try rw [hD] at HLA0
  have HFI : Hid _ := HFI0
  have HOT : Hid _ := HOT0
  have HLA : Hid _ := HLA0
  have HM : Hid _ := hM
  have HGC : Hid (C = plvl p (.slice (some ⟨bs, os, none⟩) p.ss.length cs)) := hG
  have HL : Hid _ := hL
  have HE : Hid (D = scl S h) := hE
  clear hC hM hG hD hL hE HFI0 HOT0 HLA0
  have hl1 : ((l.length : Int) > 16384) = False := by simp; omega
  have hl2 : ¬ (16384 : Int) < (l.length : Int) := by omega
  go_enter Tryd.func22, Tryd.ntmps22
  go_upto_region 1 with fail
  obtain ⟨W, eW⟩ : ∃ W, W = (((w.alloc (.cells C.toArray 24)).alloc (.cells D.toArray 28)).alloc (.cells (anl 2 c (.slice ad l.length cd)).toArray 39)).alloc (.cells #[.int .i64 0, .int .i64 0, .int .i64 0, .int .i64 0, .int .i64 0, .int .i64 0, .int .i64 0, .int .i64 0, .int .i64 0, .int .i64 0, .string ⟨#[]⟩, .slice none 0 0] 50) := ⟨_, rfl⟩
  rw [← eW]
  have H0 : Hid (LB W w.heap.size 24 C ∧ LB W (w.heap.size + 1) 28 D ∧ Below w.heap.size w W ∧ LB W (w.heap.size + 1 + 1) 39 (anl 2 c (.slice ad l.length cd)) ∧ LB W (w.heap.size + 1 + 1 + 1) 50 [.int .i64 0, .int .i64 0, .int .i64 0, .int .i64 0, .int .i64 0, .int .i64 0, .int .i64 0, .int .i64 0, .int .i64 0, .int .i64 0, .string ⟨#[]⟩, .slice none 0 0]) := by
    obtain ⟨q1, q2, q3, q4⟩ := lb_new3 w C D (anl 2 c (.slice ad l.length cd)) 24 28 39
    rw [eW]
    exact ⟨q1.kept (up0 _ _), q2.kept (up0 _ _), andThen q4 (up0 _ _), q3.kept (up0 _ _), lb_new4 w C D _ _ _ _ _ _⟩
  clear eW
  generalize hg4 : w.heap.size + 1 + 1 + 1 = g4 at *
  generalize hg3 : w.heap.size + 1 + 1 = g3 at *
  have HG : Hid (w.heap.size ≤ g3 ∧ w.heap.size ≤ g4) := by constructor <;> omega
  clear hg3 hg4
  have a2 := H0.out.2.2.2.1.cell 2 _ rfl
  go_wp2_with (first | (refine wpList_load_mid rfl 24 _ rfl w.heap.size 0 rfl C _ H0.out.1.range Tryd.underlying24 rfl HM.out ?_) | (refine wpList_load_mid rfl 28 _ rfl (w.heap.size + 1) 0 rfl D _ H0.out.2.1.range Tryd.underlying28 rfl HL.out ?_) | (refine wpList_load_midG rfl 24 _ rfl w.heap.size 0 rfl C _ H0.out.1.range Tryd.underlying24 rfl HM.out ?_) | (refine wpList_load_midG rfl 28 _ rfl (w.heap.size + 1) 0 rfl D _ H0.out.2.1.range Tryd.underlying28 rfl HL.out ?_) | fail)
  refine (HFI.out _ H0.out.2.2.1).mono ?_
  rintro e w1 ⟨rfl, b1⟩
  have H1 : Hid (LB w1 w.heap.size 24 C ∧ LB w1 (w.heap.size + 1) 28 D ∧ Below w.heap.size w w1 ∧ LB w1 g3 39 (anl 2 c (.slice ad l.length cd)) ∧ LB w1 g4 50 [.int .i64 0, .int .i64 0, .int .i64 0, .int .i64 0, .int .i64 0, .int .i64 0, .int .i64 0, .int .i64 0, .int .i64 0, .int .i64 0, .string ⟨#[]⟩, .slice none 0 0]) := ⟨H0.out.1.kept b1, H0.out.2.1.kept b1, andThen H0.out.2.2.1 b1, H0.out.2.2.2.1.kept b1, H0.out.2.2.2.2.kept b1⟩
  clear b1 H0 HFI a2
  go_wp2_with (first | (refine wpList_load_mid rfl 24 _ rfl w.heap.size 0 rfl C _ H1.out.1.range Tryd.underlying24 rfl HM.out ?_) | (refine wpList_load_mid rfl 28 _ rfl (w.heap.size + 1) 0 rfl D _ H1.out.2.1.range Tryd.underlying28 rfl HL.out ?_) | (refine wpList_load_midG rfl 24 _ rfl w.heap.size 0 rfl C _ H1.out.1.range Tryd.underlying24 rfl HM.out ?_) | (refine wpList_load_midG rfl 28 _ rfl (w.heap.size + 1) 0 rfl D _ H1.out.2.1.range Tryd.underlying28 rfl HL.out ?_) | fail)
  refine (HOT.out _ H1.out.2.2.1).mono ?_
  rintro e w2 ⟨rfl, b2⟩
  have H2 : Hid (LB w2 w.heap.size 24 C ∧ LB w2 (w.heap.size + 1) 28 D ∧ Below w.heap.size w w2 ∧ LB w2 g3 39 (anl 2 c (.slice ad l.length cd)) ∧ LB w2 g4 50 [.int .i64 0, .int .i64 0, .int .i64 0, .int .i64 0, .int .i64 0, .int .i64 0, .int .i64 0, .int .i64 0, .int .i64 0, .int .i64 0, .string ⟨#[]⟩, .slice none 0 0]) := ⟨H1.out.1.kept b2, H1.out.2.1.kept b2, andThen H1.out.2.2.1 b2, H1.out.2.2.2.1.kept b2, H1.out.2.2.2.2.kept b2⟩
  clear b2 H1 HOT
  have c0 := H2.out.2.1.cell 0 (.int .i64 S.x.id) (by rw [HE.out]; rfl)
  have a0 := H2.out.2.2.2.1.cell 0 _ rfl
  have a1 := H2.out.2.2.2.1.cell 1 _ rfl
  go_upto_region 8 with fail
  obtain ⟨X, eX⟩ : ∃ X, X = w2.alloc (.cells #[.int .i64 3, .int .i64 4, .int .i64 S.x.id, .int .i64 (i : Int), .int .i64 0, .int .i64 0, .int .i64 0, .int .i64 c, .int .i64 0, .int .i64 0, .string ⟨#[]⟩, .slice none 0 0] 50) := ⟨_, rfl⟩
  have H3 : Hid ((LB X w.heap.size 24 C ∧ LB X (w.heap.size + 1) 28 D ∧ Below w.heap.size w X ∧ LB X g3 39 (anl 2 c (.slice ad l.length cd)) ∧ LB X g4 50 [.int .i64 0, .int .i64 0, .int .i64 0, .int .i64 0, .int .i64 0, .int .i64 0, .int .i64 0, .int .i64 0, .int .i64 0, .int .i64 0, .string ⟨#[]⟩, .slice none 0 0]) ∧ LB X w2.heap.size 50 [.int .i64 3, .int .i64 4, .int .i64 S.x.id, .int .i64 (i : Int), .int .i64 0, .int .i64 0, .int .i64 0, .int .i64 c, .int .i64 0, .int .i64 0, .string ⟨#[]⟩, .slice none 0 0] ∧ w.heap.size ≤ w2.heap.size ∧ w2.heap.size ≠ g4) := by
    obtain ⟨z1, z2, z3, z4, z5⟩ := H2.out
    have u0 := up0 w2 (.cells #[.int .i64 3, .int .i64 4, .int .i64 S.x.id, .int .i64 (i : Int), .int .i64 0, .int .i64 0, .int .i64 0, .int .i64 c, .int .i64 0, .int .i64 0, .string ⟨#[]⟩, .slice none 0 0] 50)
    rw [eX]
    exact ⟨⟨z1.kept u0, z2.kept u0, andThen z3 u0, z4.kept u0, z5.kept u0⟩, lb_new w2 _ _, z3.size, by have := z5.lt; omega⟩
  rw [← eX]
  clear eX H2 c0 a0 a1
  generalize w2.heap.size = gr at *
  have a0 := H3.out.1.2.2.2.1.cell 0 _ rfl
  have x10 := H3.out.1.2.1.cell 10 (.int .i64 S.x.tr) (by rw [HE.out]; rfl)
  have x2 := H3.out.1.1.cell 2 (.slice (some ⟨bs, os, none⟩) p.ss.length cs) (by rw [HGC.out]; rfl)
  have xs := HST.out X H3.out.1.2.2.1
  go_upto_region 14 with fail
  go_region_held3 (fun w' => w'.cell? ⟨w.heap.size + 1, 10, none⟩ = some (.int .i64 S.x.tr) ∧ w'.cell? ⟨w.heap.size, 2, none⟩ = some (.slice (some ⟨bs, os, none⟩) p.ss.length cs) ∧ w'.cell? ⟨bs, os + i * 3 + 2, none⟩ = some (.int .i64 st.t)) (go_keep) (fail)
  clear x10 x2 xs
  obtain ⟨Xd, eXd⟩ : ∃ Xd, Xd = X.drew := ⟨_, rfl⟩
  have H3d : Hid ((LB Xd w.heap.size 24 C ∧ LB Xd (w.heap.size + 1) 28 D ∧ Below w.heap.size w Xd ∧ LB Xd g3 39 (anl 2 c (.slice ad l.length cd)) ∧ LB Xd g4 50 [.int .i64 0, .int .i64 0, .int .i64 0, .int .i64 0, .int .i64 0, .int .i64 0, .int .i64 0, .int .i64 0, .int .i64 0, .int .i64 0, .string ⟨#[]⟩, .slice none 0 0]) ∧ LB Xd gr 50 [.int .i64 3, .int .i64 4, .int .i64 S.x.id, .int .i64 (i : Int), .int .i64 0, .int .i64 0, .int .i64 0, .int .i64 c, .int .i64 0, .int .i64 0, .string ⟨#[]⟩, .slice none 0 0] ∧ w.heap.size ≤ gr ∧ gr ≠ g4) := by
    obtain ⟨⟨z1, z2, z3, z4, z5⟩, z6, z7, z8⟩ := H3.out
    rw [eXd]
    exact ⟨⟨z1, z2, z3.drew, z4, z5⟩, z6, z7, z8⟩
  rw [← eXd]
  clear eXd H3
  have H3 := H3d
  clear H3d
  go_wp2_with (first | (refine wpList_load_mid rfl 24 _ rfl w.heap.size 0 rfl C _ H3.out.1.1.range Tryd.underlying24 rfl HM.out ?_) | (refine wpList_load_mid rfl 28 _ rfl (w.heap.size + 1) 0 rfl D _ H3.out.1.2.1.range Tryd.underlying28 rfl HL.out ?_) | (refine wpList_load_midG rfl 24 _ rfl w.heap.size 0 rfl C _ H3.out.1.1.range Tryd.underlying24 rfl HM.out ?_) | (refine wpList_load_midG rfl 28 _ rfl (w.heap.size + 1) 0 rfl D _ H3.out.1.2.1.range Tryd.underlying28 rfl HL.out ?_) | fail)
  refine (HLA.out _).mono ?_
  rintro e w4 ⟨rfl, b4⟩
  have H4 : Hid ((LB w4 w.heap.size 24 C ∧ LB w4 (w.heap.size + 1) 28 D ∧ Below w.heap.size w w4 ∧ LB w4 g3 39 (anl 2 c (.slice ad l.length cd)) ∧ LB w4 g4 50 [.int .i64 0, .int .i64 0, .int .i64 0, .int .i64 0, .int .i64 0, .int .i64 0, .int .i64 0, .int .i64 0, .int .i64 0, .int .i64 0, .string ⟨#[]⟩, .slice none 0 0]) ∧ LB w4 gr 50 [.int .i64 3, .int .i64 4, .int .i64 S.x.id, .int .i64 (i : Int), .int .i64 0, .int .i64 0, .int .i64 0, .int .i64 c, .int .i64 0, .int .i64 0, .string ⟨#[]⟩, .slice none 0 0] ∧ w.heap.size ≤ gr ∧ gr ≠ g4) := by
    obtain ⟨⟨z1, z2, z3, z4, z5⟩, z6, z7, z8⟩ := H3.out
    exact ⟨⟨z1.kept b4, z2.kept b4, andThen z3 b4, z4.kept b4, z5.kept b4⟩, z6.kept b4, z7, z8⟩
  clear b4 H3 HLA a0
  have y6 := H4.out.2.1.cell 6 _ rfl
  have yf : ∀ j : Nat, w4.frozen? ⟨gr, j, none⟩ = false := fun j => H4.out.2.1.free j
  have a2 := H4.out.1.2.2.2.1.cell 2 _ rfl
  have hn3 : gr ≠ g3 := lb_ne H4.out.2.1 H4.out.1.2.2.2.1 (by decide)
  have hn3' : g3 ≠ gr := Ne.symm hn3
  go_upto_region 18 with fail
  obtain ⟨X, eX⟩ : ∃ X, X = w4.setCell ⟨gr, 6, none⟩ (.int .i64 Q) := ⟨_, rfl⟩
  have H5 : Hid ((LB X w.heap.size 24 C ∧ LB X (w.heap.size + 1) 28 D ∧ Below w.heap.size w X ∧ LB X g3 39 (anl 2 c (.slice ad l.length cd)) ∧ LB X g4 50 [.int .i64 0, .int .i64 0, .int .i64 0, .int .i64 0, .int .i64 0, .int .i64 0, .int .i64 0, .int .i64 0, .int .i64 0, .int .i64 0, .string ⟨#[]⟩, .slice none 0 0]) ∧ LB X gr 50 [.int .i64 3, .int .i64 4, .int .i64 S.x.id, .int .i64 (i : Int), .int .i64 0, .int .i64 0, .int .i64 Q, .int .i64 c, .int .i64 0, .int .i64 0, .string ⟨#[]⟩, .slice none 0 0] ∧ w.heap.size ≤ gr ∧ gr ≠ g4) := by
    obtain ⟨⟨z1, z2, z3, z4, z5⟩, z6, z7, z8⟩ := H4.out
    have n1 := lb_ne z1 z6 (by decide)
    have n2 := lb_ne z2 z6 (by decide)
    have n3 := lb_ne z4 z6 (by decide)
    rw [eX]
    exact ⟨⟨z1.other _ _ n1, z2.other _ _ n2, z3.setCell z7 _, z4.other _ _ n3, z5.other _ _ (Ne.symm z8)⟩, z6.set 6 _, z7, z8⟩
  rw [← eX]
  clear eX H4 y6 yf a2
  have a2 := H5.out.1.2.2.2.1.cell 2 _ rfl
  go_wp2_with fail
  refine (HCL.out _ H5.out.1.2.2.1).mono ?_
  rintro e w6 ⟨d6, rfl, o6, b6⟩
  obtain ⟨a6, c6, e6, -⟩ := o6.bs.shape
  subst e6
  have H6 : Hid ((LB w6 w.heap.size 24 C ∧ LB w6 (w.heap.size + 1) 28 D ∧ Below w.heap.size w w6 ∧ LB w6 g3 39 (anl 2 c (.slice ad l.length cd)) ∧ LB w6 g4 50 [.int .i64 0, .int .i64 0, .int .i64 0, .int .i64 0, .int .i64 0, .int .i64 0, .int .i64 0, .int .i64 0, .int .i64 0, .int .i64 0, .string ⟨#[]⟩, .slice none 0 0]) ∧ LB w6 gr 50 [.int .i64 3, .int .i64 4, .int .i64 S.x.id, .int .i64 (i : Int), .int .i64 0, .int .i64 0, .int .i64 Q, .int .i64 c, .int .i64 0, .int .i64 0, .string ⟨#[]⟩, .slice none 0 0] ∧ w.heap.size ≤ gr ∧ gr ≠ g4 ∧ Own w.heap.size w6 (.slice a6 l.length c6) l) := by
    obtain ⟨⟨z1, z2, z3, z4, z5⟩, z6, z7, z8⟩ := H5.out
    exact ⟨⟨z1.kept b6, z2.kept b6, andThen z3 b6, z4.kept b6, z5.kept b6⟩, z6.kept b6, z7, z8, own_weak o6 z3.size⟩
  clear b6 o6 H5 HCL a2
  have y11 := H6.out.2.1.cell 11 _ rfl
  have yf : ∀ j : Nat, w6.frozen? ⟨gr, j, none⟩ = false := fun j => H6.out.2.1.free j
  go_upto_region 19 with fail
  obtain ⟨X, eX⟩ : ∃ X, X = w6.setCell ⟨gr, 11, none⟩ (.slice a6 l.length c6) := ⟨_, rfl⟩
  have H7 : Hid (Below w.heap.size w X ∧ LB X gr 50 [.int .i64 3, .int .i64 4, .int .i64 S.x.id, .int .i64 (i : Int), .int .i64 0, .int .i64 0, .int .i64 Q, .int .i64 c, .int .i64 0, .int .i64 0, .string ⟨#[]⟩, .slice a6 l.length c6] ∧ LB X g4 50 [.int .i64 0, .int .i64 0, .int .i64 0, .int .i64 0, .int .i64 0, .int .i64 0, .int .i64 0, .int .i64 0, .int .i64 0, .int .i64 0, .string ⟨#[]⟩, .slice none 0 0] ∧ Own w.heap.size X (.slice a6 l.length c6) l) := by
    obtain ⟨⟨z1, z2, z3, z4, z5⟩, z6, z7, z8, z9⟩ := H6.out
    rw [eX]
    exact ⟨z3.setCell z7 _, z6.set 11 _, z5.other _ _ (Ne.symm z8), own_oth z9 z6 (by decide) (fun b hb _ => set_other w6 _ _ b hb)⟩
  rw [← eX]
  clear eX H6 y11 yf
  obtain ⟨M, hM⟩ : ∃ M : List Value, M = [.int .i64 3, .int .i64 4, .int .i64 S.x.id, .int .i64 (i : Int), .int .i64 0, .int .i64 0, .int .i64 Q, .int .i64 c, .int .i64 0, .int .i64 0, .string ⟨#[]⟩, .slice a6 l.length c6] := ⟨_, rfl⟩
  have HM1 : Hid (LB X gr 50 M ∧ (Tryd.prog.info? 50).map (·.size) = some M.length ∧ (∀ v ∈ M, v.oneCell' = true) ∧ M.length = 12) := by
    rw [hM]
    refine ⟨H7.out.2.1, infoRec, ?_, rfl⟩
    intro v hv
    simp only [List.mem_cons, List.not_mem_nil, or_false] at hv
    rcases hv with rfl | rfl | rfl | rfl | rfl | rfl | rfl | rfl | rfl | rfl | rfl | rfl <;> rfl
  have HT7 : Hid (X.there g4 0 M.toArray.size) := there_of H7.out.2.2.1 (by simp [HM1.out.2.2.2])
  have H8 : Hid (∀ Y, Y = X.setCells g4 0 M → LB Y g4 50 M ∧ POST (.returned (.tuple #[.agg M.toArray, .bool true, .int .i64 0])) Y) := fun Y hY => by
    rw [hY]
    refine ⟨H7.out.2.2.1.sets M HM1.out.2.2.2, ?_⟩
    rw [hM]
    exact HAX.out _ _ (own_oth H7.out.2.2.2 H7.out.2.2.1 (by decide) (Oth.sets _ _ _ _)) (below_cells HG.out.2 _ 0 _ H7.out.1)
  clear hM
  go_wp2_with (first | (refine wpList_load_mid rfl 50 _ rfl gr 0 rfl M _ HM1.out.1.range Tryd.underlying50 rfl HM1.out.2.1 ?_) | (refine wpList_store_mid rfl 50 (.tmp 6) (.tmp 70) rfl g4 0 M.toArray rfl rfl HT7.out (by simpa using HM1.out.2.1) (all_oneCell_toArray HM1.out.2.2.1) ?_; (rw [List.toList_toArray])) | fail)
  refine bodyPost_ret (results_cell_slot2 (p := 6) (s := 7) (s2 := 8) (ty := 50) rfl _ _ g4 M _ rfl (H8.out _ rfl).1.range Tryd.underlying50 rfl HM1.out.2.1) rfl ?_
  exact (H8.out _ rfl).2

set_option maxRecDepth 100000 in
set_option maxHeartbeats 8000000 in
theorem panswer_2a (p : Pln) (v : Value) (S : Sg) (h : SH) (c : Int) (d : Value) (l : List Nat) (w : World) (a : PA w p v S h) (hb : Bs w d l) (hlen : l.length ≤ 16384) (hf : fitP p S = 0) (hl : S.x.fl = true) (hlt : S.x.tr < triesT p S) : Calls Tryd.prog 22 #[plv p v, sv S h, .agg (anl 2 c d).toArray] w fun e w' => AnPost p S 2 c l w e w' := by
  have hc := (pfits_iff hf).2.1
  have HFI0 : ∀ w', Below w.heap.size w w' → Calls Tryd.prog 28 #[plv p v, sv S h] w' fun e w'' => e = .returned (.int .i64 0) ∧ Below w'.heap.size w' w'' := fun w' hb => by have e := pflight_any p v S h w' (a.kept hb); rw [flightP_ok hf hl] at e; exact e
  have HOT0 : ∀ w', Below w.heap.size w w' → Calls Tryd.prog 18 #[plv p v, sv S h] w' fun e w'' => e = .returned (.tuple #[.int .i64 S.x.turn, .string (nameT p S)]) ∧ Below w'.heap.size w' w'' := fun w' hb => ponturn_any p v S h w' (a.s.kept hb) hf (by rcases flight_deed hc hl with ⟨e, _⟩ | ⟨e, _⟩ <;> rw [e] <;> decide)
  have HCL : Hid (∀ w', Below w.heap.size w w' → Calls Tryd.prog 29 #[d] w' fun e w'' => ∃ d', e = .returned d' ∧ Own w'.heap.size w'' d' l ∧ Below w'.heap.size w' w'') := fun w' hb' => bclone_any d _ w' (hb.kept hb') (by omega)
  have HAX : Hid (∀ d' w', Own w.heap.size w' d' l → Below w.heap.size w w' → AnPost p S 2 c l w (.returned (.tuple #[.agg #[.int .i64 3, .int .i64 4, .int .i64 S.x.id, .int .i64 S.x.turn, .int .i64 0, .int .i64 0, .int .i64 0, .int .i64 c, .int .i64 0, .int .i64 0, .string ⟨#[]⟩, d'], .bool true, .int .i64 0])) w') := fun d' w' h2 h3 => ⟨d', by simp [rv, ansX, ansLast, hlt], h2, h3⟩
  obtain ⟨i, st, hi1, hi2, hi3, -⟩ := turn_idx hf (by rcases flight_deed hc hl with ⟨e, _⟩ | ⟨e, _⟩ <;> rw [e] <;> decide)
  have htr : triesT p S = st.t := by unfold triesT; rw [hi3]; simp [hi1]
  rw [htr] at hlt
  have hil : i < p.ss.length := (List.getElem?_eq_some_iff.1 hi1).1
  obtain ⟨ao, cs, rfl, hsl, hsm, hsc⟩ := a.s
  obtain ⟨bs, os, rfl, hsr⟩ := hsc i st hi1
  unfold maxLen at hsm
  have HST : Hid (∀ w', Below w.heap.size w w' → w'.cell? ⟨bs, os + i * 3 + 2, none⟩ = some (.int .i64 st.t)) := fun w' hb' => range_kept hsr hb' 2 _ rfl
  have hi5 : (0 : Int) ≤ (i : Int) := by omega
  have hi6 : (i : Int) < (p.ss.length : Int) := by omega
  rw [hi3] at HOT0 HAX
  clear hi1 hsr hsc htr
  obtain ⟨ad, cd, ed, -⟩ := hb.shape
  subst ed
  generalize nameT p S = N at *
  skip
  generalize AnPost p S 2 c l w = POST at *
  clear a hf hc hl
  obtain ⟨C, hC, hM, hG⟩ := plv_letter p (.slice (some ⟨bs, os, none⟩) p.ss.length cs)
  obtain ⟨D, hD, hL, hE⟩ := sv_letter S h
  rw [hC, hD]
  try rw [hC] at HFI0
  try rw [hD] at HFI0
  try rw [hC] at HOT0
  try rw [hD] at HOT0
  have HFI : Hid _ := HFI0
  have HOT : Hid _ := HOT0
  have HM : Hid _ := hM
  have HGC : Hid (C = plvl p (.slice (some ⟨bs, os, none⟩) p.ss.length cs)) := hG
  have HL : Hid _ := hL
  have HE : Hid (D = scl S h) := hE
  clear hC hM hG hD hL hE HFI0 HOT0
  have hl1 : ((l.length : Int) > 16384) = False := by simp; omega
  have hl2 : ¬ (16384 : Int) < (l.length : Int) := by omega
  go_enter Tryd.func22, Tryd.ntmps22
  go_upto_region 1 with fail
  obtain ⟨W, eW⟩ : ∃ W, W = (((w.alloc (.cells C.toArray 24)).alloc (.cells D.toArray 28)).alloc (.cells (anl 2 c (.slice ad l.length cd)).toArray 39)).alloc (.cells #[.int .i64 0, .int .i64 0, .int .i64 0, .int .i64 0, .int .i64 0, .int .i64 0, .int .i64 0, .int .i64 0, .int .i64 0, .int .i64 0, .string ⟨#[]⟩, .slice none 0 0] 50) := ⟨_, rfl⟩
  rw [← eW]
  have H0 : Hid (LB W w.heap.size 24 C ∧ LB W (w.heap.size + 1) 28 D ∧ Below w.heap.size w W ∧ LB W (w.heap.size + 1 + 1) 39 (anl 2 c (.slice ad l.length cd)) ∧ LB W (w.heap.size + 1 + 1 + 1) 50 [.int .i64 0, .int .i64 0, .int .i64 0, .int .i64 0, .int .i64 0, .int .i64 0, .int .i64 0, .int .i64 0, .int .i64 0, .int .i64 0, .string ⟨#[]⟩, .slice none 0 0]) := by
    obtain ⟨q1, q2, q3, q4⟩ := lb_new3 w C D (anl 2 c (.slice ad l.length cd)) 24 28 39
    rw [eW]
    exact ⟨q1.kept (up0 _ _), q2.kept (up0 _ _), andThen q4 (up0 _ _), q3.kept (up0 _ _), lb_new4 w C D _ _ _ _ _ _⟩
  clear eW
  generalize hg4 : w.heap.size + 1 + 1 + 1 = g4 at *
  generalize hg3 : w.heap.size + 1 + 1 = g3 at *
  have HG : Hid (w.heap.size ≤ g3 ∧ w.heap.size ≤ g4) := by constructor <;> omega
  clear hg3 hg4
  have a2 := H0.out.2.2.2.1.cell 2 _ rfl
  go_wp2_with (first | (refine wpList_load_mid rfl 24 _ rfl w.heap.size 0 rfl C _ H0.out.1.range Tryd.underlying24 rfl HM.out ?_) | (refine wpList_load_mid rfl 28 _ rfl (w.heap.size + 1) 0 rfl D _ H0.out.2.1.range Tryd.underlying28 rfl HL.out ?_) | (refine wpList_load_midG rfl 24 _ rfl w.heap.size 0 rfl C _ H0.out.1.range Tryd.underlying24 rfl HM.out ?_) | (refine wpList_load_midG rfl 28 _ rfl (w.heap.size + 1) 0 rfl D _ H0.out.2.1.range Tryd.underlying28 rfl HL.out ?_) | fail)
  refine (HFI.out _ H0.out.2.2.1).mono ?_
  rintro e w1 ⟨rfl, b1⟩
  have H1 : Hid (LB w1 w.heap.size 24 C ∧ LB w1 (w.heap.size + 1) 28 D ∧ Below w.heap.size w w1 ∧ LB w1 g3 39 (anl 2 c (.slice ad l.length cd)) ∧ LB w1 g4 50 [.int .i64 0, .int .i64 0, .int .i64 0, .int .i64 0, .int .i64 0, .int .i64 0, .int .i64 0, .int .i64 0, .int .i64 0, .int .i64 0, .string ⟨#[]⟩, .slice none 0 0]) := ⟨H0.out.1.kept b1, H0.out.2.1.kept b1, andThen H0.out.2.2.1 b1, H0.out.2.2.2.1.kept b1, H0.out.2.2.2.2.kept b1⟩
  clear b1 H0 HFI a2
  go_wp2_with (first | (refine wpList_load_mid rfl 24 _ rfl w.heap.size 0 rfl C _ H1.out.1.range Tryd.underlying24 rfl HM.out ?_) | (refine wpList_load_mid rfl 28 _ rfl (w.heap.size + 1) 0 rfl D _ H1.out.2.1.range Tryd.underlying28 rfl HL.out ?_) | (refine wpList_load_midG rfl 24 _ rfl w.heap.size 0 rfl C _ H1.out.1.range Tryd.underlying24 rfl HM.out ?_) | (refine wpList_load_midG rfl 28 _ rfl (w.heap.size + 1) 0 rfl D _ H1.out.2.1.range Tryd.underlying28 rfl HL.out ?_) | fail)
  refine (HOT.out _ H1.out.2.2.1).mono ?_
  rintro e w2 ⟨rfl, b2⟩
  have H2 : Hid (LB w2 w.heap.size 24 C ∧ LB w2 (w.heap.size + 1) 28 D ∧ Below w.heap.size w w2 ∧ LB w2 g3 39 (anl 2 c (.slice ad l.length cd)) ∧ LB w2 g4 50 [.int .i64 0, .int .i64 0, .int .i64 0, .int .i64 0, .int .i64 0, .int .i64 0, .int .i64 0, .int .i64 0, .int .i64 0, .int .i64 0, .string ⟨#[]⟩, .slice none 0 0]) := ⟨H1.out.1.kept b2, H1.out.2.1.kept b2, andThen H1.out.2.2.1 b2, H1.out.2.2.2.1.kept b2, H1.out.2.2.2.2.kept b2⟩
  clear b2 H1 HOT
  have c0 := H2.out.2.1.cell 0 (.int .i64 S.x.id) (by rw [HE.out]; rfl)
  have a0 := H2.out.2.2.2.1.cell 0 _ rfl
  have a1 := H2.out.2.2.2.1.cell 1 _ rfl
  go_upto_region 8 with fail
  obtain ⟨X, eX⟩ : ∃ X, X = w2.alloc (.cells #[.int .i64 3, .int .i64 4, .int .i64 S.x.id, .int .i64 (i : Int), .int .i64 0, .int .i64 0, .int .i64 0, .int .i64 c, .int .i64 0, .int .i64 0, .string ⟨#[]⟩, .slice none 0 0] 50) := ⟨_, rfl⟩
  have H3 : Hid ((LB X w.heap.size 24 C ∧ LB X (w.heap.size + 1) 28 D ∧ Below w.heap.size w X ∧ LB X g3 39 (anl 2 c (.slice ad l.length cd)) ∧ LB X g4 50 [.int .i64 0, .int .i64 0, .int .i64 0, .int .i64 0, .int .i64 0, .int .i64 0, .int .i64 0, .int .i64 0, .int .i64 0, .int .i64 0, .string ⟨#[]⟩, .slice none 0 0]) ∧ LB X w2.heap.size 50 [.int .i64 3, .int .i64 4, .int .i64 S.x.id, .int .i64 (i : Int), .int .i64 0, .int .i64 0, .int .i64 0, .int .i64 c, .int .i64 0, .int .i64 0, .string ⟨#[]⟩, .slice none 0 0] ∧ w.heap.size ≤ w2.heap.size ∧ w2.heap.size ≠ g4) := by
    obtain ⟨z1, z2, z3, z4, z5⟩ := H2.out
    have u0 := up0 w2 (.cells #[.int .i64 3, .int .i64 4, .int .i64 S.x.id, .int .i64 (i : Int), .int .i64 0, .int .i64 0, .int .i64 0, .int .i64 c, .int .i64 0, .int .i64 0, .string ⟨#[]⟩, .slice none 0 0] 50)
    rw [eX]
    exact ⟨⟨z1.kept u0, z2.kept u0, andThen z3 u0, z4.kept u0, z5.kept u0⟩, lb_new w2 _ _, z3.size, by have := z5.lt; omega⟩
  rw [← eX]
  clear eX H2 c0 a0 a1
  generalize w2.heap.size = gr at *
  have a0 := H3.out.1.2.2.2.1.cell 0 _ rfl
  have x10 := H3.out.1.2.1.cell 10 (.int .i64 S.x.tr) (by rw [HE.out]; rfl)
  have x2 := H3.out.1.1.cell 2 (.slice (some ⟨bs, os, none⟩) p.ss.length cs) (by rw [HGC.out]; rfl)
  have xs := HST.out X H3.out.1.2.2.1
  go_upto_region 14 with fail
  go_region_held3 (fun w' => w'.cell? ⟨w.heap.size + 1, 10, none⟩ = some (.int .i64 S.x.tr) ∧ w'.cell? ⟨w.heap.size, 2, none⟩ = some (.slice (some ⟨bs, os, none⟩) p.ss.length cs) ∧ w'.cell? ⟨bs, os + i * 3 + 2, none⟩ = some (.int .i64 st.t)) (go_keep) (fail)
  clear x10 x2 xs
  obtain ⟨Xd, eXd⟩ : ∃ Xd, Xd = X.drew := ⟨_, rfl⟩
  have H3d : Hid ((LB Xd w.heap.size 24 C ∧ LB Xd (w.heap.size + 1) 28 D ∧ Below w.heap.size w Xd ∧ LB Xd g3 39 (anl 2 c (.slice ad l.length cd)) ∧ LB Xd g4 50 [.int .i64 0, .int .i64 0, .int .i64 0, .int .i64 0, .int .i64 0, .int .i64 0, .int .i64 0, .int .i64 0, .int .i64 0, .int .i64 0, .string ⟨#[]⟩, .slice none 0 0]) ∧ LB Xd gr 50 [.int .i64 3, .int .i64 4, .int .i64 S.x.id, .int .i64 (i : Int), .int .i64 0, .int .i64 0, .int .i64 0, .int .i64 c, .int .i64 0, .int .i64 0, .string ⟨#[]⟩, .slice none 0 0] ∧ w.heap.size ≤ gr ∧ gr ≠ g4) := by
    obtain ⟨⟨z1, z2, z3, z4, z5⟩, z6, z7, z8⟩ := H3.out
    rw [eXd]
    exact ⟨⟨z1, z2, z3.drew, z4, z5⟩, z6, z7, z8⟩
  rw [← eXd]
  clear eXd H3
  have H3 := H3d
  clear H3d
  clear a0
  go_upto_region 18 with fail
  have H5 := H3
  clear H3
  have a2 := H5.out.1.2.2.2.1.cell 2 _ rfl
  go_wp2_with fail
  refine (HCL.out _ H5.out.1.2.2.1).mono ?_
  rintro e w6 ⟨d6, rfl, o6, b6⟩
  obtain ⟨a6, c6, e6, -⟩ := o6.bs.shape
  subst e6
  have H6 : Hid ((LB w6 w.heap.size 24 C ∧ LB w6 (w.heap.size + 1) 28 D ∧ Below w.heap.size w w6 ∧ LB w6 g3 39 (anl 2 c (.slice ad l.length cd)) ∧ LB w6 g4 50 [.int .i64 0, .int .i64 0, .int .i64 0, .int .i64 0, .int .i64 0, .int .i64 0, .int .i64 0, .int .i64 0, .int .i64 0, .int .i64 0, .string ⟨#[]⟩, .slice none 0 0]) ∧ LB w6 gr 50 [.int .i64 3, .int .i64 4, .int .i64 S.x.id, .int .i64 (i : Int), .int .i64 0, .int .i64 0, .int .i64 0, .int .i64 c, .int .i64 0, .int .i64 0, .string ⟨#[]⟩, .slice none 0 0] ∧ w.heap.size ≤ gr ∧ gr ≠ g4 ∧ Own w.heap.size w6 (.slice a6 l.length c6) l) := by
    obtain ⟨⟨z1, z2, z3, z4, z5⟩, z6, z7, z8⟩ := H5.out
    exact ⟨⟨z1.kept b6, z2.kept b6, andThen z3 b6, z4.kept b6, z5.kept b6⟩, z6.kept b6, z7, z8, own_weak o6 z3.size⟩
  clear b6 o6 H5 HCL a2
  have y11 := H6.out.2.1.cell 11 _ rfl
  have yf : ∀ j : Nat, w6.frozen? ⟨gr, j, none⟩ = false := fun j => H6.out.2.1.free j
  go_upto_region 19 with fail
  obtain ⟨X, eX⟩ : ∃ X, X = w6.setCell ⟨gr, 11, none⟩ (.slice a6 l.length c6) := ⟨_, rfl⟩
  have H7 : Hid (Below w.heap.size w X ∧ LB X gr 50 [.int .i64 3, .int .i64 4, .int .i64 S.x.id, .int .i64 (i : Int), .int .i64 0, .int .i64 0, .int .i64 0, .int .i64 c, .int .i64 0, .int .i64 0, .string ⟨#[]⟩, .slice a6 l.length c6] ∧ LB X g4 50 [.int .i64 0, .int .i64 0, .int .i64 0, .int .i64 0, .int .i64 0, .int .i64 0, .int .i64 0, .int .i64 0, .int .i64 0, .int .i64 0, .string ⟨#[]⟩, .slice none 0 0] ∧ Own w.heap.size X (.slice a6 l.length c6) l) := by
    obtain ⟨⟨z1, z2, z3, z4, z5⟩, z6, z7, z8, z9⟩ := H6.out
    rw [eX]
    exact ⟨z3.setCell z7 _, z6.set 11 _, z5.other _ _ (Ne.symm z8), own_oth z9 z6 (by decide) (fun b hb _ => set_other w6 _ _ b hb)⟩
  rw [← eX]
  clear eX H6 y11 yf
  obtain ⟨M, hM⟩ : ∃ M : List Value, M = [.int .i64 3, .int .i64 4, .int .i64 S.x.id, .int .i64 (i : Int), .int .i64 0, .int .i64 0, .int .i64 0, .int .i64 c, .int .i64 0, .int .i64 0, .string ⟨#[]⟩, .slice a6 l.length c6] := ⟨_, rfl⟩
  have HM1 : Hid (LB X gr 50 M ∧ (Tryd.prog.info? 50).map (·.size) = some M.length ∧ (∀ v ∈ M, v.oneCell' = true) ∧ M.length = 12) := by
    rw [hM]
    refine ⟨H7.out.2.1, infoRec, ?_, rfl⟩
    intro v hv
    simp only [List.mem_cons, List.not_mem_nil, or_false] at hv
    rcases hv with rfl | rfl | rfl | rfl | rfl | rfl | rfl | rfl | rfl | rfl | rfl | rfl <;> rfl
  have HT7 : Hid (X.there g4 0 M.toArray.size) := there_of H7.out.2.2.1 (by simp [HM1.out.2.2.2])
  have H8 : Hid (∀ Y, Y = X.setCells g4 0 M → LB Y g4 50 M ∧ POST (.returned (.tuple #[.agg M.toArray, .bool true, .int .i64 0])) Y) := fun Y hY => by
    rw [hY]
    refine ⟨H7.out.2.2.1.sets M HM1.out.2.2.2, ?_⟩
    rw [hM]
    exact HAX.out _ _ (own_oth H7.out.2.2.2 H7.out.2.2.1 (by decide) (Oth.sets _ _ _ _)) (below_cells HG.out.2 _ 0 _ H7.out.1)
  clear hM
  go_wp2_with (first | (refine wpList_load_mid rfl 50 _ rfl gr 0 rfl M _ HM1.out.1.range Tryd.underlying50 rfl HM1.out.2.1 ?_) | (refine wpList_store_mid rfl 50 (.tmp 6) (.tmp 70) rfl g4 0 M.toArray rfl rfl HT7.out (by simpa using HM1.out.2.1) (all_oneCell_toArray HM1.out.2.2.1) ?_; (rw [List.toList_toArray])) | fail)
  refine bodyPost_ret (results_cell_slot2 (p := 6) (s := 7) (s2 := 8) (ty := 50) rfl _ _ g4 M _ rfl (H8.out _ rfl).1.range Tryd.underlying50 rfl HM1.out.2.1) rfl ?_
  exact (H8.out _ rfl).2

end Go.Proofs.YtodcakplmoajiaaDoor
