/-
  PlanAllOrNothing: turn, whatever is answered.
-/
import Derived.Test.YtodcakplmoajiaaDoorHPi
namespace Go.Proofs.YtodcakplmoajiaaDoor
open Go Go.RowKit
open Wb

/-- the record that an answer makes -/
def ansR (p : Pln) (S : Sg) (O cc : Int) (l : List Nat) : Rec := ⟨ansX p S O cc, ⟨#[]⟩, l⟩
theorem panswer_any (p : Pln) (v : Value) (S : Sg) (h : SH) (O cc : Int) (d : Value) (l : List Nat) (w : World) (a : PA w p v S h) (hb : Bs w d l) (hlen : l.length ≤ 16384) (hf : fitP p S = 0) (hl : S.x.fl = true) (hO : 1 ≤ O ∧ O ≤ 3) : Calls Tryd.prog 22 #[plv p v, sv S h, .agg (anl O cc d).toArray] w fun e w' => AnPost p S O cc l w e w' := by
  obtain rfl | rfl | rfl : O = 1 ∨ O = 2 ∨ O = 3 := by omega
  · exact panswer_1 p v S h cc d l w a hb hlen hf hl
  · by_cases hlt : S.x.tr < triesT p S
    · exact panswer_2a p v S h cc d l w a hb hlen hf hl hlt
    · exact panswer_2b p v S h cc d l w a hb hlen hf hl hlt
  · exact panswer_3 p v S h cc d l w a hb hlen hf hl
theorem lastW_ok {p : Pln} {S : Sg} (hf : fitP p S = 0) : (lastW p S.x = 0 ∨ lastW p S.x = 1) ∧ (lastW p S.x = 1 → S.x.ph ≠ 2 ∧ S.x.behind S.x.nx = false) := by
  have hp := (pfits_iff hf).2.2.2.2
  unfold lastW
  by_cases h2 : S.x.ph = 2
  · rw [if_pos h2]; simp
  · rw [if_neg h2]
    cases hb : p.behind S.x.nx with
    | true => simp
    | false =>
      refine ⟨.inr (by simp), fun _ => ⟨h2, ?_⟩⟩
      unfold Pln.behind Pln.ahead Pln.isPiv at hb
      unfold SN.behind
      rw [hp]
      by_cases h0 : p.piv = 0
      · simp [h0]
      · simp [h0] at hb ⊢
        by_cases h3 : S.x.nx + 1 < p.piv
        · omega
        · have := hb (by omega); omega
theorem ansLast_ok {p : Pln} {S : Sg} (hf : fitP p S = 0) (O : Int) : (ansLast p S O = 0 ∨ ansLast p S O = 1) ∧ (ansLast p S O = 1 → S.x.ph ≠ 2 ∧ S.x.behind S.x.nx = false) := by
  have h := lastW_ok hf
  unfold ansLast
  split
  · simp
  · split
    · split
      · simp
      · exact h
    · exact h
/-- what an answer makes may come -/
theorem ans_good {p : Pln} {S : Sg} {l : List Nat} {O cc : Int} (hf : fitP p S = 0) (hl : S.x.fl = true) (hlen : l.length ≤ 16384) (hO : 1 ≤ O ∧ O ≤ 3) (hc1 : -9223372036854775808 ≤ cc) (hc2 : cc ≤ 9223372036854775807) : V3 (ansR p S O cc l) ∧ refP S.x (ansR p S O cc l).x = 0 := by
  have hc := (pfits_iff hf).2.1
  obtain ⟨ha, hb⟩ := ansLast_ok hf O
  obtain ⟨⟨b1, b2, b3, b4, b5, b6, b7, b8, b9, b10, b11⟩, hG⟩ := (chkS_iff S).1 hc
  have hnx : S.x.nx ≤ 32 ∧ 0 ≤ S.x.nx := ⟨(nx_of hc).2, (nx_of hc).1⟩
  rcases flight_deed hc hl with ⟨_, hp⟩ | ⟨_, hp⟩
  · have hlt : S.x.nx < S.x.cnt := by
      rcases hG with ⟨g, _, _, _, _, c5, c6, _, c8, _⟩ | ⟨g, _⟩ | ⟨g, _⟩ | ⟨g, _⟩
      · by_cases e : S.x.nx = S.x.cnt
        · have := (c8 e).1; rw [hl] at this; cases this
        · omega
      all_goals omega
    have hne : S.x.nx ≠ S.x.cnt := by omega
    have hA1 : ansLast p S 1 = 0 := by simp [ansLast]
    by_cases h1 : O = 1
    · subst h1
      constructor
      · simp [V3, ansR, ansX, hA1, landK, hp, SN.turn, SN.fwd]; omega
      · simp [refP, ansR, ansX, hA1, landK, hp, hl, SN.turn, SN.fwd, SN.ended, SN.inPh, kph, lands, SN.onTurn, SN.atEnd, hne]
    · generalize hL : ansLast p S O = L at *
      constructor
      · simp [V3, ansR, ansX, h1, hL, hp, SN.turn, SN.fwd]; omega
      · rcases ha with rfl | rfl
        · simp [refP, ansR, ansX, h1, hL, hp, hl, SN.turn, SN.fwd, SN.ended, SN.inPh, kph, lands, SN.onTurn, SN.atEnd, hne]
        · have hb2 := (hb rfl).2
          simp [refP, ansR, ansX, h1, hL, hp, hl, SN.turn, SN.fwd, SN.ended, SN.inPh, kph, lands, SN.onTurn, SN.atEnd, hne, hb2]
  · have hpos : 0 < S.x.nx := by
      rcases hG with ⟨g, _⟩ | ⟨g, _⟩ | ⟨g, _, c2, _, c4, c5, _, c7, _⟩ | ⟨g, _⟩
      · omega
      · omega
      · by_cases e : S.x.nx = 0
        · have := (c7 e).1; rw [hl] at this; cases this
        · omega
      · omega
    have hne : S.x.nx ≠ 0 := by omega
    have h0 : ansLast p S O = 0 := by
      rcases ha with e | e
      · exact e
      · exact absurd hp (hb e).1
    by_cases h1 : O = 1
    · constructor
      · simp [V3, ansR, ansX, h1, landK, hp, SN.turn, SN.fwd, show ansLast p S 1 = 0 from by simp [ansLast]]; omega
      · simp [refP, ansR, ansX, h1, landK, hp, hl, SN.turn, SN.fwd, SN.ended, SN.inPh, kph, lands, SN.onTurn, SN.atEnd, hne, show ansLast p S 1 = 0 from by simp [ansLast]]
    · constructor
      · simp [V3, ansR, ansX, h1, h0, hp, SN.turn, SN.fwd]; omega
      · simp [refP, ansR, ansX, h1, h0, hp, hl, SN.turn, SN.fwd, SN.ended, SN.inPh, kph, lands, SN.onTurn, SN.atEnd, hne]

set_option maxRecDepth 100000 in
set_option maxHeartbeats 8000000 in
theorem pturnG_0 (O cc : Int) (p : Pln) (v : Value) (S : Sg) (h : SH) (d : Value) (l : List Nat) (w : World) (a : PA w p v S h) (_hT : STabs w) (hb : Bs w d l) (_hlen : l.length ≤ 16384) (hf : fitP p S = 0) (he : S.x.ended = true) : Calls Tryd.prog 8 #[plv p v, sv S h, .agg (anl O cc d).toArray] w fun e w' => TuPost S h l w e w' := by
  have hc := (pfits_iff hf).2.1
  have HNX0 : ∀ w', Below w.heap.size w w' → Calls Tryd.prog 6 #[plv p v, sv S h] w' fun e w'' => e = .returned (.tuple #[nextV p S, .int .i64 0]) ∧ Below w'.heap.size w' w'' := fun w' hb => pnext_any p v S h w' (a.kept hb) hf
  have HNU : Hid (∀ w', Calls Tryd.prog 7 #[.int .i64 0] w' fun e w'' => e = .returned (.int .i64 0) ∧ w' = w'') := fun w' => pnum_any 0 w' (by decide) (by decide)
  have HFN0 : ∀ w', Below w.heap.size w w' → Calls Tryd.prog 19 #[sv S h] w' fun e w'' => e = .returned (.bool true) ∧ Below w'.heap.size w' w'' := fun w' hb => by have e := finished_any S h w' (a.kept hb).k (a.kept hb).t a.n; rw [hc, he] at e; exact e
  have HRV0 : ∀ w', Below w.heap.size w w' → TuPost S h l w (.returned (.tuple #[sv S h, .bool true, .bool true])) w' := fun w' hb => by unfold TuPost; rw [if_pos he]; exact ⟨rfl, hb⟩
  obtain ⟨M, hMM⟩ : ∃ M : List Value, M = actl (deedK S.x) S.x.id (if 1 ≤ deedK S.x ∧ deedK S.x ≤ 4 then S.x.turn else 0) (if deedK S.x = 1 ∨ deedK S.x = 3 then S.x.nextTry else if deedK S.x = 2 ∨ deedK S.x = 4 then S.x.tr else 0) (if 1 ≤ deedK S.x ∧ deedK S.x ≤ 4 then nameT p S else ⟨#[]⟩) := ⟨_, rfl⟩
  have hNV : nextV p S = .agg M.toArray := by rw [hMM]; rfl
  rw [hNV] at HNX0
  have HM5 : Hid (M.length = 5 ∧ (Tryd.prog.info? 31).map (·.size) = some M.length ∧ (∀ v ∈ M, v.oneCell' = true)) := by rw [hMM]; exact ⟨rfl, infoAct, actl_one _ _ _ _ _⟩
  have HK0 : Hid (M[0]? = some (.int .i64 (deedK S.x))) := by show _ = _; rw [hMM]; rfl
  rw [ended_zero S hc he] at HK0
  generalize TuPost S h l w = POST at *
  clear hMM hNV a _hT hc hf he _hlen
  obtain ⟨ad, cd, ed, -⟩ := hb.shape
  subst ed
  obtain ⟨Z, hZ⟩ : ∃ Z, Z = zcl := ⟨_, rfl⟩
  have HZ : Hid (Z = zcl) := hZ
  have HZL : Hid (Z.length = 16) := by show _ = _; rw [hZ]; rfl
  clear hZ
  obtain ⟨C, hC, hM, hG⟩ := plv_letter p v
  obtain ⟨D, hD, hL, hE⟩ := sv_letter S h
  rw [hC, hD]
  try rw [hC] at HNX0
  try rw [hD] at HNX0
  try rw [hC] at HFN0
  try rw [hD] at HFN0
  try rw [hC] at HRV0
  try rw [hD] at HRV0
  have HNX : Hid _ := HNX0
  have HFN : Hid _ := HFN0
  have HRV : Hid _ := HRV0
  have HM : Hid _ := hM
  have HG : Hid (C = plvl p v) := hG
  have HL : Hid _ := hL
  have HE : Hid (D = scl S h) := hE
  clear hC hM hG hD hL hE HNX0 HFN0 HRV0
  go_enter Tryd.func8, Tryd.ntmps8
  go_upto_region 1 with (first | (refine wpList_alloc_Z HZ.out rfl rfl ?_) | fail)
  obtain ⟨W, eW⟩ : ∃ W, W = (((w.alloc (.cells C.toArray 24)).alloc (.cells D.toArray 28)).alloc (.cells (anl O cc (.slice ad l.length cd)).toArray 39)).alloc (.cells Z.toArray 28) := ⟨_, rfl⟩
  rw [← eW]
  have H0 : Hid (LB W w.heap.size 24 C ∧ LB W (w.heap.size + 1) 28 D ∧ Below w.heap.size w W ∧ LB W (w.heap.size + 1 + 1) 39 (anl O cc (.slice ad l.length cd)) ∧ LB W (w.heap.size + 1 + 1 + 1) 28 Z) := by
    obtain ⟨q1, q2, q3, q4⟩ := lb_new3 w C D (anl O cc (.slice ad l.length cd)) 24 28 39
    rw [eW]
    exact ⟨q1.kept (up0 _ _), q2.kept (up0 _ _), andThen q4 (up0 _ _), q3.kept (up0 _ _), lb_new4 w C D _ _ _ _ _ _⟩
  clear eW
  generalize hg4 : w.heap.size + 1 + 1 + 1 = g4 at *
  generalize hg3 : w.heap.size + 1 + 1 = g3 at *
  have HG : Hid (w.heap.size ≤ g3 ∧ w.heap.size ≤ g4 ∧ w.heap.size + 1 ≠ g4) := by refine ⟨?_, ?_, ?_⟩ <;> omega
  clear hg3 hg4
  go_wp2_with (first | (refine wpList_load_mid rfl 24 _ rfl w.heap.size 0 rfl C _ H0.out.1.range Tryd.underlying24 rfl HM.out ?_) | (refine wpList_load_mid rfl 28 _ rfl (w.heap.size + 1) 0 rfl D _ H0.out.2.1.range Tryd.underlying28 rfl HL.out ?_) | (refine wpList_load_midG rfl 24 _ rfl w.heap.size 0 rfl C _ H0.out.1.range Tryd.underlying24 rfl HM.out ?_) | (refine wpList_load_midG rfl 28 _ rfl (w.heap.size + 1) 0 rfl D _ H0.out.2.1.range Tryd.underlying28 rfl HL.out ?_) | fail)
  refine (HNX.out _ H0.out.2.2.1).mono ?_
  rintro e w1 ⟨rfl, b1⟩
  have HT9 : Hid ((w1.alloc (.cells #[.int .i64 0, .int .i64 0, .int .i64 0, .int .i64 0, .string ⟨#[]⟩] 31)).there w1.heap.size 0 M.toArray.size) := there_of (lb_new w1 [.int .i64 0, .int .i64 0, .int .i64 0, .int .i64 0, .string ⟨#[]⟩] _) (by simp [HM5.out.1])
  have E9 : Hid (∃ Y, Y = (w1.alloc (.cells #[.int .i64 0, .int .i64 0, .int .i64 0, .int .i64 0, .string ⟨#[]⟩] 31)).setCells w1.heap.size 0 M ∧ (LB Y w.heap.size 24 C ∧ LB Y (w.heap.size + 1) 28 D ∧ Below w.heap.size w Y ∧ LB Y g3 39 (anl O cc (.slice ad l.length cd)) ∧ LB Y g4 28 Z) ∧ LB Y w1.heap.size 31 M ∧ w.heap.size ≤ w1.heap.size) := by
    obtain ⟨q1, q2⟩ := one_boxQ w1 31 [.int .i64 0, .int .i64 0, .int .i64 0, .int .i64 0, .string ⟨#[]⟩] M HM5.out.1
    have z := H0.out
    have q3 := andThen b1 q2
    exact ⟨_, rfl, ⟨z.1.kept q3, z.2.1.kept q3, andThen z.2.2.1 q3, z.2.2.2.1.kept q3, z.2.2.2.2.kept q3⟩, q1, (andThen z.2.2.1 b1).size⟩
  clear b1 H0 HNX
  go_wp2_with (first | (refine wpList_store_mid rfl 31 (.tmp 9) (.tmp 21) rfl w1.heap.size 0 M.toArray rfl rfl HT9.out (by simpa using HM5.out.2.1) (all_oneCell_toArray HM5.out.2.2) ?_; (obtain ⟨Y1, hY, hq⟩ := E9.out); (have H1 : Hid _ := hq); (rw [List.toList_toArray, ← hY]); (clear hY hq E9 HT9)) | fail)
  generalize w1.heap.size = g9 at *
  refine (HNU.out _).mono ?_
  rintro e w2 ⟨rfl, rfl⟩
  have k0 := H1.out.2.1.cell 0 _ HK0.out
  have HDO : Hid (∀ v ∈ D, v.oneCell' = true) := by show ∀ v ∈ D, _; rw [HE.out]; exact scl_one _ _
  have HDL : Hid (D.length = Z.length) := by show _ = _; rw [HE.out, HZL.out]; rfl
  go_upto_region 5 with fail
  refine wp_region_held_drew (S := (fun w' => w'.rangeAt (w.heap.size + 1) 0 D)) (by kernel_rfl) ?_ (fun hH => ?_)
  · exact H1.out.1.2.1.range
  refine wpAnyH_take (i := 0) rfl (by kernel_rfl) (by kernel_rfl) (by kernel_rfl) (fun _ _ _ h => h) (yieldsIf_load_mid (by rfl) _ _ rfl _ _ rfl D _ (fun w' hSw => hSw) Tryd.underlying28 rfl HL.out) hH ?_
  simp only [Act.put, List.setIfInBounds_toArray, List.set_cons_zero, List.set_cons_succ, List.getElem_toArray, List.getElem_cons_zero]
  refine wpAnyH_take (i := 1) rfl (by kernel_rfl) (by kernel_rfl) (by kernel_rfl) (fun _ _ _ h => h) (yieldsIf_load_mid (by rfl) _ _ rfl _ _ rfl D _ (fun w' hSw => hSw) Tryd.underlying28 rfl HL.out) hH ?_
  simp only [Act.put, List.setIfInBounds_toArray, List.set_cons_zero, List.set_cons_succ, List.getElem_toArray, List.getElem_cons_zero, List.getElem_cons_succ]
  refine wpAnyH_ready (rs := [2]) (by kernel_rfl) (by simp) ?_
  refine AllReadyH.cons rfl (fun K hK => ?_) AllReadyH.nil
  go_simp
  refine (HFN.out _ H1.out.1.2.2.1.drew).mono ?_
  rintro e w3 ⟨rfl, b3⟩
  have H3 : Hid (LB w3 w.heap.size 24 C ∧ LB w3 (w.heap.size + 1) 28 D ∧ Below w.heap.size w w3 ∧ LB w3 g3 39 (anl O cc (.slice ad l.length cd)) ∧ LB w3 g4 28 Z) := by
    have z := H1.out.1
    have z3 : Below w.heap.size w Y1.drew := z.2.2.1.drew
    exact ⟨LB.kept (w := Y1.drew) z.1 b3, LB.kept (w := Y1.drew) z.2.1 b3, andThen z3 b3, LB.kept (w := Y1.drew) z.2.2.2.1 b3, LB.kept (w := Y1.drew) z.2.2.2.2 b3⟩
  clear b3 H1 HFN k0
  refine hK.out _ _ ?_ (fun hH2 => ?_)
  · exact H3.out.2.1.range
  clear hK K hH
  have hH := hH2
  clear hH2
  have HT3 : Hid (w3.there g4 0 D.toArray.size) := there_of H3.out.2.2.2.2 (by simp [HDL.out])
  have H4 : Hid (∀ Y, Y = w3.setCells g4 0 D → LB Y g4 28 D ∧ Y.rangeAt (w.heap.size + 1) 0 D ∧ POST (.returned (.tuple #[.agg D.toArray, .bool true, .bool true])) Y) := fun Y hY => by
    rw [hY]
    exact ⟨H3.out.2.2.2.2.sets D HDL.out, (H3.out.2.1.others _ _ _ HG.out.2.2).range, HRV.out _ (below_cells HG.out.2.1 _ 0 _ H3.out.2.2.1)⟩
  refine wpAnyH_ready (rs := [3]) (by kernel_rfl) (by simp) ?_
  refine AllReadyH.cons rfl (fun K' hK => ?_) AllReadyH.nil
  refine step_storeQ rfl 28 (.tmp 6) (.tmp 30) rfl g4 0 D.toArray rfl rfl HT3.out (by simpa using HL.out) (all_oneCell_toArray HDO.out) ?_
  rw [List.toList_toArray]
  refine hK.out _ _ ?_ (fun hH2 => ?_)
  · exact (H4.out _ rfl).2.1
  clear hK K' hH
  have hH := hH2
  clear hH2
  refine wpAnyH_take (i := 4) (v := ?v1) rfl (by kernel_rfl) (by kernel_rfl) (by kernel_rfl) (fun _ _ _ h => h) (Or.inl ⟨by rfl, ?hy1⟩) hH ?rest1
  case hy1 => intro w' hSw; (try dsimp only at hSw); go_simp; all_goals rfl
  simp only [Act.put, List.setIfInBounds_toArray, List.set_cons_zero, List.set_cons_succ, List.getElem_toArray, List.getElem_cons_zero, List.getElem_cons_succ]
  refine wpAnyH_take (i := 5) (v := ?v2) rfl (by kernel_rfl) (by kernel_rfl) (by kernel_rfl) (fun _ _ _ h => h) (Or.inl ⟨by rfl, ?hy2⟩) hH ?rest2
  case hy2 => intro w' hSw; (try dsimp only at hSw); go_simp; all_goals rfl
  simp only [Act.put, List.setIfInBounds_toArray, List.set_cons_zero, List.set_cons_succ, List.getElem_toArray, List.getElem_cons_zero, List.getElem_cons_succ]
  refine wpAnyH_done (by kernel_rfl) ?_ _
  go_wp2_with fail
  refine bodyPost_ret (results_cell_slot2 (p := 6) (s := 7) (s2 := 8) (ty := 28) rfl _ _ g4 D _ rfl (H4.out _ rfl).1.range Tryd.underlying28 rfl HL.out) rfl ?_
  exact (H4.out _ rfl).2.2

set_option maxRecDepth 100000 in
set_option maxHeartbeats 8000000 in
theorem pturnG_a (O cc : Int) (p : Pln) (v : Value) (S : Sg) (h : SH) (d : Value) (l : List Nat) (w : World) (a : PA w p v S h) (hT : STabs w) (hb : Bs w d l) (hlen : l.length ≤ 16384) (hf : fitP p S = 0) (he : S.x.ended = false) (hfl : S.x.fl = false) : Calls Tryd.prog 8 #[plv p v, sv S h, .agg (anl O cc d).toArray] w fun e w' => TuPost S h l w e w' := by
  have hc := (pfits_iff hf).2.1
  have HNX0 : ∀ w', Below w.heap.size w w' → Calls Tryd.prog 6 #[plv p v, sv S h] w' fun e w'' => e = .returned (.tuple #[nextV p S, .int .i64 0]) ∧ Below w'.heap.size w' w'' := fun w' hb => pnext_any p v S h w' (a.kept hb) hf
  have HNU : Hid (∀ w', Calls Tryd.prog 7 #[.int .i64 0] w' fun e w'' => e = .returned (.int .i64 0) ∧ w' = w'') := fun w' => pnum_any 0 w' (by decide) (by decide)
  obtain ⟨v3, r0, hk1, hlf⟩ := turn_good S l hc he hlen
  have HAP0 : ∀ (dr : Value) w', Bs w' dr (turnR S l).l → Below w.heap.size w w' → Calls Tryd.prog 23 #[sv S h, rv (turnR S l).x (turnR S l).nm dr] w' fun e w'' => ApPost w' (0, deedS S (turnR S l)) e w'' := fun dr w' q hb => by
    have e := apply_any S h (turnR S l) dr w' (a.kept hb).k q (hT.kept hb) a.n (by rw [hlf.2.2.2.2.2.2.2]; decide) (fit_v3 _ v3 (by rw [hlf.2.2.2.2.2.2.1]; exact (id_of S hc).2))
    rw [apply_v3 S (turnR S l) hc v3 hlf.2.2.2.2.2.1 r0] at e
    exact e
  have HRV : Hid (∀ w' h', SgO w.heap.size w' (deedS S (turnR S l)) h' → Below w.heap.size w w' → TuPost S h l w (.returned (.tuple #[sv (deedS S (turnR S l)) h', .bool false, .bool true])) w') := fun w' h' q hb => by unfold TuPost; rw [if_neg (by rw [he]; decide)]; exact ⟨h', rfl, q, hb⟩
  obtain ⟨ZR, hZR⟩ : ∃ ZR, ZR = zrl := ⟨_, rfl⟩
  have HZR : Hid (ZR = zrl) := hZR
  have HZRL : Hid (ZR.length = 12) := by show _ = _; rw [hZR]; rfl
  clear hZR
  obtain ⟨M, hMM⟩ : ∃ M : List Value, M = actl (deedK S.x) S.x.id (if 1 ≤ deedK S.x ∧ deedK S.x ≤ 4 then S.x.turn else 0) (if deedK S.x = 1 ∨ deedK S.x = 3 then S.x.nextTry else if deedK S.x = 2 ∨ deedK S.x = 4 then S.x.tr else 0) (if 1 ≤ deedK S.x ∧ deedK S.x ≤ 4 then nameT p S else ⟨#[]⟩) := ⟨_, rfl⟩
  have hNV : nextV p S = .agg M.toArray := by rw [hMM]; rfl
  rw [hNV] at HNX0
  have HM5 : Hid (M.length = 5 ∧ (Tryd.prog.info? 31).map (·.size) = some M.length ∧ (∀ v ∈ M, v.oneCell' = true)) := by rw [hMM]; exact ⟨rfl, infoAct, actl_one _ _ _ _ _⟩
  have HK0 : Hid (M[0]? = some (.int .i64 (deedK S.x))) := by show _ = _; rw [hMM]; rfl
  have hk24 : ¬(deedK S.x = 2 ∨ deedK S.x = 4) := by
    unfold deedK; rw [hfl]; split <;> (try split) <;> (try split) <;> (try split) <;> simp_all
  have hk0 : deedK S.x ≠ 0 := by omega
  obtain ⟨X, hX⟩ : ∃ X, X = (turnR S l).x := ⟨_, rfl⟩
  have hTR : turnR S l = ⟨X, ⟨#[]⟩, []⟩ := by rw [hX]; unfold turnR; simp only [if_neg hk24]
  have HRE : Hid (∀ w', Calls Tryd.prog 20 #[.agg M.toArray] w' fun e w'' => e = .returned (rv X ⟨#[]⟩ (.slice none 0 0)) ∧ Below w'.heap.size w' w'') := fun w' => by
    rw [hX, hMM]; unfold turnR; simp only [if_neg hk24]; exact precord_any _ _ _ _ _ w'
  have HAP1 : ∀ w', Below w.heap.size w w' → Calls Tryd.prog 23 #[sv S h, rv X ⟨#[]⟩ (.slice none 0 0)] w' fun e w'' => ApPost w' (0, deedS S (turnR S l)) e w'' := fun w' hb => by
    have e := HAP0 (.slice none 0 0) w' (by rw [hTR]; exact Bs.nil w') hb
    rw [show (turnR S l).x = X from hX.symm, show (turnR S l).nm = ⟨#[]⟩ from hlf.2.2.2.2.2.2.2] at e
    exact e
  have e0 : (deedK S.x == 0) = false := by rw [beq_eq_false_iff_ne]; exact hk0
  have e2 : (deedK S.x == 2) = false := by rw [beq_eq_false_iff_ne]; omega
  have e4 : (deedK S.x == 4) = false := by rw [beq_eq_false_iff_ne]; omega
  generalize TuPost S h l w = POST at *
  generalize deedK S.x = KD at *
  clear hMM hNV a hT hc hf he hlen hfl v3 r0 hlf HAP0 hX hTR hk24 hk0
  obtain ⟨ad, cd, ed, -⟩ := hb.shape
  subst ed
  obtain ⟨Z, hZ⟩ : ∃ Z, Z = zcl := ⟨_, rfl⟩
  have HZ : Hid (Z = zcl) := hZ
  have HZL : Hid (Z.length = 16) := by show _ = _; rw [hZ]; rfl
  clear hZ
  obtain ⟨C, hC, hM, hG⟩ := plv_letter p v
  obtain ⟨D, hD, hL, hE⟩ := sv_letter S h
  rw [hC, hD]
  try rw [hC] at HNX0
  try rw [hD] at HNX0
  try rw [hC] at HAP1
  try rw [hD] at HAP1
  have HNX : Hid _ := HNX0
  have HAP : Hid _ := HAP1
  have HM : Hid _ := hM
  have HG : Hid (C = plvl p v) := hG
  have HL : Hid _ := hL
  have HE : Hid (D = scl S h) := hE
  clear hC hM hG hD hL hE HNX0 HAP1
  go_enter Tryd.func8, Tryd.ntmps8
  go_upto_region 1 with (first | (refine wpList_alloc_Z HZ.out rfl rfl ?_) | fail)
  obtain ⟨W, eW⟩ : ∃ W, W = (((w.alloc (.cells C.toArray 24)).alloc (.cells D.toArray 28)).alloc (.cells (anl O cc (.slice ad l.length cd)).toArray 39)).alloc (.cells Z.toArray 28) := ⟨_, rfl⟩
  rw [← eW]
  have H0 : Hid (LB W w.heap.size 24 C ∧ LB W (w.heap.size + 1) 28 D ∧ Below w.heap.size w W ∧ LB W (w.heap.size + 1 + 1) 39 (anl O cc (.slice ad l.length cd)) ∧ LB W (w.heap.size + 1 + 1 + 1) 28 Z) := by
    obtain ⟨q1, q2, q3, q4⟩ := lb_new3 w C D (anl O cc (.slice ad l.length cd)) 24 28 39
    rw [eW]
    exact ⟨q1.kept (up0 _ _), q2.kept (up0 _ _), andThen q4 (up0 _ _), q3.kept (up0 _ _), lb_new4 w C D _ _ _ _ _ _⟩
  clear eW
  generalize hg4 : w.heap.size + 1 + 1 + 1 = g4 at *
  generalize hg3 : w.heap.size + 1 + 1 = g3 at *
  have HG : Hid (w.heap.size ≤ g3 ∧ w.heap.size ≤ g4 ∧ w.heap.size + 1 ≠ g4) := by refine ⟨?_, ?_, ?_⟩ <;> omega
  clear hg3 hg4
  go_wp2_with (first | (refine wpList_load_mid rfl 24 _ rfl w.heap.size 0 rfl C _ H0.out.1.range Tryd.underlying24 rfl HM.out ?_) | (refine wpList_load_mid rfl 28 _ rfl (w.heap.size + 1) 0 rfl D _ H0.out.2.1.range Tryd.underlying28 rfl HL.out ?_) | (refine wpList_load_midG rfl 24 _ rfl w.heap.size 0 rfl C _ H0.out.1.range Tryd.underlying24 rfl HM.out ?_) | (refine wpList_load_midG rfl 28 _ rfl (w.heap.size + 1) 0 rfl D _ H0.out.2.1.range Tryd.underlying28 rfl HL.out ?_) | fail)
  refine (HNX.out _ H0.out.2.2.1).mono ?_
  rintro e w1 ⟨rfl, b1⟩
  have HT9 : Hid ((w1.alloc (.cells #[.int .i64 0, .int .i64 0, .int .i64 0, .int .i64 0, .string ⟨#[]⟩] 31)).there w1.heap.size 0 M.toArray.size) := there_of (lb_new w1 [.int .i64 0, .int .i64 0, .int .i64 0, .int .i64 0, .string ⟨#[]⟩] _) (by simp [HM5.out.1])
  have E9 : Hid (∃ Y, Y = (w1.alloc (.cells #[.int .i64 0, .int .i64 0, .int .i64 0, .int .i64 0, .string ⟨#[]⟩] 31)).setCells w1.heap.size 0 M ∧ (LB Y w.heap.size 24 C ∧ LB Y (w.heap.size + 1) 28 D ∧ Below w.heap.size w Y ∧ LB Y g3 39 (anl O cc (.slice ad l.length cd)) ∧ LB Y g4 28 Z) ∧ LB Y w1.heap.size 31 M ∧ w.heap.size ≤ w1.heap.size) := by
    obtain ⟨q1, q2⟩ := one_boxQ w1 31 [.int .i64 0, .int .i64 0, .int .i64 0, .int .i64 0, .string ⟨#[]⟩] M HM5.out.1
    have z := H0.out
    have q3 := andThen b1 q2
    exact ⟨_, rfl, ⟨z.1.kept q3, z.2.1.kept q3, andThen z.2.2.1 q3, z.2.2.2.1.kept q3, z.2.2.2.2.kept q3⟩, q1, (andThen z.2.2.1 b1).size⟩
  clear b1 H0 HNX
  go_wp2_with (first | (refine wpList_store_mid rfl 31 (.tmp 9) (.tmp 21) rfl w1.heap.size 0 M.toArray rfl rfl HT9.out (by simpa using HM5.out.2.1) (all_oneCell_toArray HM5.out.2.2) ?_; (obtain ⟨Y1, hY, hq⟩ := E9.out); (have H1 : Hid _ := hq); (rw [List.toList_toArray, ← hY]); (clear hY hq E9 HT9)) | fail)
  generalize w1.heap.size = g9 at *
  refine (HNU.out _).mono ?_
  rintro e w2 ⟨rfl, rfl⟩
  have k0 := H1.out.2.1.cell 0 _ HK0.out
  go_wp2_with (first | (refine wpList_load_mid rfl 31 _ rfl g9 0 rfl M _ H1.out.2.1.range Tryd.underlying31 rfl HM5.out.2.1 ?_) | fail)
  refine (HRE.out _).mono ?_
  rintro e w4 ⟨rfl, b4⟩
  have HN9 : Hid (w.heap.size ≤ g9) := H1.out.2.2
  obtain ⟨D4, hD, hL, hE⟩ := rv_letter X ⟨#[]⟩ (.slice none 0 0)
  rw [hD]
  have HD4 : Hid (rv X ⟨#[]⟩ (.slice none 0 0) = .agg D4.toArray) := hD
  have HDL4 : Hid _ := hL
  have HDO4 : Hid (∀ v ∈ D4, v.oneCell' = true) := by show ∀ v ∈ D4, _; rw [hE]; exact rcE_one _ _ _ rfl
  have HDZ4 : Hid (D4.length = ZR.length) := by show _ = _; rw [hE, HZRL.out]; rfl
  have HT4 : Hid ((w4.alloc (.cells ZR.toArray 50)).there w4.heap.size 0 D4.toArray.size) := there_of (lb_new w4 ZR _) (by simpa using HDZ4.out)
  have EE4 : Hid (∃ Y, Y = (w4.alloc (.cells ZR.toArray 50)).setCells w4.heap.size 0 D4 ∧ (LB Y w.heap.size 24 C ∧ LB Y (w.heap.size + 1) 28 D ∧ Below w.heap.size w Y ∧ LB Y g3 39 (anl O cc (.slice ad l.length cd)) ∧ LB Y g4 28 Z) ∧ LB Y w4.heap.size 50 D4 ∧ LB Y g9 31 M) := by
    obtain ⟨q1, q2⟩ := one_boxQ w4 50 ZR D4 HDZ4.out
    exact ⟨_, rfl, by have z := H1.out.1; have q3 := andThen b4 q2; exact ⟨z.1.kept q3, z.2.1.kept q3, andThen z.2.2.1 q3, z.2.2.2.1.kept q3, z.2.2.2.2.kept q3⟩, q1, (H1.out.2.1.kept b4).kept q2⟩
  clear hD hL hE b4 H1 HRE k0
  go_wp2_with (first | (refine wpList_alloc_R HZR.out rfl rfl ?_) | (refine wpList_store_mid rfl 50 (.tmp 11) (.tmp 34) rfl w4.heap.size 0 D4.toArray rfl rfl HT4.out (by simpa using HDL4.out) (all_oneCell_toArray HDO4.out) ?_; (obtain ⟨Y4, hY, hq⟩ := EE4.out); (have H4 : Hid _ := hq); (rw [List.toList_toArray, ← hY]); (have k0 := hq.2.2.cell 0 _ HK0.out); (clear hY hq EE4 HT4)) | (refine wpList_load_mid rfl 28 _ rfl (w.heap.size + 1) 0 rfl D _ H4.out.1.2.1.range Tryd.underlying28 rfl HL.out ?_) | (refine wpList_load_mid rfl 50 _ rfl w4.heap.size 0 rfl D4 _ H4.out.2.1.range Tryd.underlying50 rfl HDL4.out ?_) | fail)
  generalize w4.heap.size = q4g at *
  rw [HD4.out] at HAP
  clear k0
  refine (HAP.out _ H4.out.1.2.2.1).mono ?_
  rintro e w5 ⟨h', rfl, o5, b5⟩
  obtain ⟨D5, hD, hL, hE⟩ := sv_letter (deedS S (turnR S l)) h'
  rw [hD]
  have HD5 : Hid (sv (deedS S (turnR S l)) h' = .agg D5.toArray) := hD
  have HDL5 : Hid _ := hL
  have HDO5 : Hid (∀ v ∈ D5, v.oneCell' = true) := by show ∀ v ∈ D5, _; rw [hE]; exact scl_one _ _
  have HDZ5 : Hid (D5.length = Z.length) := by show _ = _; rw [hE, HZL.out]; rfl
  have HT5 : Hid ((w5.alloc (.cells Z.toArray 28)).there w5.heap.size 0 D5.toArray.size) := there_of (lb_new w5 Z _) (by simpa using HDZ5.out)
  have EE5 : Hid (∃ Y, Y = (w5.alloc (.cells Z.toArray 28)).setCells w5.heap.size 0 D5 ∧ (LB Y w.heap.size 24 C ∧ LB Y (w.heap.size + 1) 28 D ∧ Below w.heap.size w Y ∧ LB Y g3 39 (anl O cc (.slice ad l.length cd)) ∧ LB Y g4 28 Z) ∧ LB Y w5.heap.size 28 D5 ∧ SgO w.heap.size Y (deedS S (turnR S l)) h' ∧ w5.heap.size ≠ g4) := by
    obtain ⟨q1, q2⟩ := one_boxQ w5 28 Z D5 HDZ5.out
    exact ⟨_, rfl, by have z := H4.out.1; have q3 := andThen b5 q2; exact ⟨z.1.kept q3, z.2.1.kept q3, andThen z.2.2.1 q3, z.2.2.2.1.kept q3, z.2.2.2.2.kept q3⟩, q1, (o5.weak H4.out.1.2.2.1.size).kept q2, by have e9 := (LB.kept H4.out.1.2.2.2.2 b5).lt; omega⟩
  clear hD hL hE o5 b5 H4
  go_wp2_with (first | (refine wpList_alloc_Z HZ.out rfl rfl ?_) | (refine wpList_store_mid rfl 28 (.tmp 15) (.tmp 108) rfl w5.heap.size 0 D5.toArray rfl rfl HT5.out (by simpa using HDL5.out) (all_oneCell_toArray HDO5.out) ?_; (obtain ⟨Y5, hY, hq⟩ := EE5.out); (have H5 : Hid _ := hq); (rw [List.toList_toArray, ← hY]); (clear hY hq EE5 HT5)) | fail)
  generalize w5.heap.size = q5g at *
  go_upto_region 18 with fail
  refine wp_region_held_drew (S := (fun w' => w'.rangeAt q5g 0 D5)) (by kernel_rfl) ?_ (fun hH => ?_)
  · exact H5.out.2.1.range
  refine wpAnyH_take (i := 0) rfl (by kernel_rfl) (by kernel_rfl) (by kernel_rfl) (fun _ _ _ h => h) (yieldsIf_load_mid (by rfl) _ _ rfl _ _ rfl D5 _ (fun w' hSw => hSw) Tryd.underlying28 rfl HDL5.out) hH ?_
  simp only [Act.put, List.setIfInBounds_toArray, List.set_cons_zero, List.set_cons_succ, List.getElem_toArray, List.getElem_cons_zero]
  refine wpAnyH_take (i := 1) (v := ?v3) rfl (by kernel_rfl) (by kernel_rfl) (by kernel_rfl) (fun _ _ _ h => h) (Or.inl ⟨by rfl, ?hy3⟩) hH ?rest3
  case hy3 => intro w' hSw; (try dsimp only at hSw); go_simp; all_goals rfl
  simp only [Act.put, List.setIfInBounds_toArray, List.set_cons_zero, List.set_cons_succ, List.getElem_toArray, List.getElem_cons_zero, List.getElem_cons_succ]
  refine wpAnyH_ready (rs := [2]) (by kernel_rfl) (by simp) ?_
  refine AllReadyH.cons rfl (fun K hK => ?_) AllReadyH.nil
  go_simp
  refine (HNU.out _).mono ?_
  rintro e w6 ⟨rfl, hw6⟩
  subst hw6
  refine hK.out _ _ ?_ (fun hH2 => ?_)
  · exact H5.out.2.1.range
  clear hK K hH
  have hH := hH2
  clear hH2
  refine wpAnyH_take (i := 3) (v := ?v4) rfl (by kernel_rfl) (by kernel_rfl) (by kernel_rfl) (fun _ _ _ h => h) (Or.inl ⟨by rfl, ?hy4⟩) hH ?rest4
  case hy4 => intro w' hSw; (try dsimp only at hSw); go_simp; all_goals rfl
  simp only [Act.put, List.setIfInBounds_toArray, List.set_cons_zero, List.set_cons_succ, List.getElem_toArray, List.getElem_cons_zero, List.getElem_cons_succ]
  have HT6 : Hid (Y5.drew.there g4 0 D5.toArray.size) := there_of (w := Y5.drew) H5.out.1.2.2.2.2 (by simp [HDZ5.out])
  have H6 : Hid (∀ Y, Y = Y5.drew.setCells g4 0 D5 → LB Y g4 28 D5 ∧ POST (.returned (.tuple #[.agg D5.toArray, .bool false, .bool true])) Y) := fun Y hY => by
    have z : LB Y5.drew g4 28 Z := H5.out.1.2.2.2.2
    have zo : SgO w.heap.size Y5.drew (deedS S (turnR S l)) h' := H5.out.2.2.1.kept (Below.drew (Below.refl _ _))
    rw [hY, ← HD5.out]
    exact ⟨z.sets D5 HDZ5.out, HRV.out _ _ (zo.oth z (by decide) (by decide) (Oth.sets _ _ _ _)) (below_cells HG.out.2.1 _ 0 _ H5.out.1.2.2.1.drew)⟩
  refine wpAnyH_ready (rs := [4]) (by kernel_rfl) (by simp) ?_
  refine AllReadyH.cons rfl (fun K' hK => ?_) AllReadyH.nil
  refine step_storeQ rfl 28 (.tmp 6) (.tmp 110) rfl g4 0 D5.toArray rfl rfl HT6.out (by simpa using HDL5.out) (all_oneCell_toArray HDO5.out) ?_
  rw [List.toList_toArray]
  refine hK.out _ _ ?_ (fun hH2 => ?_)
  · exact (LB.others (w := Y5.drew) H5.out.2.1 _ _ _ H5.out.2.2.2).range
  clear hK K' hH
  have hH := hH2
  clear hH2
  refine wpAnyH_take (i := 5) (v := ?v5) rfl (by kernel_rfl) (by kernel_rfl) (by kernel_rfl) (fun _ _ _ h => h) (Or.inl ⟨by rfl, ?hy5⟩) hH ?rest5
  case hy5 => intro w' hSw; (try dsimp only at hSw); go_simp; all_goals rfl
  simp only [Act.put, List.setIfInBounds_toArray, List.set_cons_zero, List.set_cons_succ, List.getElem_toArray, List.getElem_cons_zero, List.getElem_cons_succ]
  refine wpAnyH_take (i := 6) (v := ?v6) rfl (by kernel_rfl) (by kernel_rfl) (by kernel_rfl) (fun _ _ _ h => h) (Or.inl ⟨by rfl, ?hy6⟩) hH ?rest6
  case hy6 => intro w' hSw; (try dsimp only at hSw); go_simp; all_goals rfl
  simp only [Act.put, List.setIfInBounds_toArray, List.set_cons_zero, List.set_cons_succ, List.getElem_toArray, List.getElem_cons_zero, List.getElem_cons_succ]
  refine wpAnyH_done (by kernel_rfl) ?_ _
  go_wp2_with fail
  refine bodyPost_ret (results_cell_slot2 (p := 6) (s := 7) (s2 := 8) (ty := 28) rfl _ _ g4 D5 _ rfl (H6.out _ rfl).1.range Tryd.underlying28 rfl HDL5.out) rfl ?_
  exact (H6.out _ rfl).2

set_option maxRecDepth 100000 in
set_option maxHeartbeats 8000000 in
theorem pturnG_b2 (O cc : Int) (p : Pln) (v : Value) (S : Sg) (h : SH) (d : Value) (l : List Nat) (w : World) (a : PA w p v S h) (hT : STabs w) (hb : Bs w d l) (hlen : l.length ≤ 16384) (hf : fitP p S = 0) (_he : S.x.ended = false) (hfl : S.x.fl = true) (hO : 1 ≤ O ∧ O ≤ 3) (hc1 : -9223372036854775808 ≤ cc) (hc2 : cc ≤ 9223372036854775807) (hph : S.x.ph = 1) : Calls Tryd.prog 8 #[plv p v, sv S h, .agg (anl O cc d).toArray] w fun e w' => ∃ h', e = .returned (.tuple #[sv (deedS S (ansR p S O cc l)) h', .bool false, .bool true]) ∧ SgO w.heap.size w' (deedS S (ansR p S O cc l)) h' ∧ Below w.heap.size w w' := by
  have hc := (pfits_iff hf).2.1
  have HNX0 : ∀ w', Below w.heap.size w w' → Calls Tryd.prog 6 #[plv p v, sv S h] w' fun e w'' => e = .returned (.tuple #[nextV p S, .int .i64 0]) ∧ Below w'.heap.size w' w'' := fun w' hb => pnext_any p v S h w' (a.kept hb) hf
  have HNU : Hid (∀ w', Calls Tryd.prog 7 #[.int .i64 0] w' fun e w'' => e = .returned (.int .i64 0) ∧ w' = w'') := fun w' => pnum_any 0 w' (by decide) (by decide)
  obtain ⟨v3, r0⟩ := ans_good hf hfl hlen hO hc1 hc2
  have hO4 : (O != 4) = true := by simp; omega
  have HAP0 : ∀ (dr : Value) w', Bs w' dr (ansR p S O cc l).l → Below w.heap.size w w' → Calls Tryd.prog 23 #[sv S h, rv (ansR p S O cc l).x (ansR p S O cc l).nm dr] w' fun e w'' => ApPost w' (0, deedS S (ansR p S O cc l)) e w'' := fun dr w' q hb => by
    have e := apply_any S h (ansR p S O cc l) dr w' (a.kept hb).k q (hT.kept hb) a.n (by show (0 : Nat) ≤ _; omega) (fit_v3 _ v3 (id_of S hc).2)
    rw [apply_v3 S (ansR p S O cc l) hc v3 rfl r0] at e
    exact e
  have HRV : Hid (∀ w' h', SgO w.heap.size w' (deedS S (ansR p S O cc l)) h' → Below w.heap.size w w' → ∃ h2, (Ending.returned (.tuple #[sv (deedS S (ansR p S O cc l)) h', .bool false, .bool true])) = .returned (.tuple #[sv (deedS S (ansR p S O cc l)) h2, .bool false, .bool true]) ∧ SgO w.heap.size w' (deedS S (ansR p S O cc l)) h2 ∧ Below w.heap.size w w') := fun w' h' q hb => ⟨h', rfl, q, hb⟩
  obtain ⟨ZR, hZR⟩ : ∃ ZR, ZR = zrl := ⟨_, rfl⟩
  have HZR : Hid (ZR = zrl) := hZR
  have HZRL : Hid (ZR.length = 12) := by show _ = _; rw [hZR]; rfl
  clear hZR
  have hkd : deedK S.x = 2 := by rcases flight_deed hc hfl with ⟨e, e2⟩ | ⟨e, e2⟩ <;> omega
  obtain ⟨M, hMM⟩ : ∃ M : List Value, M = actl (deedK S.x) S.x.id (if 1 ≤ deedK S.x ∧ deedK S.x ≤ 4 then S.x.turn else 0) (if deedK S.x = 1 ∨ deedK S.x = 3 then S.x.nextTry else if deedK S.x = 2 ∨ deedK S.x = 4 then S.x.tr else 0) (if 1 ≤ deedK S.x ∧ deedK S.x ≤ 4 then nameT p S else ⟨#[]⟩) := ⟨_, rfl⟩
  have hNV : nextV p S = .agg M.toArray := by rw [hMM]; rfl
  rw [hNV] at HNX0
  have HM5 : Hid (M.length = 5 ∧ (Tryd.prog.info? 31).map (·.size) = some M.length ∧ (∀ v ∈ M, v.oneCell' = true)) := by rw [hMM]; exact ⟨rfl, infoAct, actl_one _ _ _ _ _⟩
  have HK0 : Hid (M[0]? = some (.int .i64 (deedK S.x))) := by show _ = _; rw [hMM]; rfl
  have hk24 : deedK S.x = 2 ∨ deedK S.x = 4 := by omega
  have hk14 : 1 ≤ deedK S.x ∧ deedK S.x ≤ 4 := by omega
  have hk13 : ¬(deedK S.x = 1 ∨ deedK S.x = 3) := by omega
  obtain ⟨X, hX⟩ : ∃ X, X = recQ (deedK S.x) S.x.id S.x.turn S.x.tr := ⟨_, rfl⟩
  have hMX : M = actl (deedK S.x) S.x.id S.x.turn S.x.tr (nameT p S) := by rw [hMM, if_pos hk14, if_neg hk13, if_pos hk24, if_pos hk14]
  have HRE : Hid (∀ w', Calls Tryd.prog 20 #[.agg M.toArray] w' fun e w'' => e = .returned (rv X ⟨#[]⟩ (.slice none 0 0)) ∧ Below w'.heap.size w' w'') := fun w' => by
    rw [hX, hMX]; exact precord_any _ _ _ _ _ w'
  have hTR : ansR p S O cc l = ⟨ansX p S O cc, ⟨#[]⟩, l⟩ := rfl
  have HAP1 : ∀ dr w', Bs w' dr l → Below w.heap.size w w' → Calls Tryd.prog 23 #[sv S h, rv (ansX p S O cc) ⟨#[]⟩ dr] w' fun e w'' => ApPost w' (0, deedS S (ansR p S O cc l)) e w'' := fun dr w' q hb => by
    have e := HAP0 dr w' (by rw [hTR]; exact q) hb
    rw [show (ansR p S O cc l).x = ansX p S O cc by rw [hTR], show (ansR p S O cc l).nm = ⟨#[]⟩ from rfl] at e
    exact e
  have HAS0 : ∀ w', Below w.heap.size w w' → Calls Tryd.prog 21 #[plv p v, sv S h] w' fun e w'' => ∃ d, e = .returned (.tuple #[.agg (askl S (nameT p S) d).toArray, .int .i64 0]) ∧ d.oneCell' = true ∧ Below w'.heap.size w' w'' := fun w' hb => pask_any p v S h w' (a.kept hb) hf hfl
  have HAN0 : ∀ w', Below w.heap.size w w' → Calls Tryd.prog 22 #[plv p v, sv S h, .agg (anl O cc d).toArray] w' fun e w'' => AnPost p S O cc l w' e w'' := fun w' hb' => panswer_any p v S h O cc d l w' (a.kept hb') (hb.kept hb') hlen hf hfl hO
  have HM2 : Hid (M[2]? = some (.int .i64 S.x.turn) ∧ M[3]? = some (.int .i64 S.x.tr) ∧ M[4]? = some (.string (nameT p S))) := by rw [hMX]; exact ⟨rfl, rfl, rfl⟩
  have HAK : Hid (∀ d, askl S (nameT p S) d = [.int .i64 S.x.id, .int .i64 S.x.turn, .bool (S.x.ph == 2), .int .i64 S.x.tr, .string (nameT p S), d]) := fun d => rfl
  rw [hkd] at HK0
  have hp2 : (S.x.ph == 2) = false := by rw [hph]; decide
  have hAN : ∀ w' e w'', AnPost p S O cc l w' e w'' → ∃ d', e = .returned (.tuple #[rv (ansX p S O cc) ⟨#[]⟩ d', .bool true, .int .i64 0]) ∧ Own w'.heap.size w'' d' l ∧ Below w'.heap.size w' w'' := fun _ _ _ q => q
  have HANQ : Hid _ := hAN
  generalize nameT p S = N at *
  obtain ⟨RR, hRR⟩ : ∃ RR, RR = ansR p S O cc l := ⟨_, rfl⟩
  rw [← hRR] at HAP1 HRV ⊢
  clear hRR
  generalize ansX p S O cc = XA at *
  generalize deedK S.x = KD at *
  clear hMM hNV a hT hc hf _he hlen hfl hO hc1 hc2 v3 r0 HAP0 hX hTR hk24 hk14 hk13 hMX hAN hkd
  obtain ⟨ad, cd, ed, -⟩ := hb.shape
  subst ed
  obtain ⟨Z, hZ⟩ : ∃ Z, Z = zcl := ⟨_, rfl⟩
  have HZ : Hid (Z = zcl) := hZ
  have HZL : Hid (Z.length = 16) := by show _ = _; rw [hZ]; rfl
  clear hZ
  obtain ⟨C, hC, hM, hG⟩ := plv_letter p v
  obtain ⟨D, hD, hL, hE⟩ := sv_letter S h
  rw [hC, hD]
  try rw [hC] at HNX0
  try rw [hD] at HNX0
  try rw [hC] at HAP1
  try rw [hD] at HAP1
  try rw [hC] at HAS0
  try rw [hD] at HAS0
  try rw [hC] at HAN0
  try rw [hD] at HAN0
  have HNX : Hid _ := HNX0
  have HAP : Hid _ := HAP1
  have HAS : Hid _ := HAS0
  have HAN : Hid _ := HAN0
  have HM : Hid _ := hM
  have HG : Hid (C = plvl p v) := hG
  have HL : Hid _ := hL
  have HE : Hid (D = scl S h) := hE
  clear hC hM hG hD hL hE HNX0 HAP1 HAS0 HAN0
  go_enter Tryd.func8, Tryd.ntmps8
  go_upto_region 1 with (first | (refine wpList_alloc_Z HZ.out rfl rfl ?_) | fail)
  obtain ⟨W, eW⟩ : ∃ W, W = (((w.alloc (.cells C.toArray 24)).alloc (.cells D.toArray 28)).alloc (.cells (anl O cc (.slice ad l.length cd)).toArray 39)).alloc (.cells Z.toArray 28) := ⟨_, rfl⟩
  rw [← eW]
  have H0 : Hid (LB W w.heap.size 24 C ∧ LB W (w.heap.size + 1) 28 D ∧ Below w.heap.size w W ∧ LB W (w.heap.size + 1 + 1) 39 (anl O cc (.slice ad l.length cd)) ∧ LB W (w.heap.size + 1 + 1 + 1) 28 Z) := by
    obtain ⟨q1, q2, q3, q4⟩ := lb_new3 w C D (anl O cc (.slice ad l.length cd)) 24 28 39
    rw [eW]
    exact ⟨q1.kept (up0 _ _), q2.kept (up0 _ _), andThen q4 (up0 _ _), q3.kept (up0 _ _), lb_new4 w C D _ _ _ _ _ _⟩
  clear eW
  generalize hg4 : w.heap.size + 1 + 1 + 1 = g4 at *
  generalize hg3 : w.heap.size + 1 + 1 = g3 at *
  have HG : Hid (w.heap.size ≤ g3 ∧ w.heap.size ≤ g4 ∧ w.heap.size + 1 ≠ g4) := by refine ⟨?_, ?_, ?_⟩ <;> omega
  clear hg3 hg4
  go_wp2_with (first | (refine wpList_load_mid rfl 24 _ rfl w.heap.size 0 rfl C _ H0.out.1.range Tryd.underlying24 rfl HM.out ?_) | (refine wpList_load_mid rfl 28 _ rfl (w.heap.size + 1) 0 rfl D _ H0.out.2.1.range Tryd.underlying28 rfl HL.out ?_) | (refine wpList_load_midG rfl 24 _ rfl w.heap.size 0 rfl C _ H0.out.1.range Tryd.underlying24 rfl HM.out ?_) | (refine wpList_load_midG rfl 28 _ rfl (w.heap.size + 1) 0 rfl D _ H0.out.2.1.range Tryd.underlying28 rfl HL.out ?_) | fail)
  refine (HNX.out _ H0.out.2.2.1).mono ?_
  rintro e w1 ⟨rfl, b1⟩
  have HT9 : Hid ((w1.alloc (.cells #[.int .i64 0, .int .i64 0, .int .i64 0, .int .i64 0, .string ⟨#[]⟩] 31)).there w1.heap.size 0 M.toArray.size) := there_of (lb_new w1 [.int .i64 0, .int .i64 0, .int .i64 0, .int .i64 0, .string ⟨#[]⟩] _) (by simp [HM5.out.1])
  have E9 : Hid (∃ Y, Y = (w1.alloc (.cells #[.int .i64 0, .int .i64 0, .int .i64 0, .int .i64 0, .string ⟨#[]⟩] 31)).setCells w1.heap.size 0 M ∧ (LB Y w.heap.size 24 C ∧ LB Y (w.heap.size + 1) 28 D ∧ Below w.heap.size w Y ∧ LB Y g3 39 (anl O cc (.slice ad l.length cd)) ∧ LB Y g4 28 Z) ∧ LB Y w1.heap.size 31 M ∧ w.heap.size ≤ w1.heap.size) := by
    obtain ⟨q1, q2⟩ := one_boxQ w1 31 [.int .i64 0, .int .i64 0, .int .i64 0, .int .i64 0, .string ⟨#[]⟩] M HM5.out.1
    have z := H0.out
    have q3 := andThen b1 q2
    exact ⟨_, rfl, ⟨z.1.kept q3, z.2.1.kept q3, andThen z.2.2.1 q3, z.2.2.2.1.kept q3, z.2.2.2.2.kept q3⟩, q1, (andThen z.2.2.1 b1).size⟩
  clear b1 H0 HNX
  go_wp2_with (first | (refine wpList_store_mid rfl 31 (.tmp 9) (.tmp 21) rfl w1.heap.size 0 M.toArray rfl rfl HT9.out (by simpa using HM5.out.2.1) (all_oneCell_toArray HM5.out.2.2) ?_; (obtain ⟨Y1, hY, hq⟩ := E9.out); (have H1 : Hid _ := hq); (rw [List.toList_toArray, ← hY]); (clear hY hq E9 HT9)) | fail)
  generalize w1.heap.size = g9 at *
  refine (HNU.out _).mono ?_
  rintro e w2 ⟨rfl, rfl⟩
  have k0 := H1.out.2.1.cell 0 _ HK0.out
  have hNN : (N.toList == N.toList) = true := by simp
  go_wp2_with (first | (refine wpList_load_mid rfl 31 _ rfl g9 0 rfl M _ H1.out.2.1.range Tryd.underlying31 rfl HM5.out.2.1 ?_) | fail)
  refine (HRE.out _).mono ?_
  rintro e w4 ⟨rfl, b4⟩
  have HN9 : Hid (w.heap.size ≤ g9) := H1.out.2.2
  obtain ⟨D4, hD, hL, hE⟩ := rv_letter X ⟨#[]⟩ (.slice none 0 0)
  rw [hD]
  have HD4 : Hid (rv X ⟨#[]⟩ (.slice none 0 0) = .agg D4.toArray) := hD
  have HDL4 : Hid _ := hL
  have HDO4 : Hid (∀ v ∈ D4, v.oneCell' = true) := by show ∀ v ∈ D4, _; rw [hE]; exact rcE_one _ _ _ rfl
  have HDZ4 : Hid (D4.length = ZR.length) := by show _ = _; rw [hE, HZRL.out]; rfl
  have HT4 : Hid ((w4.alloc (.cells ZR.toArray 50)).there w4.heap.size 0 D4.toArray.size) := there_of (lb_new w4 ZR _) (by simpa using HDZ4.out)
  have EE4 : Hid (∃ Y, Y = (w4.alloc (.cells ZR.toArray 50)).setCells w4.heap.size 0 D4 ∧ (LB Y w.heap.size 24 C ∧ LB Y (w.heap.size + 1) 28 D ∧ Below w.heap.size w Y ∧ LB Y g3 39 (anl O cc (.slice ad l.length cd)) ∧ LB Y g4 28 Z) ∧ LB Y w4.heap.size 50 D4 ∧ LB Y g9 31 M ∧ w.heap.size ≤ w4.heap.size) := by
    obtain ⟨q1, q2⟩ := one_boxQ w4 50 ZR D4 HDZ4.out
    exact ⟨_, rfl, by have z := H1.out.1; have q3 := andThen b4 q2; exact ⟨z.1.kept q3, z.2.1.kept q3, andThen z.2.2.1 q3, z.2.2.2.1.kept q3, z.2.2.2.2.kept q3⟩, q1, (H1.out.2.1.kept b4).kept q2, (andThen H1.out.1.2.2.1 b4).size⟩
  clear hD hL hE b4 H1 HRE k0
  go_wp2_with (first | (refine wpList_alloc_R HZR.out rfl rfl ?_) | (refine wpList_store_mid rfl 50 (.tmp 11) (.tmp 34) rfl w4.heap.size 0 D4.toArray rfl rfl HT4.out (by simpa using HDL4.out) (all_oneCell_toArray HDO4.out) ?_; (obtain ⟨Y4, hY, hq⟩ := EE4.out); (have H4 : Hid _ := hq); (rw [List.toList_toArray, ← hY]); (have k0 := hq.2.2.1.cell 0 _ HK0.out); (clear hY hq EE4 HT4)) | (refine wpList_load_mid rfl 24 _ rfl w.heap.size 0 rfl C _ H4.out.1.1.range Tryd.underlying24 rfl HM.out ?_) | (refine wpList_load_mid rfl 28 _ rfl (w.heap.size + 1) 0 rfl D _ H4.out.1.2.1.range Tryd.underlying28 rfl HL.out ?_) | (refine wpList_load_midG rfl 24 _ rfl w.heap.size 0 rfl C _ H4.out.1.1.range Tryd.underlying24 rfl HM.out ?_) | (refine wpList_load_midG rfl 28 _ rfl (w.heap.size + 1) 0 rfl D _ H4.out.1.2.1.range Tryd.underlying28 rfl HL.out ?_) | fail)
  generalize w4.heap.size = q4g at *
  refine (HAS.out _ H4.out.1.2.2.1).mono ?_
  rintro e w6 ⟨da, rfl, h1a, b6⟩
  obtain ⟨MA, hMA⟩ : ∃ MA, MA = askl S N da := ⟨_, rfl⟩
  rw [← hMA]
  have HMA : Hid (MA.length = 6 ∧ (Tryd.prog.info? 64).map (·.size) = some MA.length ∧ (∀ v ∈ MA, v.oneCell' = true) ∧ MA[1]? = some (.int .i64 S.x.turn) ∧ MA[2]? = some (.bool (S.x.ph == 2)) ∧ MA[3]? = some (.int .i64 S.x.tr) ∧ MA[4]? = some (.string N)) := by rw [hMA]; exact ⟨rfl, infoCall, askl_one S N da h1a, rfl, rfl, rfl, rfl⟩
  have HT6 : Hid ((w6.alloc (.cells #[.int .i64 0, .int .i64 0, .bool false, .int .i64 0, .string ⟨#[]⟩, .slice none 0 0] 64)).there w6.heap.size 0 MA.toArray.size) := there_of (lb_new w6 [.int .i64 0, .int .i64 0, .bool false, .int .i64 0, .string ⟨#[]⟩, .slice none 0 0] _) (by simp [HMA.out.1])
  have E6 : Hid (∃ Y, Y = (w6.alloc (.cells #[.int .i64 0, .int .i64 0, .bool false, .int .i64 0, .string ⟨#[]⟩, .slice none 0 0] 64)).setCells w6.heap.size 0 MA ∧ (LB Y w.heap.size 24 C ∧ LB Y (w.heap.size + 1) 28 D ∧ Below w.heap.size w Y ∧ LB Y g3 39 (anl O cc (.slice ad l.length cd)) ∧ LB Y g4 28 Z) ∧ LB Y q4g 50 D4 ∧ LB Y g9 31 M ∧ LB Y w6.heap.size 64 MA) := by
    obtain ⟨q1, q2⟩ := one_boxQ w6 64 [.int .i64 0, .int .i64 0, .bool false, .int .i64 0, .string ⟨#[]⟩, .slice none 0 0] MA HMA.out.1
    have z := H4.out.1
    have q3 := andThen b6 q2
    exact ⟨_, rfl, ⟨z.1.kept q3, z.2.1.kept q3, andThen z.2.2.1 q3, z.2.2.2.1.kept q3, z.2.2.2.2.kept q3⟩, H4.out.2.1.kept q3, H4.out.2.2.1.kept q3, q1⟩
  have HQ4 : Hid (w.heap.size ≤ q4g) := H4.out.2.2.2
  have HQN : Hid (q4g ≠ g4 ∧ q4g ≠ w.heap.size + 1) := ⟨lb_ne H4.out.2.1 H4.out.1.2.2.2.2 (by decide), lb_ne H4.out.2.1 H4.out.1.2.1 (by decide)⟩
  clear hMA h1a b6 H4 HAS k0
  go_wp2_with (first | (refine wpList_store_mid rfl 64 (.tmp 12) (.tmp 47) rfl w6.heap.size 0 MA.toArray rfl rfl HT6.out (by simpa using HMA.out.2.1) (all_oneCell_toArray HMA.out.2.2.1) ?_; (obtain ⟨Y6, hY, hq⟩ := E6.out); (have H6 : Hid _ := hq); (rw [List.toList_toArray, ← hY]); (clear hY hq E6 HT6)) | fail)
  generalize w6.heap.size = q6g at *
  refine (HNU.out _).mono ?_
  rintro e w7 ⟨rfl, rfl⟩
  have k0 := H6.out.2.2.1.cell 0 _ HK0.out
  have k2 := H6.out.2.2.1.cell 2 _ HM2.out.1
  have k3 := H6.out.2.2.1.cell 3 _ HM2.out.2.1
  have k4 := H6.out.2.2.1.cell 4 _ HM2.out.2.2
  have m1 := H6.out.2.2.2.cell 1 _ HMA.out.2.2.2.1
  have m2 := H6.out.2.2.2.cell 2 _ HMA.out.2.2.2.2.1
  have m3 := H6.out.2.2.2.cell 3 _ HMA.out.2.2.2.2.2.1
  have m4 := H6.out.2.2.2.cell 4 _ HMA.out.2.2.2.2.2.2
  have HAI : Hid ((Tryd.prog.info? 39).map (·.size) = some (anl O cc (.slice ad l.length cd)).length) := infoAns
  go_wp2_with (first | (refine wpList_load_mid rfl 24 _ rfl w.heap.size 0 rfl C _ H6.out.1.1.range Tryd.underlying24 rfl HM.out ?_) | (refine wpList_load_mid rfl 28 _ rfl (w.heap.size + 1) 0 rfl D _ H6.out.1.2.1.range Tryd.underlying28 rfl HL.out ?_) | (refine wpList_load_midG rfl 24 _ rfl w.heap.size 0 rfl C _ H6.out.1.1.range Tryd.underlying24 rfl HM.out ?_) | (refine wpList_load_midG rfl 28 _ rfl (w.heap.size + 1) 0 rfl D _ H6.out.1.2.1.range Tryd.underlying28 rfl HL.out ?_) | (refine wpList_load_mid rfl 39 _ rfl g3 0 rfl (anl O cc (.slice ad l.length cd)) _ H6.out.1.2.2.2.1.range Tryd.underlying39 rfl HAI.out ?_) | fail)
  refine (HAN.out _ H6.out.1.2.2.1).mono ?_
  intro e w8 hq8
  obtain ⟨d8, rfl, o8, b8⟩ := HANQ.out _ _ _ hq8
  clear hq8 HANQ HAN
  obtain ⟨a8, c8, e8, -⟩ := o8.bs.shape
  subst e8
  obtain ⟨D8, hD, hL, hE⟩ := rv_letter XA ⟨#[]⟩ (.slice a8 l.length c8)
  rw [hD]
  have HD8 : Hid (rv XA ⟨#[]⟩ (.slice a8 l.length c8) = .agg D8.toArray) := hD
  have HDL8 : Hid _ := hL
  have HDO8 : Hid (∀ v ∈ D8, v.oneCell' = true) := by show ∀ v ∈ D8, _; rw [hE]; exact rcE_one _ _ _ rfl
  have HDZ8 : Hid (D8.length = D4.length) := by show _ = _; rw [HDZ4.out, hE, HZRL.out]; rfl
  have HT8 : Hid (w8.there q4g 0 D8.toArray.size) := there_of (H6.out.2.1.kept b8) (by simp [HDZ8.out])
  have E8 : Hid (∃ Y, Y = w8.setCells q4g 0 D8 ∧ (LB Y w.heap.size 24 C ∧ LB Y (w.heap.size + 1) 28 D ∧ Below w.heap.size w Y ∧ LB Y g3 39 (anl O cc (.slice ad l.length cd)) ∧ LB Y g4 28 Z) ∧ LB Y q4g 50 D8 ∧ Bs Y (.slice a8 l.length c8) l) := by
    have z := H6.out.1
    have zr := H6.out.2.1.kept b8
    have ow := own_oth o8 zr (by decide) (Oth.sets w8 q4g 0 D8)
    exact ⟨_, rfl, ⟨(z.1.kept b8).others _ _ _ (lb_ne (z.1.kept b8) zr (by decide)), (z.2.1.kept b8).others _ _ _ (Ne.symm HQN.out.2), below_cells HQ4.out _ 0 _ (andThen z.2.2.1 b8), (z.2.2.2.1.kept b8).others _ _ _ (lb_ne (z.2.2.2.1.kept b8) zr (by decide)), (z.2.2.2.2.kept b8).others _ _ _ (Ne.symm HQN.out.1)⟩, zr.sets D8 HDZ8.out, ow.bs⟩
  clear hD hL hE o8 b8 H6 k0 k2 k3 k4 m1 m2 m3 m4
  go_wp2_with (first | (refine wpList_store_mid rfl 50 (.tmp 11) (.tmp 87) rfl q4g 0 D8.toArray rfl rfl HT8.out (by simpa using HDL8.out) (all_oneCell_toArray HDO8.out) ?_; (obtain ⟨Y8, hY, hq⟩ := E8.out); (have H8 : Hid _ := hq); (rw [List.toList_toArray, ← hY]); (clear hY hq E8 HT8)) | fail)
  refine (HNU.out _).mono ?_
  rintro e w9 ⟨rfl, rfl⟩
  have HAP8 : Hid (Calls Tryd.prog 23 #[.agg D.toArray, .agg D8.toArray] Y8 fun e w'' => ApPost Y8 (0, deedS S RR) e w'') := by
    have e := HAP.out _ Y8 H8.out.2.2 H8.out.1.2.2.1
    rw [HD8.out] at e
    exact e
  have a0 := H8.out.1.2.2.2.1.cell 0 _ rfl
  go_wp2_with (first | (refine wpList_load_mid rfl 28 _ rfl (w.heap.size + 1) 0 rfl D _ H8.out.1.2.1.range Tryd.underlying28 rfl HL.out ?_) | (refine wpList_load_mid rfl 50 _ rfl q4g 0 rfl D8 _ H8.out.2.1.range Tryd.underlying50 rfl HDL8.out ?_) | fail)
  clear a0
  refine (HAP8.out).mono ?_
  rintro e w5 ⟨h', rfl, o5, b5⟩
  obtain ⟨D5, hD, hL, hE⟩ := sv_letter (deedS S RR) h'
  rw [hD]
  have HD5 : Hid (sv (deedS S RR) h' = .agg D5.toArray) := hD
  have HDL5 : Hid _ := hL
  have HDO5 : Hid (∀ v ∈ D5, v.oneCell' = true) := by show ∀ v ∈ D5, _; rw [hE]; exact scl_one _ _
  have HDZ5 : Hid (D5.length = Z.length) := by show _ = _; rw [hE, HZL.out]; rfl
  have HT5 : Hid ((w5.alloc (.cells Z.toArray 28)).there w5.heap.size 0 D5.toArray.size) := there_of (lb_new w5 Z _) (by simpa using HDZ5.out)
  have EE5 : Hid (∃ Y, Y = (w5.alloc (.cells Z.toArray 28)).setCells w5.heap.size 0 D5 ∧ (LB Y w.heap.size 24 C ∧ LB Y (w.heap.size + 1) 28 D ∧ Below w.heap.size w Y ∧ LB Y g3 39 (anl O cc (.slice ad l.length cd)) ∧ LB Y g4 28 Z) ∧ LB Y w5.heap.size 28 D5 ∧ SgO w.heap.size Y (deedS S RR) h' ∧ w5.heap.size ≠ g4) := by
    obtain ⟨q1, q2⟩ := one_boxQ w5 28 Z D5 HDZ5.out
    exact ⟨_, rfl, by have z := H8.out.1; have q3 := andThen b5 q2; exact ⟨z.1.kept q3, z.2.1.kept q3, andThen z.2.2.1 q3, z.2.2.2.1.kept q3, z.2.2.2.2.kept q3⟩, q1, (o5.weak H8.out.1.2.2.1.size).kept q2, by have e9 := (LB.kept H8.out.1.2.2.2.2 b5).lt; omega⟩
  clear hD hL hE o5 b5 H8
  go_wp2_with (first | (refine wpList_alloc_Z HZ.out rfl rfl ?_) | (refine wpList_store_mid rfl 28 (.tmp 15) (.tmp 108) rfl w5.heap.size 0 D5.toArray rfl rfl HT5.out (by simpa using HDL5.out) (all_oneCell_toArray HDO5.out) ?_; (obtain ⟨Y5, hY, hq⟩ := EE5.out); (have H5 : Hid _ := hq); (rw [List.toList_toArray, ← hY]); (clear hY hq EE5 HT5)) | fail)
  generalize w5.heap.size = q5g at *
  go_upto_region 18 with fail
  refine wp_region_held_drew (S := (fun w' => w'.rangeAt q5g 0 D5)) (by kernel_rfl) ?_ (fun hH => ?_)
  · exact H5.out.2.1.range
  refine wpAnyH_take (i := 0) rfl (by kernel_rfl) (by kernel_rfl) (by kernel_rfl) (fun _ _ _ h => h) (yieldsIf_load_mid (by rfl) _ _ rfl _ _ rfl D5 _ (fun w' hSw => hSw) Tryd.underlying28 rfl HDL5.out) hH ?_
  simp only [Act.put, List.setIfInBounds_toArray, List.set_cons_zero, List.set_cons_succ, List.getElem_toArray, List.getElem_cons_zero]
  refine wpAnyH_take (i := 1) (v := ?v1) rfl (by kernel_rfl) (by kernel_rfl) (by kernel_rfl) (fun _ _ _ h => h) (Or.inl ⟨by rfl, ?hy1⟩) hH ?rest1
  case hy1 => intro w' hSw; (try dsimp only at hSw); go_simp; all_goals rfl
  simp only [Act.put, List.setIfInBounds_toArray, List.set_cons_zero, List.set_cons_succ, List.getElem_toArray, List.getElem_cons_zero, List.getElem_cons_succ]
  refine wpAnyH_ready (rs := [2]) (by kernel_rfl) (by simp) ?_
  refine AllReadyH.cons rfl (fun K hK => ?_) AllReadyH.nil
  go_simp
  refine (HNU.out _).mono ?_
  rintro e w6 ⟨rfl, hw6⟩
  subst hw6
  refine hK.out _ _ ?_ (fun hH2 => ?_)
  · exact H5.out.2.1.range
  clear hK K hH
  have hH := hH2
  clear hH2
  refine wpAnyH_take (i := 3) (v := ?v2) rfl (by kernel_rfl) (by kernel_rfl) (by kernel_rfl) (fun _ _ _ h => h) (Or.inl ⟨by rfl, ?hy2⟩) hH ?rest2
  case hy2 => intro w' hSw; (try dsimp only at hSw); go_simp; all_goals rfl
  simp only [Act.put, List.setIfInBounds_toArray, List.set_cons_zero, List.set_cons_succ, List.getElem_toArray, List.getElem_cons_zero, List.getElem_cons_succ]
  have HT6 : Hid (Y5.drew.there g4 0 D5.toArray.size) := there_of (w := Y5.drew) H5.out.1.2.2.2.2 (by simp [HDZ5.out])
  have H6 : Hid (∀ Y, Y = Y5.drew.setCells g4 0 D5 → LB Y g4 28 D5 ∧ ∃ h2, (Ending.returned (.tuple #[.agg D5.toArray, .bool false, .bool true])) = .returned (.tuple #[sv (deedS S RR) h2, .bool false, .bool true]) ∧ SgO w.heap.size Y (deedS S RR) h2 ∧ Below w.heap.size w Y) := fun Y hY => by
    have z : LB Y5.drew g4 28 Z := H5.out.1.2.2.2.2
    have zo : SgO w.heap.size Y5.drew (deedS S RR) h' := H5.out.2.2.1.kept (Below.drew (Below.refl _ _))
    rw [hY, ← HD5.out]
    exact ⟨z.sets D5 HDZ5.out, HRV.out _ _ (zo.oth z (by decide) (by decide) (Oth.sets _ _ _ _)) (below_cells HG.out.2.1 _ 0 _ H5.out.1.2.2.1.drew)⟩
  refine wpAnyH_ready (rs := [4]) (by kernel_rfl) (by simp) ?_
  refine AllReadyH.cons rfl (fun K' hK => ?_) AllReadyH.nil
  refine step_storeQ rfl 28 (.tmp 6) (.tmp 110) rfl g4 0 D5.toArray rfl rfl HT6.out (by simpa using HDL5.out) (all_oneCell_toArray HDO5.out) ?_
  rw [List.toList_toArray]
  refine hK.out _ _ ?_ (fun hH2 => ?_)
  · exact (LB.others (w := Y5.drew) H5.out.2.1 _ _ _ H5.out.2.2.2).range
  clear hK K' hH
  have hH := hH2
  clear hH2
  refine wpAnyH_take (i := 5) (v := ?v3) rfl (by kernel_rfl) (by kernel_rfl) (by kernel_rfl) (fun _ _ _ h => h) (Or.inl ⟨by rfl, ?hy3⟩) hH ?rest3
  case hy3 => intro w' hSw; (try dsimp only at hSw); go_simp; all_goals rfl
  simp only [Act.put, List.setIfInBounds_toArray, List.set_cons_zero, List.set_cons_succ, List.getElem_toArray, List.getElem_cons_zero, List.getElem_cons_succ]
  refine wpAnyH_take (i := 6) (v := ?v4) rfl (by kernel_rfl) (by kernel_rfl) (by kernel_rfl) (fun _ _ _ h => h) (Or.inl ⟨by rfl, ?hy4⟩) hH ?rest4
  case hy4 => intro w' hSw; (try dsimp only at hSw); go_simp; all_goals rfl
  simp only [Act.put, List.setIfInBounds_toArray, List.set_cons_zero, List.set_cons_succ, List.getElem_toArray, List.getElem_cons_zero, List.getElem_cons_succ]
  refine wpAnyH_done (by kernel_rfl) ?_ _
  go_wp2_with fail
  refine bodyPost_ret (results_cell_slot2 (p := 6) (s := 7) (s2 := 8) (ty := 28) rfl _ _ g4 D5 _ rfl (H6.out _ rfl).1.range Tryd.underlying28 rfl HDL5.out) rfl ?_
  exact (H6.out _ rfl).2

set_option maxRecDepth 100000 in
set_option maxHeartbeats 8000000 in
theorem pturnG_b4 (O cc : Int) (p : Pln) (v : Value) (S : Sg) (h : SH) (d : Value) (l : List Nat) (w : World) (a : PA w p v S h) (hT : STabs w) (hb : Bs w d l) (hlen : l.length ≤ 16384) (hf : fitP p S = 0) (_he : S.x.ended = false) (hfl : S.x.fl = true) (hO : 1 ≤ O ∧ O ≤ 3) (hc1 : -9223372036854775808 ≤ cc) (hc2 : cc ≤ 9223372036854775807) (hph : S.x.ph = 2) : Calls Tryd.prog 8 #[plv p v, sv S h, .agg (anl O cc d).toArray] w fun e w' => ∃ h', e = .returned (.tuple #[sv (deedS S (ansR p S O cc l)) h', .bool false, .bool true]) ∧ SgO w.heap.size w' (deedS S (ansR p S O cc l)) h' ∧ Below w.heap.size w w' := by
  have hc := (pfits_iff hf).2.1
  have HNX0 : ∀ w', Below w.heap.size w w' → Calls Tryd.prog 6 #[plv p v, sv S h] w' fun e w'' => e = .returned (.tuple #[nextV p S, .int .i64 0]) ∧ Below w'.heap.size w' w'' := fun w' hb => pnext_any p v S h w' (a.kept hb) hf
  have HNU : Hid (∀ w', Calls Tryd.prog 7 #[.int .i64 0] w' fun e w'' => e = .returned (.int .i64 0) ∧ w' = w'') := fun w' => pnum_any 0 w' (by decide) (by decide)
  obtain ⟨v3, r0⟩ := ans_good hf hfl hlen hO hc1 hc2
  have hO4 : (O != 4) = true := by simp; omega
  have HAP0 : ∀ (dr : Value) w', Bs w' dr (ansR p S O cc l).l → Below w.heap.size w w' → Calls Tryd.prog 23 #[sv S h, rv (ansR p S O cc l).x (ansR p S O cc l).nm dr] w' fun e w'' => ApPost w' (0, deedS S (ansR p S O cc l)) e w'' := fun dr w' q hb => by
    have e := apply_any S h (ansR p S O cc l) dr w' (a.kept hb).k q (hT.kept hb) a.n (by show (0 : Nat) ≤ _; omega) (fit_v3 _ v3 (id_of S hc).2)
    rw [apply_v3 S (ansR p S O cc l) hc v3 rfl r0] at e
    exact e
  have HRV : Hid (∀ w' h', SgO w.heap.size w' (deedS S (ansR p S O cc l)) h' → Below w.heap.size w w' → ∃ h2, (Ending.returned (.tuple #[sv (deedS S (ansR p S O cc l)) h', .bool false, .bool true])) = .returned (.tuple #[sv (deedS S (ansR p S O cc l)) h2, .bool false, .bool true]) ∧ SgO w.heap.size w' (deedS S (ansR p S O cc l)) h2 ∧ Below w.heap.size w w') := fun w' h' q hb => ⟨h', rfl, q, hb⟩
  obtain ⟨ZR, hZR⟩ : ∃ ZR, ZR = zrl := ⟨_, rfl⟩
  have HZR : Hid (ZR = zrl) := hZR
  have HZRL : Hid (ZR.length = 12) := by show _ = _; rw [hZR]; rfl
  clear hZR
  have hkd : deedK S.x = 4 := by rcases flight_deed hc hfl with ⟨e, e2⟩ | ⟨e, e2⟩ <;> omega
  obtain ⟨M, hMM⟩ : ∃ M : List Value, M = actl (deedK S.x) S.x.id (if 1 ≤ deedK S.x ∧ deedK S.x ≤ 4 then S.x.turn else 0) (if deedK S.x = 1 ∨ deedK S.x = 3 then S.x.nextTry else if deedK S.x = 2 ∨ deedK S.x = 4 then S.x.tr else 0) (if 1 ≤ deedK S.x ∧ deedK S.x ≤ 4 then nameT p S else ⟨#[]⟩) := ⟨_, rfl⟩
  have hNV : nextV p S = .agg M.toArray := by rw [hMM]; rfl
  rw [hNV] at HNX0
  have HM5 : Hid (M.length = 5 ∧ (Tryd.prog.info? 31).map (·.size) = some M.length ∧ (∀ v ∈ M, v.oneCell' = true)) := by rw [hMM]; exact ⟨rfl, infoAct, actl_one _ _ _ _ _⟩
  have HK0 : Hid (M[0]? = some (.int .i64 (deedK S.x))) := by show _ = _; rw [hMM]; rfl
  have hk24 : deedK S.x = 2 ∨ deedK S.x = 4 := by omega
  have hk14 : 1 ≤ deedK S.x ∧ deedK S.x ≤ 4 := by omega
  have hk13 : ¬(deedK S.x = 1 ∨ deedK S.x = 3) := by omega
  obtain ⟨X, hX⟩ : ∃ X, X = recQ (deedK S.x) S.x.id S.x.turn S.x.tr := ⟨_, rfl⟩
  have hMX : M = actl (deedK S.x) S.x.id S.x.turn S.x.tr (nameT p S) := by rw [hMM, if_pos hk14, if_neg hk13, if_pos hk24, if_pos hk14]
  have HRE : Hid (∀ w', Calls Tryd.prog 20 #[.agg M.toArray] w' fun e w'' => e = .returned (rv X ⟨#[]⟩ (.slice none 0 0)) ∧ Below w'.heap.size w' w'') := fun w' => by
    rw [hX, hMX]; exact precord_any _ _ _ _ _ w'
  have hTR : ansR p S O cc l = ⟨ansX p S O cc, ⟨#[]⟩, l⟩ := rfl
  have HAP1 : ∀ dr w', Bs w' dr l → Below w.heap.size w w' → Calls Tryd.prog 23 #[sv S h, rv (ansX p S O cc) ⟨#[]⟩ dr] w' fun e w'' => ApPost w' (0, deedS S (ansR p S O cc l)) e w'' := fun dr w' q hb => by
    have e := HAP0 dr w' (by rw [hTR]; exact q) hb
    rw [show (ansR p S O cc l).x = ansX p S O cc by rw [hTR], show (ansR p S O cc l).nm = ⟨#[]⟩ from rfl] at e
    exact e
  have HAS0 : ∀ w', Below w.heap.size w w' → Calls Tryd.prog 21 #[plv p v, sv S h] w' fun e w'' => ∃ d, e = .returned (.tuple #[.agg (askl S (nameT p S) d).toArray, .int .i64 0]) ∧ d.oneCell' = true ∧ Below w'.heap.size w' w'' := fun w' hb => pask_any p v S h w' (a.kept hb) hf hfl
  have HAN0 : ∀ w', Below w.heap.size w w' → Calls Tryd.prog 22 #[plv p v, sv S h, .agg (anl O cc d).toArray] w' fun e w'' => AnPost p S O cc l w' e w'' := fun w' hb' => panswer_any p v S h O cc d l w' (a.kept hb') (hb.kept hb') hlen hf hfl hO
  have HM2 : Hid (M[2]? = some (.int .i64 S.x.turn) ∧ M[3]? = some (.int .i64 S.x.tr) ∧ M[4]? = some (.string (nameT p S))) := by rw [hMX]; exact ⟨rfl, rfl, rfl⟩
  have HAK : Hid (∀ d, askl S (nameT p S) d = [.int .i64 S.x.id, .int .i64 S.x.turn, .bool (S.x.ph == 2), .int .i64 S.x.tr, .string (nameT p S), d]) := fun d => rfl
  rw [hkd] at HK0
  have hp2 : (S.x.ph == 2) = true := by rw [hph]; decide
  have hAN : ∀ w' e w'', AnPost p S O cc l w' e w'' → ∃ d', e = .returned (.tuple #[rv (ansX p S O cc) ⟨#[]⟩ d', .bool true, .int .i64 0]) ∧ Own w'.heap.size w'' d' l ∧ Below w'.heap.size w' w'' := fun _ _ _ q => q
  have HANQ : Hid _ := hAN
  generalize nameT p S = N at *
  obtain ⟨RR, hRR⟩ : ∃ RR, RR = ansR p S O cc l := ⟨_, rfl⟩
  rw [← hRR] at HAP1 HRV ⊢
  clear hRR
  generalize ansX p S O cc = XA at *
  generalize deedK S.x = KD at *
  clear hMM hNV a hT hc hf _he hlen hfl hO hc1 hc2 v3 r0 HAP0 hX hTR hk24 hk14 hk13 hMX hAN hkd
  obtain ⟨ad, cd, ed, -⟩ := hb.shape
  subst ed
  obtain ⟨Z, hZ⟩ : ∃ Z, Z = zcl := ⟨_, rfl⟩
  have HZ : Hid (Z = zcl) := hZ
  have HZL : Hid (Z.length = 16) := by show _ = _; rw [hZ]; rfl
  clear hZ
  obtain ⟨C, hC, hM, hG⟩ := plv_letter p v
  obtain ⟨D, hD, hL, hE⟩ := sv_letter S h
  rw [hC, hD]
  try rw [hC] at HNX0
  try rw [hD] at HNX0
  try rw [hC] at HAP1
  try rw [hD] at HAP1
  try rw [hC] at HAS0
  try rw [hD] at HAS0
  try rw [hC] at HAN0
  try rw [hD] at HAN0
  have HNX : Hid _ := HNX0
  have HAP : Hid _ := HAP1
  have HAS : Hid _ := HAS0
  have HAN : Hid _ := HAN0
  have HM : Hid _ := hM
  have HG : Hid (C = plvl p v) := hG
  have HL : Hid _ := hL
  have HE : Hid (D = scl S h) := hE
  clear hC hM hG hD hL hE HNX0 HAP1 HAS0 HAN0
  go_enter Tryd.func8, Tryd.ntmps8
  go_upto_region 1 with (first | (refine wpList_alloc_Z HZ.out rfl rfl ?_) | fail)
  obtain ⟨W, eW⟩ : ∃ W, W = (((w.alloc (.cells C.toArray 24)).alloc (.cells D.toArray 28)).alloc (.cells (anl O cc (.slice ad l.length cd)).toArray 39)).alloc (.cells Z.toArray 28) := ⟨_, rfl⟩
  rw [← eW]
  have H0 : Hid (LB W w.heap.size 24 C ∧ LB W (w.heap.size + 1) 28 D ∧ Below w.heap.size w W ∧ LB W (w.heap.size + 1 + 1) 39 (anl O cc (.slice ad l.length cd)) ∧ LB W (w.heap.size + 1 + 1 + 1) 28 Z) := by
    obtain ⟨q1, q2, q3, q4⟩ := lb_new3 w C D (anl O cc (.slice ad l.length cd)) 24 28 39
    rw [eW]
    exact ⟨q1.kept (up0 _ _), q2.kept (up0 _ _), andThen q4 (up0 _ _), q3.kept (up0 _ _), lb_new4 w C D _ _ _ _ _ _⟩
  clear eW
  generalize hg4 : w.heap.size + 1 + 1 + 1 = g4 at *
  generalize hg3 : w.heap.size + 1 + 1 = g3 at *
  have HG : Hid (w.heap.size ≤ g3 ∧ w.heap.size ≤ g4 ∧ w.heap.size + 1 ≠ g4) := by refine ⟨?_, ?_, ?_⟩ <;> omega
  clear hg3 hg4
  go_wp2_with (first | (refine wpList_load_mid rfl 24 _ rfl w.heap.size 0 rfl C _ H0.out.1.range Tryd.underlying24 rfl HM.out ?_) | (refine wpList_load_mid rfl 28 _ rfl (w.heap.size + 1) 0 rfl D _ H0.out.2.1.range Tryd.underlying28 rfl HL.out ?_) | (refine wpList_load_midG rfl 24 _ rfl w.heap.size 0 rfl C _ H0.out.1.range Tryd.underlying24 rfl HM.out ?_) | (refine wpList_load_midG rfl 28 _ rfl (w.heap.size + 1) 0 rfl D _ H0.out.2.1.range Tryd.underlying28 rfl HL.out ?_) | fail)
  refine (HNX.out _ H0.out.2.2.1).mono ?_
  rintro e w1 ⟨rfl, b1⟩
  have HT9 : Hid ((w1.alloc (.cells #[.int .i64 0, .int .i64 0, .int .i64 0, .int .i64 0, .string ⟨#[]⟩] 31)).there w1.heap.size 0 M.toArray.size) := there_of (lb_new w1 [.int .i64 0, .int .i64 0, .int .i64 0, .int .i64 0, .string ⟨#[]⟩] _) (by simp [HM5.out.1])
  have E9 : Hid (∃ Y, Y = (w1.alloc (.cells #[.int .i64 0, .int .i64 0, .int .i64 0, .int .i64 0, .string ⟨#[]⟩] 31)).setCells w1.heap.size 0 M ∧ (LB Y w.heap.size 24 C ∧ LB Y (w.heap.size + 1) 28 D ∧ Below w.heap.size w Y ∧ LB Y g3 39 (anl O cc (.slice ad l.length cd)) ∧ LB Y g4 28 Z) ∧ LB Y w1.heap.size 31 M ∧ w.heap.size ≤ w1.heap.size) := by
    obtain ⟨q1, q2⟩ := one_boxQ w1 31 [.int .i64 0, .int .i64 0, .int .i64 0, .int .i64 0, .string ⟨#[]⟩] M HM5.out.1
    have z := H0.out
    have q3 := andThen b1 q2
    exact ⟨_, rfl, ⟨z.1.kept q3, z.2.1.kept q3, andThen z.2.2.1 q3, z.2.2.2.1.kept q3, z.2.2.2.2.kept q3⟩, q1, (andThen z.2.2.1 b1).size⟩
  clear b1 H0 HNX
  go_wp2_with (first | (refine wpList_store_mid rfl 31 (.tmp 9) (.tmp 21) rfl w1.heap.size 0 M.toArray rfl rfl HT9.out (by simpa using HM5.out.2.1) (all_oneCell_toArray HM5.out.2.2) ?_; (obtain ⟨Y1, hY, hq⟩ := E9.out); (have H1 : Hid _ := hq); (rw [List.toList_toArray, ← hY]); (clear hY hq E9 HT9)) | fail)
  generalize w1.heap.size = g9 at *
  refine (HNU.out _).mono ?_
  rintro e w2 ⟨rfl, rfl⟩
  have k0 := H1.out.2.1.cell 0 _ HK0.out
  have hNN : (N.toList == N.toList) = true := by simp
  go_wp2_with (first | (refine wpList_load_mid rfl 31 _ rfl g9 0 rfl M _ H1.out.2.1.range Tryd.underlying31 rfl HM5.out.2.1 ?_) | fail)
  refine (HRE.out _).mono ?_
  rintro e w4 ⟨rfl, b4⟩
  have HN9 : Hid (w.heap.size ≤ g9) := H1.out.2.2
  obtain ⟨D4, hD, hL, hE⟩ := rv_letter X ⟨#[]⟩ (.slice none 0 0)
  rw [hD]
  have HD4 : Hid (rv X ⟨#[]⟩ (.slice none 0 0) = .agg D4.toArray) := hD
  have HDL4 : Hid _ := hL
  have HDO4 : Hid (∀ v ∈ D4, v.oneCell' = true) := by show ∀ v ∈ D4, _; rw [hE]; exact rcE_one _ _ _ rfl
  have HDZ4 : Hid (D4.length = ZR.length) := by show _ = _; rw [hE, HZRL.out]; rfl
  have HT4 : Hid ((w4.alloc (.cells ZR.toArray 50)).there w4.heap.size 0 D4.toArray.size) := there_of (lb_new w4 ZR _) (by simpa using HDZ4.out)
  have EE4 : Hid (∃ Y, Y = (w4.alloc (.cells ZR.toArray 50)).setCells w4.heap.size 0 D4 ∧ (LB Y w.heap.size 24 C ∧ LB Y (w.heap.size + 1) 28 D ∧ Below w.heap.size w Y ∧ LB Y g3 39 (anl O cc (.slice ad l.length cd)) ∧ LB Y g4 28 Z) ∧ LB Y w4.heap.size 50 D4 ∧ LB Y g9 31 M ∧ w.heap.size ≤ w4.heap.size) := by
    obtain ⟨q1, q2⟩ := one_boxQ w4 50 ZR D4 HDZ4.out
    exact ⟨_, rfl, by have z := H1.out.1; have q3 := andThen b4 q2; exact ⟨z.1.kept q3, z.2.1.kept q3, andThen z.2.2.1 q3, z.2.2.2.1.kept q3, z.2.2.2.2.kept q3⟩, q1, (H1.out.2.1.kept b4).kept q2, (andThen H1.out.1.2.2.1 b4).size⟩
  clear hD hL hE b4 H1 HRE k0
  go_wp2_with (first | (refine wpList_alloc_R HZR.out rfl rfl ?_) | (refine wpList_store_mid rfl 50 (.tmp 11) (.tmp 34) rfl w4.heap.size 0 D4.toArray rfl rfl HT4.out (by simpa using HDL4.out) (all_oneCell_toArray HDO4.out) ?_; (obtain ⟨Y4, hY, hq⟩ := EE4.out); (have H4 : Hid _ := hq); (rw [List.toList_toArray, ← hY]); (have k0 := hq.2.2.1.cell 0 _ HK0.out); (clear hY hq EE4 HT4)) | (refine wpList_load_mid rfl 24 _ rfl w.heap.size 0 rfl C _ H4.out.1.1.range Tryd.underlying24 rfl HM.out ?_) | (refine wpList_load_mid rfl 28 _ rfl (w.heap.size + 1) 0 rfl D _ H4.out.1.2.1.range Tryd.underlying28 rfl HL.out ?_) | (refine wpList_load_midG rfl 24 _ rfl w.heap.size 0 rfl C _ H4.out.1.1.range Tryd.underlying24 rfl HM.out ?_) | (refine wpList_load_midG rfl 28 _ rfl (w.heap.size + 1) 0 rfl D _ H4.out.1.2.1.range Tryd.underlying28 rfl HL.out ?_) | fail)
  generalize w4.heap.size = q4g at *
  refine (HAS.out _ H4.out.1.2.2.1).mono ?_
  rintro e w6 ⟨da, rfl, h1a, b6⟩
  obtain ⟨MA, hMA⟩ : ∃ MA, MA = askl S N da := ⟨_, rfl⟩
  rw [← hMA]
  have HMA : Hid (MA.length = 6 ∧ (Tryd.prog.info? 64).map (·.size) = some MA.length ∧ (∀ v ∈ MA, v.oneCell' = true) ∧ MA[1]? = some (.int .i64 S.x.turn) ∧ MA[2]? = some (.bool (S.x.ph == 2)) ∧ MA[3]? = some (.int .i64 S.x.tr) ∧ MA[4]? = some (.string N)) := by rw [hMA]; exact ⟨rfl, infoCall, askl_one S N da h1a, rfl, rfl, rfl, rfl⟩
  have HT6 : Hid ((w6.alloc (.cells #[.int .i64 0, .int .i64 0, .bool false, .int .i64 0, .string ⟨#[]⟩, .slice none 0 0] 64)).there w6.heap.size 0 MA.toArray.size) := there_of (lb_new w6 [.int .i64 0, .int .i64 0, .bool false, .int .i64 0, .string ⟨#[]⟩, .slice none 0 0] _) (by simp [HMA.out.1])
  have E6 : Hid (∃ Y, Y = (w6.alloc (.cells #[.int .i64 0, .int .i64 0, .bool false, .int .i64 0, .string ⟨#[]⟩, .slice none 0 0] 64)).setCells w6.heap.size 0 MA ∧ (LB Y w.heap.size 24 C ∧ LB Y (w.heap.size + 1) 28 D ∧ Below w.heap.size w Y ∧ LB Y g3 39 (anl O cc (.slice ad l.length cd)) ∧ LB Y g4 28 Z) ∧ LB Y q4g 50 D4 ∧ LB Y g9 31 M ∧ LB Y w6.heap.size 64 MA) := by
    obtain ⟨q1, q2⟩ := one_boxQ w6 64 [.int .i64 0, .int .i64 0, .bool false, .int .i64 0, .string ⟨#[]⟩, .slice none 0 0] MA HMA.out.1
    have z := H4.out.1
    have q3 := andThen b6 q2
    exact ⟨_, rfl, ⟨z.1.kept q3, z.2.1.kept q3, andThen z.2.2.1 q3, z.2.2.2.1.kept q3, z.2.2.2.2.kept q3⟩, H4.out.2.1.kept q3, H4.out.2.2.1.kept q3, q1⟩
  have HQ4 : Hid (w.heap.size ≤ q4g) := H4.out.2.2.2
  have HQN : Hid (q4g ≠ g4 ∧ q4g ≠ w.heap.size + 1) := ⟨lb_ne H4.out.2.1 H4.out.1.2.2.2.2 (by decide), lb_ne H4.out.2.1 H4.out.1.2.1 (by decide)⟩
  clear hMA h1a b6 H4 HAS k0
  go_wp2_with (first | (refine wpList_store_mid rfl 64 (.tmp 12) (.tmp 47) rfl w6.heap.size 0 MA.toArray rfl rfl HT6.out (by simpa using HMA.out.2.1) (all_oneCell_toArray HMA.out.2.2.1) ?_; (obtain ⟨Y6, hY, hq⟩ := E6.out); (have H6 : Hid _ := hq); (rw [List.toList_toArray, ← hY]); (clear hY hq E6 HT6)) | fail)
  generalize w6.heap.size = q6g at *
  refine (HNU.out _).mono ?_
  rintro e w7 ⟨rfl, rfl⟩
  have k0 := H6.out.2.2.1.cell 0 _ HK0.out
  have k2 := H6.out.2.2.1.cell 2 _ HM2.out.1
  have k3 := H6.out.2.2.1.cell 3 _ HM2.out.2.1
  have k4 := H6.out.2.2.1.cell 4 _ HM2.out.2.2
  have m1 := H6.out.2.2.2.cell 1 _ HMA.out.2.2.2.1
  have m2 := H6.out.2.2.2.cell 2 _ HMA.out.2.2.2.2.1
  have m3 := H6.out.2.2.2.cell 3 _ HMA.out.2.2.2.2.2.1
  have m4 := H6.out.2.2.2.cell 4 _ HMA.out.2.2.2.2.2.2
  have HAI : Hid ((Tryd.prog.info? 39).map (·.size) = some (anl O cc (.slice ad l.length cd)).length) := infoAns
  go_wp2_with (first | (refine wpList_load_mid rfl 24 _ rfl w.heap.size 0 rfl C _ H6.out.1.1.range Tryd.underlying24 rfl HM.out ?_) | (refine wpList_load_mid rfl 28 _ rfl (w.heap.size + 1) 0 rfl D _ H6.out.1.2.1.range Tryd.underlying28 rfl HL.out ?_) | (refine wpList_load_midG rfl 24 _ rfl w.heap.size 0 rfl C _ H6.out.1.1.range Tryd.underlying24 rfl HM.out ?_) | (refine wpList_load_midG rfl 28 _ rfl (w.heap.size + 1) 0 rfl D _ H6.out.1.2.1.range Tryd.underlying28 rfl HL.out ?_) | (refine wpList_load_mid rfl 39 _ rfl g3 0 rfl (anl O cc (.slice ad l.length cd)) _ H6.out.1.2.2.2.1.range Tryd.underlying39 rfl HAI.out ?_) | fail)
  refine (HAN.out _ H6.out.1.2.2.1).mono ?_
  intro e w8 hq8
  obtain ⟨d8, rfl, o8, b8⟩ := HANQ.out _ _ _ hq8
  clear hq8 HANQ HAN
  obtain ⟨a8, c8, e8, -⟩ := o8.bs.shape
  subst e8
  obtain ⟨D8, hD, hL, hE⟩ := rv_letter XA ⟨#[]⟩ (.slice a8 l.length c8)
  rw [hD]
  have HD8 : Hid (rv XA ⟨#[]⟩ (.slice a8 l.length c8) = .agg D8.toArray) := hD
  have HDL8 : Hid _ := hL
  have HDO8 : Hid (∀ v ∈ D8, v.oneCell' = true) := by show ∀ v ∈ D8, _; rw [hE]; exact rcE_one _ _ _ rfl
  have HDZ8 : Hid (D8.length = D4.length) := by show _ = _; rw [HDZ4.out, hE, HZRL.out]; rfl
  have HT8 : Hid (w8.there q4g 0 D8.toArray.size) := there_of (H6.out.2.1.kept b8) (by simp [HDZ8.out])
  have E8 : Hid (∃ Y, Y = w8.setCells q4g 0 D8 ∧ (LB Y w.heap.size 24 C ∧ LB Y (w.heap.size + 1) 28 D ∧ Below w.heap.size w Y ∧ LB Y g3 39 (anl O cc (.slice ad l.length cd)) ∧ LB Y g4 28 Z) ∧ LB Y q4g 50 D8 ∧ Bs Y (.slice a8 l.length c8) l) := by
    have z := H6.out.1
    have zr := H6.out.2.1.kept b8
    have ow := own_oth o8 zr (by decide) (Oth.sets w8 q4g 0 D8)
    exact ⟨_, rfl, ⟨(z.1.kept b8).others _ _ _ (lb_ne (z.1.kept b8) zr (by decide)), (z.2.1.kept b8).others _ _ _ (Ne.symm HQN.out.2), below_cells HQ4.out _ 0 _ (andThen z.2.2.1 b8), (z.2.2.2.1.kept b8).others _ _ _ (lb_ne (z.2.2.2.1.kept b8) zr (by decide)), (z.2.2.2.2.kept b8).others _ _ _ (Ne.symm HQN.out.1)⟩, zr.sets D8 HDZ8.out, ow.bs⟩
  clear hD hL hE o8 b8 H6 k0 k2 k3 k4 m1 m2 m3 m4
  go_wp2_with (first | (refine wpList_store_mid rfl 50 (.tmp 11) (.tmp 87) rfl q4g 0 D8.toArray rfl rfl HT8.out (by simpa using HDL8.out) (all_oneCell_toArray HDO8.out) ?_; (obtain ⟨Y8, hY, hq⟩ := E8.out); (have H8 : Hid _ := hq); (rw [List.toList_toArray, ← hY]); (clear hY hq E8 HT8)) | fail)
  refine (HNU.out _).mono ?_
  rintro e w9 ⟨rfl, rfl⟩
  have HAP8 : Hid (Calls Tryd.prog 23 #[.agg D.toArray, .agg D8.toArray] Y8 fun e w'' => ApPost Y8 (0, deedS S RR) e w'') := by
    have e := HAP.out _ Y8 H8.out.2.2 H8.out.1.2.2.1
    rw [HD8.out] at e
    exact e
  have a0 := H8.out.1.2.2.2.1.cell 0 _ rfl
  go_wp2_with (first | (refine wpList_load_mid rfl 28 _ rfl (w.heap.size + 1) 0 rfl D _ H8.out.1.2.1.range Tryd.underlying28 rfl HL.out ?_) | (refine wpList_load_mid rfl 50 _ rfl q4g 0 rfl D8 _ H8.out.2.1.range Tryd.underlying50 rfl HDL8.out ?_) | fail)
  clear a0
  refine (HAP8.out).mono ?_
  rintro e w5 ⟨h', rfl, o5, b5⟩
  obtain ⟨D5, hD, hL, hE⟩ := sv_letter (deedS S RR) h'
  rw [hD]
  have HD5 : Hid (sv (deedS S RR) h' = .agg D5.toArray) := hD
  have HDL5 : Hid _ := hL
  have HDO5 : Hid (∀ v ∈ D5, v.oneCell' = true) := by show ∀ v ∈ D5, _; rw [hE]; exact scl_one _ _
  have HDZ5 : Hid (D5.length = Z.length) := by show _ = _; rw [hE, HZL.out]; rfl
  have HT5 : Hid ((w5.alloc (.cells Z.toArray 28)).there w5.heap.size 0 D5.toArray.size) := there_of (lb_new w5 Z _) (by simpa using HDZ5.out)
  have EE5 : Hid (∃ Y, Y = (w5.alloc (.cells Z.toArray 28)).setCells w5.heap.size 0 D5 ∧ (LB Y w.heap.size 24 C ∧ LB Y (w.heap.size + 1) 28 D ∧ Below w.heap.size w Y ∧ LB Y g3 39 (anl O cc (.slice ad l.length cd)) ∧ LB Y g4 28 Z) ∧ LB Y w5.heap.size 28 D5 ∧ SgO w.heap.size Y (deedS S RR) h' ∧ w5.heap.size ≠ g4) := by
    obtain ⟨q1, q2⟩ := one_boxQ w5 28 Z D5 HDZ5.out
    exact ⟨_, rfl, by have z := H8.out.1; have q3 := andThen b5 q2; exact ⟨z.1.kept q3, z.2.1.kept q3, andThen z.2.2.1 q3, z.2.2.2.1.kept q3, z.2.2.2.2.kept q3⟩, q1, (o5.weak H8.out.1.2.2.1.size).kept q2, by have e9 := (LB.kept H8.out.1.2.2.2.2 b5).lt; omega⟩
  clear hD hL hE o5 b5 H8
  go_wp2_with (first | (refine wpList_alloc_Z HZ.out rfl rfl ?_) | (refine wpList_store_mid rfl 28 (.tmp 15) (.tmp 108) rfl w5.heap.size 0 D5.toArray rfl rfl HT5.out (by simpa using HDL5.out) (all_oneCell_toArray HDO5.out) ?_; (obtain ⟨Y5, hY, hq⟩ := EE5.out); (have H5 : Hid _ := hq); (rw [List.toList_toArray, ← hY]); (clear hY hq EE5 HT5)) | fail)
  generalize w5.heap.size = q5g at *
  go_upto_region 18 with fail
  refine wp_region_held_drew (S := (fun w' => w'.rangeAt q5g 0 D5)) (by kernel_rfl) ?_ (fun hH => ?_)
  · exact H5.out.2.1.range
  refine wpAnyH_take (i := 0) rfl (by kernel_rfl) (by kernel_rfl) (by kernel_rfl) (fun _ _ _ h => h) (yieldsIf_load_mid (by rfl) _ _ rfl _ _ rfl D5 _ (fun w' hSw => hSw) Tryd.underlying28 rfl HDL5.out) hH ?_
  simp only [Act.put, List.setIfInBounds_toArray, List.set_cons_zero, List.set_cons_succ, List.getElem_toArray, List.getElem_cons_zero]
  refine wpAnyH_take (i := 1) (v := ?v5) rfl (by kernel_rfl) (by kernel_rfl) (by kernel_rfl) (fun _ _ _ h => h) (Or.inl ⟨by rfl, ?hy5⟩) hH ?rest5
  case hy5 => intro w' hSw; (try dsimp only at hSw); go_simp; all_goals rfl
  simp only [Act.put, List.setIfInBounds_toArray, List.set_cons_zero, List.set_cons_succ, List.getElem_toArray, List.getElem_cons_zero, List.getElem_cons_succ]
  refine wpAnyH_ready (rs := [2]) (by kernel_rfl) (by simp) ?_
  refine AllReadyH.cons rfl (fun K hK => ?_) AllReadyH.nil
  go_simp
  refine (HNU.out _).mono ?_
  rintro e w6 ⟨rfl, hw6⟩
  subst hw6
  refine hK.out _ _ ?_ (fun hH2 => ?_)
  · exact H5.out.2.1.range
  clear hK K hH
  have hH := hH2
  clear hH2
  refine wpAnyH_take (i := 3) (v := ?v6) rfl (by kernel_rfl) (by kernel_rfl) (by kernel_rfl) (fun _ _ _ h => h) (Or.inl ⟨by rfl, ?hy6⟩) hH ?rest6
  case hy6 => intro w' hSw; (try dsimp only at hSw); go_simp; all_goals rfl
  simp only [Act.put, List.setIfInBounds_toArray, List.set_cons_zero, List.set_cons_succ, List.getElem_toArray, List.getElem_cons_zero, List.getElem_cons_succ]
  have HT6 : Hid (Y5.drew.there g4 0 D5.toArray.size) := there_of (w := Y5.drew) H5.out.1.2.2.2.2 (by simp [HDZ5.out])
  have H6 : Hid (∀ Y, Y = Y5.drew.setCells g4 0 D5 → LB Y g4 28 D5 ∧ ∃ h2, (Ending.returned (.tuple #[.agg D5.toArray, .bool false, .bool true])) = .returned (.tuple #[sv (deedS S RR) h2, .bool false, .bool true]) ∧ SgO w.heap.size Y (deedS S RR) h2 ∧ Below w.heap.size w Y) := fun Y hY => by
    have z : LB Y5.drew g4 28 Z := H5.out.1.2.2.2.2
    have zo : SgO w.heap.size Y5.drew (deedS S RR) h' := H5.out.2.2.1.kept (Below.drew (Below.refl _ _))
    rw [hY, ← HD5.out]
    exact ⟨z.sets D5 HDZ5.out, HRV.out _ _ (zo.oth z (by decide) (by decide) (Oth.sets _ _ _ _)) (below_cells HG.out.2.1 _ 0 _ H5.out.1.2.2.1.drew)⟩
  refine wpAnyH_ready (rs := [4]) (by kernel_rfl) (by simp) ?_
  refine AllReadyH.cons rfl (fun K' hK => ?_) AllReadyH.nil
  refine step_storeQ rfl 28 (.tmp 6) (.tmp 110) rfl g4 0 D5.toArray rfl rfl HT6.out (by simpa using HDL5.out) (all_oneCell_toArray HDO5.out) ?_
  rw [List.toList_toArray]
  refine hK.out _ _ ?_ (fun hH2 => ?_)
  · exact (LB.others (w := Y5.drew) H5.out.2.1 _ _ _ H5.out.2.2.2).range
  clear hK K' hH
  have hH := hH2
  clear hH2
  refine wpAnyH_take (i := 5) (v := ?v7) rfl (by kernel_rfl) (by kernel_rfl) (by kernel_rfl) (fun _ _ _ h => h) (Or.inl ⟨by rfl, ?hy7⟩) hH ?rest7
  case hy7 => intro w' hSw; (try dsimp only at hSw); go_simp; all_goals rfl
  simp only [Act.put, List.setIfInBounds_toArray, List.set_cons_zero, List.set_cons_succ, List.getElem_toArray, List.getElem_cons_zero, List.getElem_cons_succ]
  refine wpAnyH_take (i := 6) (v := ?v8) rfl (by kernel_rfl) (by kernel_rfl) (by kernel_rfl) (fun _ _ _ h => h) (Or.inl ⟨by rfl, ?hy8⟩) hH ?rest8
  case hy8 => intro w' hSw; (try dsimp only at hSw); go_simp; all_goals rfl
  simp only [Act.put, List.setIfInBounds_toArray, List.set_cons_zero, List.set_cons_succ, List.getElem_toArray, List.getElem_cons_zero, List.getElem_cons_succ]
  refine wpAnyH_done (by kernel_rfl) ?_ _
  go_wp2_with fail
  refine bodyPost_ret (results_cell_slot2 (p := 6) (s := 7) (s2 := 8) (ty := 28) rfl _ _ g4 D5 _ rfl (H6.out _ rfl).1.range Tryd.underlying28 rfl HDL5.out) rfl ?_
  exact (H6.out _ rfl).2
end Go.Proofs.YtodcakplmoajiaaDoor
