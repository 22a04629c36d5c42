import Derived.Test.YtodcakplmoajiaaDoorGPA
set_option maxRecDepth 100000
set_option maxHeartbeats 8000000
namespace Go.Proofs.YtodcakplmoajiaaDoor
open Go Go.RowKit
open Wb

def turnR (S : Sg) (l : List Nat) : Rec :=
 if deedK S.x = 2 ∨ deedK S.x = 4 then ⟨⟨3, landK S.x, S.x.id, S.x.turn, 0, 0, 0, 0, 0, 0⟩, ⟨#[]⟩, l⟩
 else ⟨recQ (deedK S.x) S.x.id (if 1 ≤ deedK S.x ∧ deedK S.x ≤ 4 then S.x.turn else 0) (if deedK S.x = 1 ∨ deedK S.x = 3 then S.x.nextTry else if deedK S.x = 2 ∨ deedK S.x = 4 then S.x.tr else 0), ⟨#[]⟩, []⟩
theorem turn_good (S : Sg) (l : List Nat) (h : chkS S = true) (he : S.x.ended = false) (hl : l.length ≤ 16384) : V3 (turnR S l) ∧ refP S.x (turnR S l).x = 0 ∧ 1 ≤ deedK S.x ∧ left S ≤ 2 * S.x.cnt.toNat + 1 ∧ 0 < left S ∧ (left S = 1 ↔ (turnR S l).x.k = 7) ∧ ((turnR S l).x.k ≠ 7 → left (deedS S (turnR S l)) + 1 = left S ∧ (deedS S (turnR S l)).x.ph = S.x.ph) ∧ ((turnR S l).x.k = 7 → (deedS S (turnR S l)).x.ph = S.x.ph + 2) ∧ (turnR S l).x.v = 3 ∧ (turnR S l).x.s = S.x.id ∧ (turnR S l).nm = ⟨#[]⟩ := by
 obtain ⟨⟨b1, b2, b3, b4, b5, b6, b7, b8, b9, b10, b11⟩, hG⟩ := (chkS_iff S).1 h
 unfold SN.ended at he
 rcases hG with ⟨g, c1, c2, c3, c4, c5, c6, c7, c8, c9, c10⟩ | ⟨g, _⟩ | ⟨g, c1, c2, c3, c4, c5, c6, c7, c8⟩ | ⟨g, _⟩
 ·by_cases ha : S.x.nx = S.x.cnt
  ·obtain ⟨f1, f2⟩ := c8 ha
   have hk : deedK S.x = 5 := by simp [deedK, g, ha, f1]
   have hr : turnR S l = ⟨⟨3, 7, S.x.id, 0, 0, 0, 0, 1, 0, 0⟩, ⟨#[]⟩, []⟩ := by unfold turnR; rw [hk]; simp [recQ]
   rw [hr, hk]
   refine ⟨?_, ?_, by decide, ?_, ?_, ?_, ?_, ?_, rfl, rfl, rfl⟩
   ·simp [V3]; omega
   ·simp [refP, SN.ended, SN.inPh, kph, lands, SN.onTurn, SN.atEnd, SN.fwd, SN.behind, SN.outcome, g, ha, f1]
   ·simp [left, g, f1]; omega
   ·simp [left, g, f1]
   ·simp [left, g, f1]; omega
   ·intro e; exact absurd rfl e
   ·intro _; simp [deedS, g]
  ·cases hf : S.x.fl with
   | true =>
    have hk : deedK S.x = 2 := by simp [deedK, g, hf]
    have hr : turnR S l = ⟨⟨3, 3, S.x.id, S.x.nx, 0, 0, 0, 0, 0, 0⟩, ⟨#[]⟩, l⟩ := by unfold turnR; rw [hk]; simp [SN.turn, SN.fwd, landK, g]
    rw [hr, hk]
    refine ⟨?_, ?_, by decide, ?_, ?_, ?_, ?_, ?_, rfl, rfl, rfl⟩
    ·simp [V3]; omega
    ·simp [refP, SN.ended, SN.inPh, kph, lands, SN.onTurn, SN.atEnd, SN.fwd, SN.behind, SN.turn, g, ha, hf]
    ·simp [left, g, hf]; omega
    ·simp [left, g, hf]; omega
    ·simp [left, g, hf]; omega
    ·intro _; simp [left, deedS, g, hf]; omega
    ·intro e; simp at e
   | false =>
    have hlt : S.x.nx < S.x.cnt := by omega
    have hk : deedK S.x = 1 := by simp [deedK, g, hf, hlt]
    have hr : turnR S l = ⟨⟨3, 2, S.x.id, S.x.nx, S.x.nextTry, 0, 0, 0, 0, 0⟩, ⟨#[]⟩, []⟩ := by unfold turnR; rw [hk]; simp [SN.turn, SN.fwd, recQ, g]
    rw [hr, hk]
    refine ⟨?_, ?_, by decide, ?_, ?_, ?_, ?_, ?_, rfl, rfl, rfl⟩
    ·simp [V3, SN.nextTry]; omega
    ·simp [refP, SN.ended, SN.inPh, kph, lands, SN.onTurn, SN.atEnd, SN.fwd, SN.behind, SN.turn, g, ha, hf]
    ·simp [left, g, hf]; omega
    ·simp [left, g, hf]
    ·simp [left, g, hf]; omega
    ·intro _; simp [left, deedS, g, hf]
    ·intro e; simp at e
 ·simp [g] at he
 ·by_cases ha : S.x.nx = 0
  ·obtain ⟨f1, f2⟩ := c7 ha
   have hk : deedK S.x = 6 := by simp [deedK, g, ha, f1]
   have hr : turnR S l = ⟨⟨3, 7, S.x.id, 0, 0, 0, 0, 2, 0, 0⟩, ⟨#[]⟩, []⟩ := by unfold turnR; rw [hk]; simp [recQ]
   rw [hr, hk]
   refine ⟨?_, ?_, by decide, ?_, ?_, ?_, ?_, ?_, rfl, rfl, rfl⟩
   ·simp [V3]; omega
   ·simp [refP, SN.ended, SN.inPh, kph, lands, SN.onTurn, SN.atEnd, SN.fwd, SN.behind, SN.outcome, g, ha, f1]
   ·simp [left, g, f1]; omega
   ·simp [left, g, f1]
   ·simp [left, g, f1]; omega
   ·intro e; exact absurd rfl e
   ·intro _; simp [deedS, g]
  ·cases hf : S.x.fl with
   | true =>
    have hk : deedK S.x = 4 := by simp [deedK, g, hf]
    have hr : turnR S l = ⟨⟨3, 6, S.x.id, S.x.nx - 1, 0, 0, 0, 0, 0, 0⟩, ⟨#[]⟩, l⟩ := by unfold turnR; rw [hk]; simp [SN.turn, SN.fwd, landK, g]
    rw [hr, hk]
    refine ⟨?_, ?_, by decide, ?_, ?_, ?_, ?_, ?_, rfl, rfl, rfl⟩
    ·simp [V3]; omega
    ·simp [refP, SN.ended, SN.inPh, kph, lands, SN.onTurn, SN.atEnd, SN.fwd, SN.behind, SN.turn, g, ha, hf]
    ·simp [left, g, hf]; omega
    ·simp [left, g, hf]; omega
    ·simp [left, g, hf]; omega
    ·intro _; simp [left, deedS, g, hf]; omega
    ·intro e; simp at e
   | false =>
    have hlt : 0 < S.x.nx := by omega
    have hk : deedK S.x = 3 := by simp [deedK, g, hf, hlt]
    have hr : turnR S l = ⟨⟨3, 5, S.x.id, S.x.nx - 1, S.x.nextTry, 0, 0, 0, 0, 0⟩, ⟨#[]⟩, []⟩ := by unfold turnR; rw [hk]; simp [SN.turn, SN.fwd, recQ, g]
    rw [hr, hk]
    refine ⟨?_, ?_, by decide, ?_, ?_, ?_, ?_, ?_, rfl, rfl, rfl⟩
    ·simp [V3, SN.nextTry]; omega
    ·simp [refP, SN.ended, SN.inPh, kph, lands, SN.onTurn, SN.atEnd, SN.fwd, SN.behind, SN.turn, g, ha, hf]
    ·simp [left, g, hf]; omega
    ·simp [left, g, hf]
    ·simp [left, g, hf]; omega
    ·intro _; simp [left, deedS, g, hf]
    ·intro e; simp at e
 ·simp [g] at he
theorem deed_piv (S : Sg) (r : Rec) : (deedS S r).x.piv = S.x.piv := by
 unfold deedS
 split
 ·rfl
 ·split
  ·rfl
  ·split
   ·split <;> rfl
   ·split <;> rfl
theorem ended_zero (S : Sg) (hc : chkS S = true) (he : S.x.ended = true) : deedK S.x = 0 := by
 obtain ⟨_, hG⟩ := (chkS_iff S).1 hc
 unfold SN.ended at he
 rcases hG with ⟨g, _⟩ | ⟨g, _⟩ | ⟨g, _⟩ | ⟨g, _⟩ <;> simp [g] at he <;> simp [deedK, g]
theorem turn_fits {p : Pln} {S : Sg} {l : List Nat} (hf : fitP p S = 0) (he : S.x.ended = false) (hl : l.length ≤ 16384) : fitP p (deedS S (turnR S l)) = 0 := by
 obtain ⟨h1, h2, h3, h4, h5⟩ := pfits_iff hf
 obtain ⟨v, r0, _⟩ := turn_good S l h2 he hl
 have hs := steps_deed S _ h2 v r0
 have hc := chkS_deed S _ h2 v r0
 unfold fitP
 rw [if_neg (by simpa using h1), hc, if_neg (by decide), hs.2.2.2.2.1, hs.2.1, deed_piv, h3, h4, h5]
 simp
def TuPost (S : Sg) (h : SH) (l : List Nat) (w : World) (e : Ending) (w' : World) : Prop :=
 if S.x.ended then e = .returned (.tuple #[sv S h, .bool true, .bool true]) ∧ Below w.heap.size w w'
 else ∃ h', e = .returned (.tuple #[sv (deedS S (turnR S l)) h', .bool false, .bool true]) ∧ SgO w.heap.size w' (deedS S (turnR S l)) h' ∧ Below w.heap.size w w'
theorem one_boxQ (w : World) (t : TypeId) (Z D : List Value) (hl : D.length = Z.length) : LB ((w.alloc (.cells Z.toArray t)).setCells w.heap.size 0 D) w.heap.size t D ∧ Below w.heap.size w ((w.alloc (.cells Z.toArray t)).setCells w.heap.size 0 D) := one_boxR w t Z D hl
theorem actl_one (K id st tr : Int) (nm : ByteArray) : ∀ v ∈ actl K id st tr nm, v.oneCell' = true := by
 intro v hv
 simp only [actl, List.mem_cons, List.not_mem_nil, or_false] at hv
 rcases hv with rfl | rfl | rfl | rfl | rfl <;> rfl

theorem step_storeQ {P : Program} {ops : Array Oper} {o : Oper} {a : Act} {w : World} {K : Act → World → Prop} {Q : Exit → Act → World → Prop} {E : Prop} (hgd : o.guard = none) (ty : TypeId) (x y : Operand) (ho : o.op = .store ty x y)
  (b f : Nat) (cells : Array Value) (hx : a.eval x = .pointer (some ⟨b, f, none⟩)) (hy : a.eval y = .agg cells) (ht : w.there b f cells.size) (hi : (P.info? ty).map (·.size) = some cells.size) (h1 : cells.all (·.oneCell') = true)
  (h : K (a.put o.dst undef) (w.setCells b f cells.toList)) : if Region.wanted o (yielded ops a.tmps) = true then Oper.wp P o a w K Q else E := by
 rw [if_pos (by simp [Region.wanted, hgd])]
 exact wp_store_mid ty x y ho b f cells hx hy ht hi h1 h
theorem pturn_0 (p : Pln) (v : Value) (S : Sg) (h : SH) (d : Value) (l : List Nat) (w : World) (a : PA w p v S h) (_hT : STabs w) (hb : Bs w d l) (_hlen : l.length ≤ 16384) (hf : fitP p S = 0) (he : S.x.ended = true) : Calls Tryd.prog 8 #[plv p v, sv S h, .agg (anl 1 0 d).toArray] w fun e w' => TuPost S h l w e w' := by
 have hc := (pfits_iff hf).2.1
 have HNX0 : ∀ w', Below w.heap.size w w' → Calls Tryd.prog 6 #[plv p v, sv S h] w' fun e w'' => e = .returned (.tuple #[nextV p S, .int .i64 0]) ∧ Below w'.heap.size w' w'' := fun w' hb => pnext_any p v S h w' (a.kept hb) hf
 have HNU : Hid (∀ w', Calls Tryd.prog 7 #[.int .i64 0] w' fun e w'' => e = .returned (.int .i64 0) ∧ w' = w'') := fun w' => pnum_any 0 w' (by decide) (by decide)
 have HFN0 : ∀ w', Below w.heap.size w w' → Calls Tryd.prog 19 #[sv S h] w' fun e w'' => e = .returned (.bool true) ∧ Below w'.heap.size w' w'' := fun w' hb => by have e := finished_any S h w' (a.kept hb).k (a.kept hb).t a.n; rw [hc, he] at e; exact e
 have HRV0 : ∀ w', Below w.heap.size w w' → TuPost S h l w (.returned (.tuple #[sv S h, .bool true, .bool true])) w' := fun w' hb => by unfold TuPost; rw [if_pos he]; exact ⟨rfl, hb⟩
 obtain ⟨M, hMM⟩ : ∃ M : List Value, M = actl (deedK S.x) S.x.id (if 1 ≤ deedK S.x ∧ deedK S.x ≤ 4 then S.x.turn else 0) (if deedK S.x = 1 ∨ deedK S.x = 3 then S.x.nextTry else if deedK S.x = 2 ∨ deedK S.x = 4 then S.x.tr else 0) (if 1 ≤ deedK S.x ∧ deedK S.x ≤ 4 then nameT p S else ⟨#[]⟩) := ⟨_, rfl⟩
 have hNV : nextV p S = .agg M.toArray := by rw [hMM]; rfl
 rw [hNV] at HNX0
 have HM5 : Hid (M.length = 5 ∧ (Tryd.prog.info? 31).map (·.size) = some M.length ∧ (∀ v ∈ M, v.oneCell' = true)) := by rw [hMM]; exact ⟨rfl, infoAct, actl_one _ _ _ _ _⟩
 have HK0 : Hid (M[0]? = some (.int .i64 (deedK S.x))) := by show _ = _; rw [hMM]; rfl
 rw [ended_zero S hc he] at HK0
 generalize TuPost S h l w = POST at *
 clear hMM hNV a _hT hc hf he _hlen
 obtain ⟨ad, cd, ed, -⟩ := hb.shape
 subst ed
 obtain ⟨Z, hZ⟩ : ∃ Z, Z = zcl := ⟨_, rfl⟩
 have HZ : Hid (Z = zcl) := hZ
 have HZL : Hid (Z.length = 16) := by show _ = _; rw [hZ]; rfl
 clear hZ
 obtain ⟨C, hC, hM, hG⟩ := plv_letter p v
 obtain ⟨D, hD, hL, hE⟩ := sv_letter S h
 rw [hC, hD]
 try rw [hC] at HNX0
 try rw [hD] at HNX0
 try rw [hC] at HFN0
 try rw [hD] at HFN0
 try rw [hC] at HRV0
 try rw [hD] at HRV0
 have HNX : Hid _ := HNX0
 have HFN : Hid _ := HFN0
 have HRV : Hid _ := HRV0
 have HM : Hid _ := hM
 have HG : Hid (C = plvl p v) := hG
 have HL : Hid _ := hL
 have HE : Hid (D = scl S h) := hE
 clear hC hM hG hD hL hE HNX0 HFN0 HRV0
 go_enter Tryd.func8, Tryd.ntmps8
 go_upto_region 1 with (first | (refine wpList_alloc_Z HZ.out rfl rfl ?_) | fail)
 obtain ⟨W, eW⟩ : ∃ W, W = (((w.alloc (.cells C.toArray 24)).alloc (.cells D.toArray 28)).alloc (.cells (anl 1 0 (.slice ad l.length cd)).toArray 39)).alloc (.cells Z.toArray 28) := ⟨_, rfl⟩
 rw [← eW]
 have H0 : Hid (LB W w.heap.size 24 C ∧ LB W (w.heap.size + 1) 28 D ∧ Below w.heap.size w W ∧ LB W (w.heap.size + 1 + 1) 39 (anl 1 0 (.slice ad l.length cd)) ∧ LB W (w.heap.size + 1 + 1 + 1) 28 Z) := by
  obtain ⟨q1, q2, q3, q4⟩ := lb_new3 w C D (anl 1 0 (.slice ad l.length cd)) 24 28 39
  rw [eW]
  exact ⟨q1.kept (up0 _ _), q2.kept (up0 _ _), andThen q4 (up0 _ _), q3.kept (up0 _ _), lb_new4 w C D _ _ _ _ _ _⟩
 clear eW
 generalize hg4 : w.heap.size + 1 + 1 + 1 = g4 at *
 generalize hg3 : w.heap.size + 1 + 1 = g3 at *
 have HG : Hid (w.heap.size ≤ g3 ∧ w.heap.size ≤ g4 ∧ w.heap.size + 1 ≠ g4) := by refine ⟨?_, ?_, ?_⟩ <;> omega
 clear hg3 hg4
 go_wp2_with (first | (refine wpList_load_mid rfl 24 _ rfl w.heap.size 0 rfl C _ H0.out.1.range Tryd.underlying24 rfl HM.out ?_) | (refine wpList_load_mid rfl 28 _ rfl (w.heap.size + 1) 0 rfl D _ H0.out.2.1.range Tryd.underlying28 rfl HL.out ?_) | (refine wpList_load_midG rfl 24 _ rfl w.heap.size 0 rfl C _ H0.out.1.range Tryd.underlying24 rfl HM.out ?_) | (refine wpList_load_midG rfl 28 _ rfl (w.heap.size + 1) 0 rfl D _ H0.out.2.1.range Tryd.underlying28 rfl HL.out ?_) | fail)
 refine (HNX.out _ H0.out.2.2.1).mono ?_
 rintro e w1 ⟨rfl, b1⟩
 have HT9 : Hid ((w1.alloc (.cells #[.int .i64 0, .int .i64 0, .int .i64 0, .int .i64 0, .string ⟨#[]⟩] 31)).there w1.heap.size 0 M.toArray.size) := there_of (lb_new w1 [.int .i64 0, .int .i64 0, .int .i64 0, .int .i64 0, .string ⟨#[]⟩] _) (by simp [HM5.out.1])
 have E9 : Hid (∃ Y, Y = (w1.alloc (.cells #[.int .i64 0, .int .i64 0, .int .i64 0, .int .i64 0, .string ⟨#[]⟩] 31)).setCells w1.heap.size 0 M ∧ (LB Y w.heap.size 24 C ∧ LB Y (w.heap.size + 1) 28 D ∧ Below w.heap.size w Y ∧ LB Y g3 39 (anl 1 0 (.slice ad l.length cd)) ∧ LB Y g4 28 Z) ∧ LB Y w1.heap.size 31 M ∧ w.heap.size ≤ w1.heap.size) := by
  obtain ⟨q1, q2⟩ := one_boxQ w1 31 [.int .i64 0, .int .i64 0, .int .i64 0, .int .i64 0, .string ⟨#[]⟩] M HM5.out.1
  have z := H0.out
  have q3 := andThen b1 q2
  exact ⟨_, rfl, ⟨z.1.kept q3, z.2.1.kept q3, andThen z.2.2.1 q3, z.2.2.2.1.kept q3, z.2.2.2.2.kept q3⟩, q1, (andThen z.2.2.1 b1).size⟩
 clear b1 H0 HNX
 go_wp2_with (first | (refine wpList_store_mid rfl 31 (.tmp 9) (.tmp 21) rfl w1.heap.size 0 M.toArray rfl rfl HT9.out (by simpa using HM5.out.2.1) (all_oneCell_toArray HM5.out.2.2) ?_; (obtain ⟨Y1, hY, hq⟩ := E9.out); (have H1 : Hid _ := hq); (rw [List.toList_toArray, ← hY]); (clear hY hq E9 HT9)) | fail)
 generalize w1.heap.size = g9 at *
 refine (HNU.out _).mono ?_
 rintro e w2 ⟨rfl, rfl⟩
 have k0 := H1.out.2.1.cell 0 _ HK0.out
 have HDO : Hid (∀ v ∈ D, v.oneCell' = true) := by show ∀ v ∈ D, _; rw [HE.out]; exact scl_one _ _
 have HDL : Hid (D.length = Z.length) := by show _ = _; rw [HE.out, HZL.out]; rfl
 go_upto_region 5 with fail
 refine wp_region_held_drew (S := (fun w' => w'.rangeAt (w.heap.size + 1) 0 D)) (by kernel_rfl) ?_ (fun hH => ?_)
 ·exact H1.out.1.2.1.range
 refine zql 0 rfl (yieldsIf_load_mid (by rfl) _ _ rfl _ _ rfl D _ (fun w' hSw => hSw) Tryd.underlying28 rfl HL.out) hH ?_
 simp only [zq]
 refine zql 1 rfl (yieldsIf_load_mid (by rfl) _ _ rfl _ _ rfl D _ (fun w' hSw => hSw) Tryd.underlying28 rfl HL.out) hH ?_
 simp only [zq]
 refine zqr 2 rfl (fun K hK => ?_)
 go_simp
 refine (HFN.out _ H1.out.1.2.2.1.drew).mono ?_
 rintro e w3 ⟨rfl, b3⟩
 have H3 : Hid (LB w3 w.heap.size 24 C ∧ LB w3 (w.heap.size + 1) 28 D ∧ Below w.heap.size w w3 ∧ LB w3 g3 39 (anl 1 0 (.slice ad l.length cd)) ∧ LB w3 g4 28 Z) := by
  have z := H1.out.1
  have z3 : Below w.heap.size w Y1.drew := z.2.2.1.drew
  exact ⟨LB.kept (w := Y1.drew) z.1 b3, LB.kept (w := Y1.drew) z.2.1 b3, andThen z3 b3, LB.kept (w := Y1.drew) z.2.2.2.1 b3, LB.kept (w := Y1.drew) z.2.2.2.2 b3⟩
 clear b3 H1 HFN k0
 refine hK.out _ _ ?_ (fun hH2 => ?_)
 ·exact H3.out.2.1.range
 clear hK K hH
 have hH := hH2
 clear hH2
 have HT3 : Hid (w3.there g4 0 D.toArray.size) := there_of H3.out.2.2.2.2 (by simp [HDL.out])
 have H4 : Hid (∀ Y, Y = w3.setCells g4 0 D → LB Y g4 28 D ∧ Y.rangeAt (w.heap.size + 1) 0 D ∧ POST (.returned (.tuple #[.agg D.toArray, .bool true, .bool true])) Y) := fun Y hY => by
  rw [hY]
  exact ⟨H3.out.2.2.2.2.sets D HDL.out, (H3.out.2.1.others _ _ _ HG.out.2.2).range, HRV.out _ (below_cells HG.out.2.1 _ 0 _ H3.out.2.2.1)⟩
 refine wpAnyH_ready (rs := [3]) (by kernel_rfl) (by simp) ?_
 refine AllReadyH.cons rfl (fun K' hK => ?_) AllReadyH.nil
 refine step_storeQ rfl 28 (.tmp 6) (.tmp 30) rfl g4 0 D.toArray rfl rfl HT3.out (by simpa using HL.out) (all_oneCell_toArray HDO.out) ?_
 rw [List.toList_toArray]
 refine hK.out _ _ ?_ (fun hH2 => ?_)
 ·exact (H4.out _ rfl).2.1
 clear hK K' hH
 have hH := hH2
 clear hH2
 refine zqk 4 rfl hH ?_
 simp only [zq]
 refine zqk 5 rfl hH ?_
 simp only [zq]
 refine wpAnyH_done (by kernel_rfl) ?_ _
 go_wp2_with fail
 refine bodyPost_ret (results_cell_slot2 (p := 6) (s := 7) (s2 := 8) (ty := 28) rfl _ _ g4 D _ rfl (H4.out _ rfl).1.range Tryd.underlying28 rfl HL.out) rfl ?_
 exact (H4.out _ rfl).2.2
theorem pturn_a (p : Pln) (v : Value) (S : Sg) (h : SH) (d : Value) (l : List Nat) (w : World) (a : PA w p v S h) (hT : STabs w) (hb : Bs w d l) (hlen : l.length ≤ 16384) (hf : fitP p S = 0) (he : S.x.ended = false) (hfl : S.x.fl = false) : Calls Tryd.prog 8 #[plv p v, sv S h, .agg (anl 1 0 d).toArray] w fun e w' => TuPost S h l w e w' := by
 have hc := (pfits_iff hf).2.1
 have HNX0 : ∀ w', Below w.heap.size w w' → Calls Tryd.prog 6 #[plv p v, sv S h] w' fun e w'' => e = .returned (.tuple #[nextV p S, .int .i64 0]) ∧ Below w'.heap.size w' w'' := fun w' hb => pnext_any p v S h w' (a.kept hb) hf
 have HNU : Hid (∀ w', Calls Tryd.prog 7 #[.int .i64 0] w' fun e w'' => e = .returned (.int .i64 0) ∧ w' = w'') := fun w' => pnum_any 0 w' (by decide) (by decide)
 obtain ⟨v3, r0, hk1, hlf⟩ := turn_good S l hc he hlen
 have HAP0 : ∀ (dr : Value) w', Bs w' dr (turnR S l).l → Below w.heap.size w w' → Calls Tryd.prog 23 #[sv S h, rv (turnR S l).x (turnR S l).nm dr] w' fun e w'' => ApPost w' (0, deedS S (turnR S l)) e w'' := fun dr w' q hb => by
  have e := apply_any S h (turnR S l) dr w' (a.kept hb).k q (hT.kept hb) a.n (by rw [hlf.2.2.2.2.2.2.2]; decide) (fit_v3 _ v3 (by rw [hlf.2.2.2.2.2.2.1]; exact (id_of S hc).2))
  rw [apply_v3 S (turnR S l) hc v3 hlf.2.2.2.2.2.1 r0] at e
  exact e
 have HRV : Hid (∀ w' h', SgO w.heap.size w' (deedS S (turnR S l)) h' → Below w.heap.size w w' → TuPost S h l w (.returned (.tuple #[sv (deedS S (turnR S l)) h', .bool false, .bool true])) w') := fun w' h' q hb => by unfold TuPost; rw [if_neg (by rw [he]; decide)]; exact ⟨h', rfl, q, hb⟩
 obtain ⟨ZR, hZR⟩ : ∃ ZR, ZR = zrl := ⟨_, rfl⟩
 have HZR : Hid (ZR = zrl) := hZR
 have HZRL : Hid (ZR.length = 12) := by show _ = _; rw [hZR]; rfl
 clear hZR
 obtain ⟨M, hMM⟩ : ∃ M : List Value, M = actl (deedK S.x) S.x.id (if 1 ≤ deedK S.x ∧ deedK S.x ≤ 4 then S.x.turn else 0) (if deedK S.x = 1 ∨ deedK S.x = 3 then S.x.nextTry else if deedK S.x = 2 ∨ deedK S.x = 4 then S.x.tr else 0) (if 1 ≤ deedK S.x ∧ deedK S.x ≤ 4 then nameT p S else ⟨#[]⟩) := ⟨_, rfl⟩
 have hNV : nextV p S = .agg M.toArray := by rw [hMM]; rfl
 rw [hNV] at HNX0
 have HM5 : Hid (M.length = 5 ∧ (Tryd.prog.info? 31).map (·.size) = some M.length ∧ (∀ v ∈ M, v.oneCell' = true)) := by rw [hMM]; exact ⟨rfl, infoAct, actl_one _ _ _ _ _⟩
 have HK0 : Hid (M[0]? = some (.int .i64 (deedK S.x))) := by show _ = _; rw [hMM]; rfl
 have hk24 : ¬(deedK S.x = 2 ∨ deedK S.x = 4) := by
  unfold deedK; rw [hfl]; split <;> (try split) <;> (try split) <;> (try split) <;> simp_all
 have hk0 : deedK S.x ≠ 0 := by omega
 obtain ⟨X, hX⟩ : ∃ X, X = (turnR S l).x := ⟨_, rfl⟩
 have hTR : turnR S l = ⟨X, ⟨#[]⟩, []⟩ := by rw [hX]; unfold turnR; simp only [if_neg hk24]
 have HRE : Hid (∀ w', Calls Tryd.prog 20 #[.agg M.toArray] w' fun e w'' => e = .returned (rv X ⟨#[]⟩ (.slice none 0 0)) ∧ Below w'.heap.size w' w'') := fun w' => by
  rw [hX, hMM]; unfold turnR; simp only [if_neg hk24]; exact precord_any _ _ _ _ _ w'
 have HAP1 : ∀ w', Below w.heap.size w w' → Calls Tryd.prog 23 #[sv S h, rv X ⟨#[]⟩ (.slice none 0 0)] w' fun e w'' => ApPost w' (0, deedS S (turnR S l)) e w'' := fun w' hb => by
  have e := HAP0 (.slice none 0 0) w' (by rw [hTR]; exact Bs.nil w') hb
  rw [show (turnR S l).x = X from hX.symm, show (turnR S l).nm = ⟨#[]⟩ from hlf.2.2.2.2.2.2.2] at e
  exact e
 have e0 : (deedK S.x == 0) = false := by rw [beq_eq_false_iff_ne]; exact hk0
 have e2 : (deedK S.x == 2) = false := by rw [beq_eq_false_iff_ne]; omega
 have e4 : (deedK S.x == 4) = false := by rw [beq_eq_false_iff_ne]; omega
 generalize TuPost S h l w = POST at *
 generalize deedK S.x = KD at *
 clear hMM hNV a hT hc hf he hlen hfl v3 r0 hlf HAP0 hX hTR hk24 hk0
 obtain ⟨ad, cd, ed, -⟩ := hb.shape
 subst ed
 obtain ⟨Z, hZ⟩ : ∃ Z, Z = zcl := ⟨_, rfl⟩
 have HZ : Hid (Z = zcl) := hZ
 have HZL : Hid (Z.length = 16) := by show _ = _; rw [hZ]; rfl
 clear hZ
 obtain ⟨C, hC, hM, hG⟩ := plv_letter p v
 obtain ⟨D, hD, hL, hE⟩ := sv_letter S h
 rw [hC, hD]
 try rw [hC] at HNX0
 try rw [hD] at HNX0
 try rw [hC] at HAP1
 try rw [hD] at HAP1
 have HNX : Hid _ := HNX0
 have HAP : Hid _ := HAP1
 have HM : Hid _ := hM
 have HG : Hid (C = plvl p v) := hG
 have HL : Hid _ := hL
 have HE : Hid (D = scl S h) := hE
 clear hC hM hG hD hL hE HNX0 HAP1
 go_enter Tryd.func8, Tryd.ntmps8
 go_upto_region 1 with (first | (refine wpList_alloc_Z HZ.out rfl rfl ?_) | fail)
 obtain ⟨W, eW⟩ : ∃ W, W = (((w.alloc (.cells C.toArray 24)).alloc (.cells D.toArray 28)).alloc (.cells (anl 1 0 (.slice ad l.length cd)).toArray 39)).alloc (.cells Z.toArray 28) := ⟨_, rfl⟩
 rw [← eW]
 have H0 : Hid (LB W w.heap.size 24 C ∧ LB W (w.heap.size + 1) 28 D ∧ Below w.heap.size w W ∧ LB W (w.heap.size + 1 + 1) 39 (anl 1 0 (.slice ad l.length cd)) ∧ LB W (w.heap.size + 1 + 1 + 1) 28 Z) := by
  obtain ⟨q1, q2, q3, q4⟩ := lb_new3 w C D (anl 1 0 (.slice ad l.length cd)) 24 28 39
  rw [eW]
  exact ⟨q1.kept (up0 _ _), q2.kept (up0 _ _), andThen q4 (up0 _ _), q3.kept (up0 _ _), lb_new4 w C D _ _ _ _ _ _⟩
 clear eW
 generalize hg4 : w.heap.size + 1 + 1 + 1 = g4 at *
 generalize hg3 : w.heap.size + 1 + 1 = g3 at *
 have HG : Hid (w.heap.size ≤ g3 ∧ w.heap.size ≤ g4 ∧ w.heap.size + 1 ≠ g4) := by refine ⟨?_, ?_, ?_⟩ <;> omega
 clear hg3 hg4
 go_wp2_with (first | (refine wpList_load_mid rfl 24 _ rfl w.heap.size 0 rfl C _ H0.out.1.range Tryd.underlying24 rfl HM.out ?_) | (refine wpList_load_mid rfl 28 _ rfl (w.heap.size + 1) 0 rfl D _ H0.out.2.1.range Tryd.underlying28 rfl HL.out ?_) | (refine wpList_load_midG rfl 24 _ rfl w.heap.size 0 rfl C _ H0.out.1.range Tryd.underlying24 rfl HM.out ?_) | (refine wpList_load_midG rfl 28 _ rfl (w.heap.size + 1) 0 rfl D _ H0.out.2.1.range Tryd.underlying28 rfl HL.out ?_) | fail)
 refine (HNX.out _ H0.out.2.2.1).mono ?_
 rintro e w1 ⟨rfl, b1⟩
 have HT9 : Hid ((w1.alloc (.cells #[.int .i64 0, .int .i64 0, .int .i64 0, .int .i64 0, .string ⟨#[]⟩] 31)).there w1.heap.size 0 M.toArray.size) := there_of (lb_new w1 [.int .i64 0, .int .i64 0, .int .i64 0, .int .i64 0, .string ⟨#[]⟩] _) (by simp [HM5.out.1])
 have E9 : Hid (∃ Y, Y = (w1.alloc (.cells #[.int .i64 0, .int .i64 0, .int .i64 0, .int .i64 0, .string ⟨#[]⟩] 31)).setCells w1.heap.size 0 M ∧ (LB Y w.heap.size 24 C ∧ LB Y (w.heap.size + 1) 28 D ∧ Below w.heap.size w Y ∧ LB Y g3 39 (anl 1 0 (.slice ad l.length cd)) ∧ LB Y g4 28 Z) ∧ LB Y w1.heap.size 31 M ∧ w.heap.size ≤ w1.heap.size) := by
  obtain ⟨q1, q2⟩ := one_boxQ w1 31 [.int .i64 0, .int .i64 0, .int .i64 0, .int .i64 0, .string ⟨#[]⟩] M HM5.out.1
  have z := H0.out
  have q3 := andThen b1 q2
  exact ⟨_, rfl, ⟨z.1.kept q3, z.2.1.kept q3, andThen z.2.2.1 q3, z.2.2.2.1.kept q3, z.2.2.2.2.kept q3⟩, q1, (andThen z.2.2.1 b1).size⟩
 clear b1 H0 HNX
 go_wp2_with (first | (refine wpList_store_mid rfl 31 (.tmp 9) (.tmp 21) rfl w1.heap.size 0 M.toArray rfl rfl HT9.out (by simpa using HM5.out.2.1) (all_oneCell_toArray HM5.out.2.2) ?_; (obtain ⟨Y1, hY, hq⟩ := E9.out); (have H1 : Hid _ := hq); (rw [List.toList_toArray, ← hY]); (clear hY hq E9 HT9)) | fail)
 generalize w1.heap.size = g9 at *
 refine (HNU.out _).mono ?_
 rintro e w2 ⟨rfl, rfl⟩
 have k0 := H1.out.2.1.cell 0 _ HK0.out
 go_wp2_with (first | (refine wpList_load_mid rfl 31 _ rfl g9 0 rfl M _ H1.out.2.1.range Tryd.underlying31 rfl HM5.out.2.1 ?_) | fail)
 refine (HRE.out _).mono ?_
 rintro e w4 ⟨rfl, b4⟩
 have HN9 : Hid (w.heap.size ≤ g9) := H1.out.2.2
 obtain ⟨D4, hD, hL, hE⟩ := rv_letter X ⟨#[]⟩ (.slice none 0 0)
 rw [hD]
 have HD4 : Hid (rv X ⟨#[]⟩ (.slice none 0 0) = .agg D4.toArray) := hD
 have HDL4 : Hid _ := hL
 have HDO4 : Hid (∀ v ∈ D4, v.oneCell' = true) := by show ∀ v ∈ D4, _; rw [hE]; exact rcE_one _ _ _ rfl
 have HDZ4 : Hid (D4.length = ZR.length) := by show _ = _; rw [hE, HZRL.out]; rfl
 have HT4 : Hid ((w4.alloc (.cells ZR.toArray 50)).there w4.heap.size 0 D4.toArray.size) := there_of (lb_new w4 ZR _) (by simpa using HDZ4.out)
 have EE4 : Hid (∃ Y, Y = (w4.alloc (.cells ZR.toArray 50)).setCells w4.heap.size 0 D4 ∧ (LB Y w.heap.size 24 C ∧ LB Y (w.heap.size + 1) 28 D ∧ Below w.heap.size w Y ∧ LB Y g3 39 (anl 1 0 (.slice ad l.length cd)) ∧ LB Y g4 28 Z) ∧ LB Y w4.heap.size 50 D4 ∧ LB Y g9 31 M) := by
  obtain ⟨q1, q2⟩ := one_boxQ w4 50 ZR D4 HDZ4.out
  exact ⟨_, rfl, by have z := H1.out.1; have q3 := andThen b4 q2; exact ⟨z.1.kept q3, z.2.1.kept q3, andThen z.2.2.1 q3, z.2.2.2.1.kept q3, z.2.2.2.2.kept q3⟩, q1, (H1.out.2.1.kept b4).kept q2⟩
 clear hD hL hE b4 H1 HRE k0
 go_wp2_with (first | (refine wpList_alloc_R HZR.out rfl rfl ?_) | (refine wpList_store_mid rfl 50 (.tmp 11) (.tmp 34) rfl w4.heap.size 0 D4.toArray rfl rfl HT4.out (by simpa using HDL4.out) (all_oneCell_toArray HDO4.out) ?_; (obtain ⟨Y4, hY, hq⟩ := EE4.out); (have H4 : Hid _ := hq); (rw [List.toList_toArray, ← hY]); (have k0 := hq.2.2.cell 0 _ HK0.out); (clear hY hq EE4 HT4)) | (refine wpList_load_mid rfl 28 _ rfl (w.heap.size + 1) 0 rfl D _ H4.out.1.2.1.range Tryd.underlying28 rfl HL.out ?_) | (refine wpList_load_mid rfl 50 _ rfl w4.heap.size 0 rfl D4 _ H4.out.2.1.range Tryd.underlying50 rfl HDL4.out ?_) | fail)
 generalize w4.heap.size = q4g at *
 rw [HD4.out] at HAP
 clear k0
 refine (HAP.out _ H4.out.1.2.2.1).mono ?_
 rintro e w5 ⟨h', rfl, o5, b5⟩
 obtain ⟨D5, hD, hL, hE⟩ := sv_letter (deedS S (turnR S l)) h'
 rw [hD]
 have HD5 : Hid (sv (deedS S (turnR S l)) h' = .agg D5.toArray) := hD
 have HDL5 : Hid _ := hL
 have HDO5 : Hid (∀ v ∈ D5, v.oneCell' = true) := by show ∀ v ∈ D5, _; rw [hE]; exact scl_one _ _
 have HDZ5 : Hid (D5.length = Z.length) := by show _ = _; rw [hE, HZL.out]; rfl
 have HT5 : Hid ((w5.alloc (.cells Z.toArray 28)).there w5.heap.size 0 D5.toArray.size) := there_of (lb_new w5 Z _) (by simpa using HDZ5.out)
 have EE5 : Hid (∃ Y, Y = (w5.alloc (.cells Z.toArray 28)).setCells w5.heap.size 0 D5 ∧ (LB Y w.heap.size 24 C ∧ LB Y (w.heap.size + 1) 28 D ∧ Below w.heap.size w Y ∧ LB Y g3 39 (anl 1 0 (.slice ad l.length cd)) ∧ LB Y g4 28 Z) ∧ LB Y w5.heap.size 28 D5 ∧ SgO w.heap.size Y (deedS S (turnR S l)) h' ∧ w5.heap.size ≠ g4) := by
  obtain ⟨q1, q2⟩ := one_boxQ w5 28 Z D5 HDZ5.out
  exact ⟨_, rfl, by have z := H4.out.1; have q3 := andThen b5 q2; exact ⟨z.1.kept q3, z.2.1.kept q3, andThen z.2.2.1 q3, z.2.2.2.1.kept q3, z.2.2.2.2.kept q3⟩, q1, (o5.weak H4.out.1.2.2.1.size).kept q2, by have e9 := (LB.kept H4.out.1.2.2.2.2 b5).lt; omega⟩
 clear hD hL hE o5 b5 H4
 go_wp2_with (first | (refine wpList_alloc_Z HZ.out rfl rfl ?_) | (refine wpList_store_mid rfl 28 (.tmp 15) (.tmp 108) rfl w5.heap.size 0 D5.toArray rfl rfl HT5.out (by simpa using HDL5.out) (all_oneCell_toArray HDO5.out) ?_; (obtain ⟨Y5, hY, hq⟩ := EE5.out); (have H5 : Hid _ := hq); (rw [List.toList_toArray, ← hY]); (clear hY hq EE5 HT5)) | fail)
 generalize w5.heap.size = q5g at *
 go_upto_region 18 with fail
 refine wp_region_held_drew (S := (fun w' => w'.rangeAt q5g 0 D5)) (by kernel_rfl) ?_ (fun hH => ?_)
 ·exact H5.out.2.1.range
 refine zql 0 rfl (yieldsIf_load_mid (by rfl) _ _ rfl _ _ rfl D5 _ (fun w' hSw => hSw) Tryd.underlying28 rfl HDL5.out) hH ?_
 simp only [zq]
 refine zqk 1 rfl hH ?_
 simp only [zq]
 refine zqr 2 rfl (fun K hK => ?_)
 go_simp
 refine (HNU.out _).mono ?_
 rintro e w6 ⟨rfl, hw6⟩
 subst hw6
 refine hK.out _ _ ?_ (fun hH2 => ?_)
 ·exact H5.out.2.1.range
 clear hK K hH
 have hH := hH2
 clear hH2
 refine zqk 3 rfl hH ?_
 simp only [zq]
 have HT6 : Hid (Y5.drew.there g4 0 D5.toArray.size) := there_of (w := Y5.drew) H5.out.1.2.2.2.2 (by simp [HDZ5.out])
 have H6 : Hid (∀ Y, Y = Y5.drew.setCells g4 0 D5 → LB Y g4 28 D5 ∧ POST (.returned (.tuple #[.agg D5.toArray, .bool false, .bool true])) Y) := fun Y hY => by
  have z : LB Y5.drew g4 28 Z := H5.out.1.2.2.2.2
  have zo : SgO w.heap.size Y5.drew (deedS S (turnR S l)) h' := H5.out.2.2.1.kept (Below.drew (Below.refl _ _))
  rw [hY, ← HD5.out]
  exact ⟨z.sets D5 HDZ5.out, HRV.out _ _ (zo.oth z (by decide) (by decide) (Oth.sets _ _ _ _)) (below_cells HG.out.2.1 _ 0 _ H5.out.1.2.2.1.drew)⟩
 refine wpAnyH_ready (rs := [4]) (by kernel_rfl) (by simp) ?_
 refine AllReadyH.cons rfl (fun K' hK => ?_) AllReadyH.nil
 refine step_storeQ rfl 28 (.tmp 6) (.tmp 110) rfl g4 0 D5.toArray rfl rfl HT6.out (by simpa using HDL5.out) (all_oneCell_toArray HDO5.out) ?_
 rw [List.toList_toArray]
 refine hK.out _ _ ?_ (fun hH2 => ?_)
 ·exact (LB.others (w := Y5.drew) H5.out.2.1 _ _ _ H5.out.2.2.2).range
 clear hK K' hH
 have hH := hH2
 clear hH2
 refine zqk 5 rfl hH ?_
 simp only [zq]
 refine zqk 6 rfl hH ?_
 simp only [zq]
 refine wpAnyH_done (by kernel_rfl) ?_ _
 go_wp2_with fail
 refine bodyPost_ret (results_cell_slot2 (p := 6) (s := 7) (s2 := 8) (ty := 28) rfl _ _ g4 D5 _ rfl (H6.out _ rfl).1.range Tryd.underlying28 rfl HDL5.out) rfl ?_
 exact (H6.out _ rfl).2
end Go.Proofs.YtodcakplmoajiaaDoor
