import Derived.Test.YtodcakplmoajiaaDoorGPE
set_option maxRecDepth 100000
set_option maxHeartbeats 8000000
namespace Go.Proofs.YtodcakplmoajiaaDoor
open Go Go.RowKit
open Wb

def stp1 : Stp := ⟨⟨#[98]⟩, ⟨#[99]⟩, 1⟩
def pln1 : Pln := ⟨⟨#[97]⟩, 0, [stp1]⟩
theorem sts_of {w : World} {g : Nat} (h : LB w g 75 (stl stp1)) : StsAt w (.slice (some ⟨g, 0, none⟩) 1 1) pln1.ss := by
 refine ⟨_, _, rfl, Nat.le_refl _, by simp [maxLen], fun k s hs => ?_⟩
 match k, hs with
 | 0, hs =>
  obtain rfl : stp1 = s := by simpa [pln1] using hs
  exact ⟨_, _, rfl, h.range⟩
 | k + 1, hs => simp [pln1] at hs
theorem pone_any (w : World) : Calls Tryd.prog 15 #[] w fun e w' => ∃ g, e = .returned (plv pln1 (.slice (some ⟨g, 0, none⟩) 1 1)) ∧ LB w' g 75 (stl stp1) ∧ Below w.heap.size w w' := by
 have HX : Hid (∀ W, W = (((w.alloc (.cells #[.string ⟨#[]⟩, .int .i64 0, .slice none 0 0] 24)).alloc (.cells #[.string ⟨#[98]⟩, .string ⟨#[99]⟩, .int .i64 1] 75))) → LB W (w.heap.size + 1) 75 (stl stp1) ∧ Below w.heap.size w W) := fun W hW => by
  rw [hW]
  obtain ⟨q1, q2, q3⟩ := lb_new2 w [.string ⟨#[]⟩, .int .i64 0, .slice none 0 0] (stl stp1) 24 75
  exact ⟨q2, q3⟩
 go_enter Tryd.func15, Tryd.ntmps15
 go_wp2
 obtain ⟨X, eX⟩ : ∃ X, X = (w.alloc (.cells #[.string ⟨#[97]⟩, .int .i64 0, .slice (some ⟨w.heap.size + 1, 0, none⟩) 1 1] 24)).alloc (.cells #[.string ⟨#[98]⟩, .string ⟨#[99]⟩, .int .i64 1] 75) := ⟨_, rfl⟩
 have H1 : Hid (LB X w.heap.size 24 (plvl pln1 (.slice (some ⟨w.heap.size + 1, 0, none⟩) 1 1)) ∧ LB X (w.heap.size + 1) 75 (stl stp1) ∧ Below w.heap.size w X) := by
  rw [eX]
  exact lb_new2 w (plvl pln1 (.slice (some ⟨w.heap.size + 1, 0, none⟩) 1 1)) (stl stp1) 24 75
 rw [← eX]
 clear eX HX
 refine bodyPost_ret (results_cell_mid rfl _ X w.heap.size (plvl pln1 (.slice (some ⟨w.heap.size + 1, 0, none⟩) 1 1)) _ rfl H1.out.1.range Tryd.underlying24 rfl infoPlan) rfl ?_
 exact ⟨w.heap.size + 1, rfl, H1.out.2.1, H1.out.2.2⟩
def begR (p : Pln) (id : Int) (l : List Nat) : Rec := ⟨⟨3, 1, id, 0, 0, 0, 0, 0, (p.ss.length : Int), p.piv⟩, p.nm, l⟩

theorem pbegun_any (p : Pln) (v : Value) (id : Int) (d : Value) (l : List Nat) (w : World) (hs : StsAt w v p.ss) (hT : STabs w) (hb : Bs w d l) (hn : p.nm.size ≤ 140737488355000) (hf : (begR p id l).x.fit) (hz : (beginP (begR p id l)).1 = 0) : Calls Tryd.prog 10 #[plv p v, .int .i64 id, d] w fun e w' => ∃ h', e = .returned (.tuple #[sv (beginP (begR p id l)).2 h', .bool true]) ∧ SgO w.heap.size w' (beginP (begR p id l)).2 h' ∧ Below w.heap.size w w' := by
 have HBE : Hid (∀ w', Below w.heap.size w w' → Calls Tryd.prog 25 #[rv (begR p id l).x p.nm d] w' fun e w'' => ∃ h', e = .returned (.tuple #[sv (beginP (begR p id l)).2 h', .int .i64 0]) ∧ SgO w'.heap.size w'' (beginP (begR p id l)).2 h' ∧ Below w'.heap.size w' w'') := fun w' hb' => (begin_any (begR p id l) d w' (hb.kept hb') (hT.kept hb').e hn hf).mono fun e w'' ⟨h', e1, e2, e3⟩ => ⟨h', by rw [e1, hz], e2, e3⟩
 have HNU : Hid (∀ w', Calls Tryd.prog 7 #[.int .i64 0] w' fun e w'' => e = .returned (.int .i64 0) ∧ w' = w'') := fun w' => pnum_any 0 w' (by decide) (by decide)
 generalize (beginP (begR p id l)).2 = B at *
 obtain ⟨ao, cap, rfl, -⟩ := hs
 obtain ⟨ad, cd, ed, -⟩ := hb.shape
 subst ed
 have hRV : rv (begR p id l).x p.nm (.slice ad l.length cd) = .agg #[.int .i64 3, .int .i64 1, .int .i64 id, .int .i64 0, .int .i64 0, .int .i64 0, .int .i64 0, .int .i64 0, .int .i64 (p.ss.length : Int), .int .i64 p.piv, .string p.nm, .slice ad l.length cd] := rfl
 rw [hRV] at HBE
 obtain ⟨Z, hZ⟩ : ∃ Z, Z = zcl := ⟨_, rfl⟩
 have HZ : Hid (Z = zcl) := hZ
 have HZL : Hid (Z.length = 16) := by show _ = _; rw [hZ]; rfl
 clear hZ hRV hz hf hT hb hn
 obtain ⟨C, hC, hM, hG⟩ := plv_letter p (.slice ao p.ss.length cap)
 rw [hC]
 have HX : Hid (∀ W, W = (w.alloc (.cells C.toArray 24)).alloc (.cells Z.toArray 28) → LB W w.heap.size 24 C ∧ LB W (w.heap.size + 1) 28 Z ∧ Below w.heap.size w W) := fun W hW => by rw [hW]; exact lb_new2 w C Z 24 28
 have HG : Hid (C = plvl p (.slice ao p.ss.length cap)) := hG
 clear hC hM hG
 go_enter Tryd.func10, Tryd.ntmps10
 go_upto_region 1 with (first | (refine wpList_alloc_Z HZ.out rfl rfl ?_) | fail)
 obtain ⟨W, eW⟩ : ∃ W, W = (w.alloc (.cells C.toArray 24)).alloc (.cells Z.toArray 28) := ⟨_, rfl⟩
 rw [← eW]
 have H0 : Hid (LB W w.heap.size 24 C ∧ LB W (w.heap.size + 1) 28 Z ∧ Below w.heap.size w W) := HX.out W eW
 clear eW HX
 have p0 := H0.out.1.cell 0 (.string p.nm) (by rw [HG.out]; rfl)
 have p1 := H0.out.1.cell 1 (.int .i64 p.piv) (by rw [HG.out]; rfl)
 have p2 := H0.out.1.cell 2 (.slice ao p.ss.length cap) (by rw [HG.out]; rfl)
 generalize hg4 : w.heap.size + 1 = g4 at *
 have HGE : Hid (w.heap.size ≤ g4) := by show _ ≤ _; omega
 clear hg4
 go_upto_region 2 with fail
 obtain ⟨X, eX⟩ : ∃ X, X = W.alloc (.cells #[.int .i64 3, .int .i64 1, .int .i64 id, .int .i64 0, .int .i64 0, .int .i64 0, .int .i64 0, .int .i64 0, .int .i64 (p.ss.length : Int), .int .i64 p.piv, .string p.nm, .slice ad l.length cd] 50) := ⟨_, rfl⟩
 have H1 : Hid (LB X g4 28 Z ∧ Below w.heap.size w X ∧ LB X W.heap.size 50 [.int .i64 3, .int .i64 1, .int .i64 id, .int .i64 0, .int .i64 0, .int .i64 0, .int .i64 0, .int .i64 0, .int .i64 (p.ss.length : Int), .int .i64 p.piv, .string p.nm, .slice ad l.length cd]) := by
  rw [eX]
  exact ⟨H0.out.2.1.kept (up0 _ _), andThen H0.out.2.2 (up0 _ _), lb_new W _ _⟩
 rw [← eX]
 clear eX H0 p0 p1 p2
 generalize W.heap.size = gr at *
 have HRI : Hid ((Tryd.prog.info? 50).map (·.size) = some ([.int .i64 3, .int .i64 1, .int .i64 id, .int .i64 0, .int .i64 0, .int .i64 0, .int .i64 0, .int .i64 0, .int .i64 (p.ss.length : Int), .int .i64 p.piv, .string p.nm, .slice ad l.length cd] : List Value).length) := infoRec
 go_wp2_with (first | (refine wpList_load_mid rfl 50 _ rfl gr 0 rfl [.int .i64 3, .int .i64 1, .int .i64 id, .int .i64 0, .int .i64 0, .int .i64 0, .int .i64 0, .int .i64 0, .int .i64 (p.ss.length : Int), .int .i64 p.piv, .string p.nm, .slice ad l.length cd] _ H1.out.2.2.range Tryd.underlying50 rfl HRI.out ?_) | fail)
 refine (HBE.out _ H1.out.2.1).mono ?_
 rintro e w5 ⟨h', rfl, o5, b5⟩
 obtain ⟨D5, hD, hL, hE⟩ := sv_letter B h'
 rw [hD]
 have HD5 : Hid (sv B h' = .agg D5.toArray) := hD
 have HDL5 : Hid _ := hL
 have HDO5 : Hid (∀ v ∈ D5, v.oneCell' = true) := by show ∀ v ∈ D5, _; rw [hE]; exact scl_one _ _
 have HDZ5 : Hid (D5.length = Z.length) := by show _ = _; rw [hE, HZL.out]; rfl
 have HT5 : Hid ((w5.alloc (.cells Z.toArray 28)).there w5.heap.size 0 D5.toArray.size) := there_of (lb_new w5 Z _) (by simpa using HDZ5.out)
 have EE5 : Hid (∃ Y, Y = (w5.alloc (.cells Z.toArray 28)).setCells w5.heap.size 0 D5 ∧ LB Y g4 28 Z ∧ Below w.heap.size w Y ∧ LB Y w5.heap.size 28 D5 ∧ SgO w.heap.size Y B h' ∧ w5.heap.size ≠ g4) := by
  obtain ⟨q1, q2⟩ := one_boxQ w5 28 Z D5 HDZ5.out
  have zl := H1.out.1.kept b5
  exact ⟨_, rfl, zl.kept q2, andThen (andThen H1.out.2.1 b5) q2, q1, (o5.weak H1.out.2.1.size).kept q2, by have e9 := zl.lt; omega⟩
 clear hD hL hE o5 b5 H1 HBE
 go_wp2_with (first | (refine wpList_alloc_Z HZ.out rfl rfl ?_) | (refine wpList_store_mid rfl 28 (.tmp 9) (.tmp 24) rfl w5.heap.size 0 D5.toArray rfl rfl HT5.out (by simpa using HDL5.out) (all_oneCell_toArray HDO5.out) ?_; (obtain ⟨Y5, hY, hq⟩ := EE5.out); (have H5 : Hid _ := hq); (rw [List.toList_toArray, ← hY]); (clear hY hq EE5 HT5)) | fail)
 generalize w5.heap.size = q5g at *
 go_upto_region 3 with fail
 refine wp_region_held_drew (S := (fun w' => w'.rangeAt q5g 0 D5)) (by kernel_rfl) ?_ (fun hH => ?_)
 ·exact H5.out.2.2.1.range
 refine zql 0 rfl (yieldsIf_load_mid (by rfl) _ _ rfl _ _ rfl D5 _ (fun w' hSw => hSw) Tryd.underlying28 rfl HDL5.out) hH ?_
 simp only [zq]
 refine zqk 1 rfl hH ?_
 simp only [zq]
 refine zqr 2 rfl (fun K hK => ?_)
 go_simp
 refine (HNU.out _).mono ?_
 rintro e w6 ⟨rfl, hw6⟩
 subst hw6
 refine hK.out _ _ ?_ (fun hH2 => ?_)
 ·exact H5.out.2.2.1.range
 clear hK K hH
 have hH := hH2
 clear hH2
 refine zqk 3 rfl hH ?_
 simp only [zq]
 have HT6 : Hid (Y5.drew.there g4 0 D5.toArray.size) := there_of (w := Y5.drew) H5.out.1 (by simp [HDZ5.out])
 have H6 : Hid (∀ Y, Y = Y5.drew.setCells g4 0 D5 → LB Y g4 28 D5 ∧ SgO w.heap.size Y B h' ∧ Below w.heap.size w Y) := fun Y hY => by
  have z : LB Y5.drew g4 28 Z := H5.out.1
  have zo : SgO w.heap.size Y5.drew B h' := H5.out.2.2.2.1.kept (Below.drew (Below.refl _ _))
  rw [hY]
  exact ⟨z.sets D5 HDZ5.out, zo.oth z (by decide) (by decide) (Oth.sets _ _ _ _), below_cells HGE.out _ 0 _ H5.out.2.1.drew⟩
 refine wpAnyH_ready (rs := [4]) (by kernel_rfl) (by simp) ?_
 refine AllReadyH.cons rfl (fun K' hK => ?_) AllReadyH.nil
 refine step_storeQ rfl 28 (.tmp 6) (.tmp 26) rfl g4 0 D5.toArray rfl rfl HT6.out (by simpa using HDL5.out) (all_oneCell_toArray HDO5.out) ?_
 rw [List.toList_toArray]
 refine hK.out _ _ ?_ (fun hH2 => ?_)
 ·exact (LB.others (w := Y5.drew) H5.out.2.2.1 _ _ _ H5.out.2.2.2.2).range
 clear hK K' hH
 have hH := hH2
 clear hH2
 refine zqk 5 rfl hH ?_
 simp only [zq]
 refine wpAnyH_done (by kernel_rfl) ?_ _
 go_wp2_with fail
 refine bodyPost_ret (results_cell_slot (p := 6) (s := 7) (ty := 28) rfl _ _ g4 D5 _ rfl (H6.out _ rfl).1.range Tryd.underlying28 rfl HDL5.out) rfl ?_
 exact ⟨h', by rw [HD5.out]; rfl, (H6.out _ rfl).2.1, (H6.out _ rfl).2.2⟩
theorem pturn_any (p : Pln) (v : Value) (S : Sg) (h : SH) (d : Value) (l : List Nat) (w : World) (a : PA w p v S h) (hT : STabs w) (hb : Bs w d l) (hlen : l.length ≤ 16384) (hf : fitP p S = 0) : Calls Tryd.prog 8 #[plv p v, sv S h, .agg (anl 1 0 d).toArray] w fun e w' => TuPost S h l w e w' := by
 cases he : S.x.ended with
 | true => exact pturn_0 p v S h d l w a hT hb hlen hf he
 | false =>
  cases hl : S.x.fl with
  | false => exact pturn_a p v S h d l w a hT hb hlen hf he hl
  | true =>
   rcases flight_deed (pfits_iff hf).2.1 hl with ⟨_, e⟩ | ⟨_, e⟩
   ·exact pturn_b2 p v S h d l w a hT hb hlen hf he hl e
   ·exact pturn_b4 p v S h d l w a hT hb hlen hf he hl e
theorem bytes_toListQ {a b : ByteArray} (h : a.toList = b.toList) : a = b := by
 rw [ByteArray.toList_eq, ByteArray.toList_eq] at h
 exact ByteArray.ext (Array.toList_inj.1 h)
theorem tu_cases {T : Sg} {h' : SH} {l : List Nat} {wr w5 : World} {e : Ending} (q : TuPost T h' l wr e w5) : ∃ T2 h2 b2, e = .returned (.tuple #[sv T2 h2, .bool b2, .bool true]) ∧ Below wr.heap.size wr w5 ∧ ((T.x.ended = true ∧ T2 = T ∧ h2 = h' ∧ b2 = true) ∨ (T.x.ended = false ∧ T2 = deedS T (turnR T l) ∧ b2 = false ∧ SgO wr.heap.size w5 T2 h2)) := by
 unfold TuPost at q
 split at q
 ·rename_i he
  exact ⟨T, h', true, q.1, q.2, .inl ⟨he, rfl, rfl, rfl⟩⟩
 ·rename_i he
  obtain ⟨h2, e1, e2, e3⟩ := q
  exact ⟨_, h2, false, e1, e3, .inr ⟨by simpa using he, rfl, rfl, e2⟩⟩
theorem stepErr_bound (p : Pln) (i : Nat) (s : Stp) : 0 ≤ stepErr p i s ∧ stepErr p i s ≤ 1000 := by
 unfold stepErr
 repeat' split
 all_goals decide
theorem firstErr_bound (p : Pln) : ∀ (i : Nat) (ss : List Stp), 0 ≤ (firstErr p i ss).1 ∧ (firstErr p i ss).1 ≤ 1000
 | _, [] => ⟨by simp [firstErr], by simp [firstErr]⟩
 | i, s :: r => by
  unfold firstErr
  split
  ·exact stepErr_bound p i s
  ·exact firstErr_bound p (i + 1) r
theorem fit_bound (p : Pln) (S : Sg) : 0 ≤ fitP p S ∧ fitP p S ≤ 1000 := by
 have hE : 0 ≤ (fErr p).1 ∧ (fErr p).1 ≤ 1000 := by
  unfold fErr
  repeat' split
  all_goals first | decide | exact firstErr_bound p 0 p.ss
 unfold fitP
 repeat' split
 all_goals first | decide | exact hE
structure GoI (w : World) (p : Pln) (S : Sg) (h : SH) (wr : World) (k : Nat) (b : Bool) (T : Sg) (h' : SH) : Prop where
 bx : LB wr (w.heap.size + 1) 28 (scl T h')
 bel : Below w.heap.size w wr
 ks : (T = S ∧ h' = h) ∨ SgO w.heap.size wr T h'
 fit : fitP p T = 0
 cnt : T.x.cnt = S.x.cnt
 dir : (T.x.ph == 2 || T.x.ph == 4) = (S.x.ph == 2 || S.x.ph == 4)
 fin : b = true → T.x.ended = true
 go : b = false → k + (if T.x.ended then 0 else left T) ≤ 2 * S.x.cnt.toNat + 1
 few : k ≤ 2 * S.x.cnt.toNat + 2
theorem GoI.at {w wr : World} {p : Pln} {S T : Sg} {h h' : SH} {k : Nat} {b : Bool} (q : GoI w p S h wr k b T h') (a : SgAt w S h) : SgAt wr T h' := by
 rcases q.ks with ⟨rfl, rfl⟩ | o
 ·exact a.kept q.bel
 ·exact o.at
theorem GoI.next {w wr w2 Y : World} {p : Pln} {S T T2 : Sg} {h h' h2 : SH} {k : Nat} {l : List Nat} {b2 : Bool} (q : GoI w p S h wr k false T h') (hl : l.length ≤ 16384) (hb : Below wr.heap.size wr w2)
  (hT : (T.x.ended = true ∧ T2 = T ∧ h2 = h' ∧ b2 = true) ∨ (T.x.ended = false ∧ T2 = deedS T (turnR T l) ∧ b2 = false ∧ SgO wr.heap.size w2 T2 h2)) (hY : Y = w2.setCells (w.heap.size + 1) 0 (scl T2 h2)) : GoI w p S h Y (k + 1) b2 T2 h2 := by
 have z := q.bx.kept hb
 have bx2 : LB Y (w.heap.size + 1) 28 (scl T2 h2) := by rw [hY]; exact z.sets _ rfl
 have bel2 : Below w.heap.size w Y := by rw [hY]; exact below_cells (by omega) _ 0 _ (andThen q.bel hb)
 have hgo := q.go rfl
 rcases hT with ⟨he, rfl, rfl, rfl⟩ | ⟨he, rfl, rfl, ho⟩
 ·refine ⟨bx2, bel2, ?_, q.fit, q.cnt, q.dir, fun _ => he, (fun e => by cases e), by rw [he] at hgo; simp at hgo; omega⟩
  rcases q.ks with q1 | q1
  ·exact .inl q1
  ·exact .inr (by rw [hY]; exact (q1.kept hb).oth z (by decide) (by decide) (Oth.sets _ _ _ _))
 ·have hc := (pfits_iff q.fit).2.1
  obtain ⟨v3, r0, _, g1, g2, g3, g4, g5, _⟩ := turn_good T l hc he hl
  have hs := steps_deed T _ hc v3 r0
  have hd := ended_deed T _ v3 r0
  have hph := cnt_of T hc
  rw [he] at hgo
  simp only [Bool.false_eq_true, if_false] at hgo
  refine ⟨bx2, bel2, .inr (by rw [hY]; exact (ho.weak q.bel.size).oth z (by decide) (by decide) (Oth.sets _ _ _ _)), turn_fits q.fit he hl, hs.2.1.trans q.cnt, ?_, (fun e => by cases e), fun _ => ?_, by omega⟩
  ·rw [← q.dir]
   by_cases h7 : (turnR T l).x.k = 7
   ·rw [g5 h7]
    unfold SN.ended at he
    obtain h9 | h9 : T.x.ph = 1 ∨ T.x.ph = 2 := by
     simp at he
     omega
    ·rw [h9]; decide
    ·rw [h9]; decide
   ·rw [(g4 h7).2]
  ·by_cases h7 : (turnR T l).x.k = 7
   ·rw [hd, decide_eq_true h7]
    have := g3.2 h7
    simp only [if_true]
    omega
   ·rw [hd, decide_eq_false h7]
    have := (g4 h7).1
    simp only [Bool.false_eq_true, if_false]
    omega
theorem wpList_build_ans {d : Value} {ops : Array Oper} {rest : List Oper} {op : Oper} {a : Act} {w : World} {Q : Exit → Act → World → Prop} (hgd : op.guard = none) (t : Nat) (ho : op.op = .build 39 #[(0, .const (.int .i64 1)), (2, .tmp t)])
  (hx : a.eval (.tmp t) = d) (h1 : ∃ a n c, d = .slice a n c) (h : wpList Tryd.prog ops Q rest (a.put op.dst (.agg (anl 1 0 d).toArray)) w) : wpList Tryd.prog ops Q (op :: rest) a w := by
 refine wpList_step fun K2 hK => ?_
 rw [if_pos (by simp [Region.wanted, hgd])]
 obtain ⟨dst, op', ty, pos, after, guard⟩ := op
 simp only at ho hgd
 subst ho hgd
 have hK2 := hK _ _ h
 clear hK h
 obtain ⟨a1, n1, c1, rfl⟩ := h1
 simp [Act.eval] at hx
 unfold anl at hK2
 go_simp
 exact hK2
theorem planGoesOn_walk (p : Pln) (v : Value) (S : Sg) (h : SH) (d : Value) (l : List Nat) (w : World) (a : PA w p v S h) (hT : STabs w) (hb : Bs w d l) (HSI0 : ∀ w', STabs w' → Calls Tryd.prog 5 #[] w' fun e w'' => e = .returned (.bool true) ∧ Below w'.heap.size w' w'') : Calls Tryd.prog 3 #[plv p v, sv S h, d] w fun e w' => e = .returned (.bool true) ∧ Below w.heap.size w w' := by
 have HSI : Hid (∀ w', Below w.heap.size w w' → Calls Tryd.prog 5 #[] w' fun e w'' => e = .returned (.bool true) ∧ Below w'.heap.size w' w'') := fun w' hb => HSI0 w' (hT.kept hb)
 have HNO0 : fitP p S ≠ 0 → ∀ w', Below w.heap.size w w' → Calls Tryd.prog 6 #[plv p v, sv S h] w' fun e w'' => e = .returned (.tuple #[.agg #[.int .i64 0, .int .i64 0, .int .i64 0, .int .i64 0, .string ⟨#[]⟩], .int .i64 (fitP p S)]) ∧ Below w'.heap.size w' w'' := fun hf w' hb => pnext_no p v S h w' (a.kept hb) hf
 have HNX0 : fitP p S = 0 → ∀ w', Below w.heap.size w w' → Calls Tryd.prog 6 #[plv p v, sv S h] w' fun e w'' => ∃ K id st tr nm, e = .returned (.tuple #[.agg #[.int .i64 K, .int .i64 id, .int .i64 st, .int .i64 tr, .string nm], .int .i64 0]) ∧ Below w'.heap.size w' w'' := fun hf w' hb => (pnext_any p v S h w' (a.kept hb) hf).mono fun e w'' ⟨e1, e2⟩ => ⟨_, _, _, _, _, e1, e2⟩
 have HNU : Hid (∀ w' n, 0 ≤ n → n ≤ 1000 → Calls Tryd.prog 7 #[.int .i64 n] w' fun e w'' => e = .returned (.int .i64 n) ∧ w' = w'') := fun w' n h1 h2 => pnum_any n w' (by omega) (by omega)
 have HTU : Hid (∀ (T : Sg) (h' : SH) w', Below w.heap.size w w' → SgAt w' T h' → fitP p T = 0 → T.nm.size ≤ 140737488355000 → l.length ≤ 16384 → Calls Tryd.prog 8 #[plv p v, sv T h', .agg (anl 1 0 d).toArray] w' fun e w'' => TuPost T h' l w' e w'') := fun T h' w' hb' k f n hl => pturn_any p v T h' d l w' ⟨a.s.kept hb', k, a.t.kept hb', a.f, n⟩ (hT.kept hb') (hb.kept hb') hl f
 have HSK : Hid (SgAt w S h) := a.k
 have HNM : Hid (∀ T : Sg, fitP p T = 0 → T.nm.size ≤ 140737488355000) := fun T hf => by
  have e := (pfits_iff hf).2.2.1
  rw [bytes_toListQ e]; exact a.f.nm
 have hEB := fit_bound p S
 obtain ⟨ad, cd, ed, hlc, hcm, -⟩ := hb.shape
 subst ed
 unfold maxLen at hcm
 obtain ⟨C, hC, hM, hG⟩ := plv_letter p v
 obtain ⟨D, hD, hL, hE⟩ := sv_letter S h
 rw [hC, hD]
 try rw [hC] at HNO0
 try rw [hD] at HNO0
 try rw [hC] at HNX0
 try rw [hD] at HNX0
 have HNO : Hid _ := HNO0
 have HNX : Hid _ := HNX0
 have HM : Hid _ := hM
 have HG : Hid (C = plvl p v) := hG
 have HL : Hid _ := hL
 have HE : Hid (D = scl S h) := hE
 clear hC hM hG hD hL hE HNO0 HNX0
 have HC : Hid (plv p v = .agg C.toArray) := by show _ = _; rw [HG.out]; rfl
 have HXW : Hid (LB ((w.alloc (.cells C.toArray 24)).alloc (.cells D.toArray 28)) w.heap.size 24 C ∧ LB ((w.alloc (.cells C.toArray 24)).alloc (.cells D.toArray 28)) (w.heap.size + 1) 28 D ∧ Below w.heap.size w ((w.alloc (.cells C.toArray 24)).alloc (.cells D.toArray 28))) := lb_new2 w C D 24 28
 go_enter Tryd.func3, Tryd.ntmps3
 go_upto_region 1 with fail
 obtain ⟨W, eW⟩ : ∃ W, W = (w.alloc (.cells C.toArray 24)).alloc (.cells D.toArray 28) := ⟨_, rfl⟩
 rw [← eW]
 rw [← eW] at HXW
 clear eW
 go_wp2_with fail
 refine (HSI.out _ HXW.out.2.2).mono ?_
 rintro e w1 ⟨rfl, b1⟩
 have H1 : Hid (LB w1 w.heap.size 24 C ∧ LB w1 (w.heap.size + 1) 28 D ∧ Below w.heap.size w w1) := by have z := HXW.out; exact ⟨z.1.kept b1, z.2.1.kept b1, andThen z.2.2 b1⟩
 clear b1 HXW HSI
 by_cases hf : fitP p S = 0
 case neg =>
  have HNO2 : Hid _ := HNO.out hf
  have hE2 : (fitP p S != 0) = true := by simpa using hf
  have HEB : Hid (0 ≤ fitP p S ∧ fitP p S ≤ 1000) := hEB
  generalize fitP p S = E at *
  clear hf hEB HNO
  go_wp2_with (first | (refine wpList_load_mid rfl 24 _ rfl w.heap.size 0 rfl C _ H1.out.1.range Tryd.underlying24 rfl HM.out ?_) | (refine wpList_load_mid rfl 28 _ rfl (w.heap.size + 1) 0 rfl D _ H1.out.2.1.range Tryd.underlying28 rfl HL.out ?_) | fail)
  refine (HNO2.out _ H1.out.2.2).mono ?_
  rintro e w2 ⟨rfl, b2⟩
  have H2 : Hid (∀ o, Below w.heap.size w (w2.alloc o)) := fun o => andThen (andThen H1.out.2.2 b2) (up0 _ _)
  clear b2 H1 HNO2
  go_wp2_with fail
  refine (HNU.out _ E HEB.out.1 HEB.out.2).mono ?_
  rintro e w3 ⟨rfl, rfl⟩
  go_wp2_with fail
  go_ret
  exact ⟨rfl, H2.out _⟩
 have HNX2 : Hid _ := HNX.out hf
 have HF : Hid (fitP p S = 0) := hf
 clear HNX HNO hEB hf
 go_wp2_with (first | (refine wpList_load_mid rfl 24 _ rfl w.heap.size 0 rfl C _ H1.out.1.range Tryd.underlying24 rfl HM.out ?_) | (refine wpList_load_mid rfl 28 _ rfl (w.heap.size + 1) 0 rfl D _ H1.out.2.1.range Tryd.underlying28 rfl HL.out ?_) | fail)
 refine (HNX2.out _ H1.out.2.2).mono ?_
 rintro e w2 ⟨K, id, st, tr, nm, rfl, b2⟩
 have HW2 : Hid (∀ o, (LB (w2.alloc o) w.heap.size 24 C ∧ LB (w2.alloc o) (w.heap.size + 1) 28 D ∧ Below w.heap.size w (w2.alloc o))) := fun o => by
  have z := H1.out
  have q := andThen b2 (up0 w2 o)
  exact ⟨z.1.kept q, z.2.1.kept q, andThen z.2.2 q⟩
 clear b2 H1 HNX2
 go_wp2_with fail
 refine (HNU.out _ 0 (by decide) (by decide)).mono ?_
 rintro e w3 ⟨rfl, rfl⟩
 by_cases hl : 16384 < l.length
 ·have hl2 : (16384 : Int) < (l.length : Int) := by omega
  go_wp2_with fail
  go_ret
  exact ⟨rfl, (HW2.out _).2.2⟩
 have hl2 : ¬ (16384 : Int) < (l.length : Int) := by omega
 have HLN : Hid (l.length ≤ 16384) := by show _ ≤ _; omega
 obtain ⟨bk, hbk⟩ : ∃ bk, bk = (S.x.ph == 2 || S.x.ph == 4) := ⟨_, rfl⟩
 go_upto_region 5 with fail
 obtain ⟨X, eX⟩ : ∃ X, X = w2.alloc (.cells #[.int .i64 K, .int .i64 id, .int .i64 st, .int .i64 tr, .string nm] 31) := ⟨_, rfl⟩
 rw [← eX]
 have H3 : Hid (LB X w.heap.size 24 C ∧ LB X (w.heap.size + 1) 28 D ∧ Below w.heap.size w X) := by rw [eX]; exact HW2.out _
 clear eX HW2
 have c7 := H3.out.2.1.cell 7 (.int .i64 S.x.ph) (by rw [HE.out]; rfl)
 have hd2 : decide ((16384 : Int) < (l.length : Int)) = false := decide_eq_false (by omega)
 rw [hd2]
 go_cut [10] from 33 to 40 (fun s wx => s = .bool bk ∧ X = wx)
 case first =>
  cases hq2 : (S.x.ph == 2) with
  | true =>
   rw [hq2] at hbk
   go_wp2_with fail
   go_meet
   exact ⟨by rw [hbk]; rfl, rfl⟩
  | false =>
   rw [hq2] at hbk
   go_wp2_with fail
   go_meet
   exact ⟨by rw [hbk]; simp, rfl⟩
 case rest =>
  obtain ⟨rfl, rfl⟩ := hcut
  have HBK : Hid (bk = (S.x.ph == 2 || S.x.ph == 4)) := hbk
  have HBC : Hid (LB X w.heap.size 24 C) := H3.out.1
  have hc := (pfits_iff HF.out).2.1
  have HCT : Hid (1 ≤ S.x.cnt ∧ S.x.cnt ≤ 32) := ⟨(cnt_of S hc).1, (cnt_of S hc).2.1⟩
  have HG0 : Hid (GoI w p S h X 0 false S h) := ⟨by rw [← HE.out]; exact H3.out.2.1, H3.out.2.2, .inl ⟨rfl, rfl⟩, HF.out, rfl, rfl, (fun e => by cases e), (fun _ => by
   cases he : S.x.ended with
   | true => simp
   | false =>
    obtain ⟨_, _, _, g1, _⟩ := turn_good S [] hc he (by simp)
    simpa using g1), by omega⟩
  clear hbk hc c7 hd2 hl2 hl H3 HE
  go_wp2_with fail
  go_loopw [12, 11, 7] (fun i en ok wr => ∃ (k : Nat) (b : Bool) (T : Sg) (h' : SH), i = .int .i64 (k : Int) ∧ en = .bool b ∧ ok = .bool true ∧ GoI w p S h wr k b T h' ∧ LB wr w.heap.size 24 C) (fun i en _ _ => 2 * S.x.cnt.toNat + 3 - (intOf i).toNat)
  case atStart => exact ⟨0, false, S, h, rfl, rfl, rfl, HG0.out, HBC.out⟩
  case round =>
   obtain ⟨k, b, T, h', rfl, rfl, rfl, hI, hBC⟩ := hrel
   have HI : Hid (GoI w p S h wr k b T h' ∧ LB wr w.heap.size 24 C) := ⟨hI, hBC⟩
   clear hI hBC HG0 HBC
   obtain ⟨DT, hDT, hLT, hET⟩ := sv_letter T h'
   have HLT : Hid _ := hLT
   have HBX : Hid (LB wr (w.heap.size + 1) 28 DT) := by show LB _ _ _ _; rw [hET]; exact HI.out.1.bx
   have c2 := HBX.out.cell 2 (.int .i64 S.x.cnt) (by rw [hET, ← HI.out.1.cnt]; rfl)
   have c7 := HBX.out.cell 7 (.int .i64 T.x.ph) (by rw [hET]; rfl)
   have hw1 : IntKind.wrap .i64 (2 * S.x.cnt) = 2 * S.x.cnt := IntWalk.i64_in _ (by have := HCT.out; omega)
   have hw2 : IntKind.wrap .i64 (2 * S.x.cnt + 2) = 2 * S.x.cnt + 2 := IntWalk.i64_in _ (by have := HCT.out; omega)
   cases b with
   | false =>
    have hk : (k : Int) < 2 * S.x.cnt + 2 := by have h1 := HI.out.1.go rfl; have h2 := HCT.out; omega
    have hkb : (k : Int) ≤ 100 ∧ (0 : Int) ≤ (k : Int) := by have h1 := HI.out.1.go rfl; have h2 := HCT.out; omega
    obtain ⟨hkb1, hkb2⟩ := hkb
    have HT5 : Hid (Calls Tryd.prog 8 #[.agg C.toArray, .agg DT.toArray, .agg (anl 1 0 (.slice ad l.length cd)).toArray] wr fun e w'' => TuPost T h' l wr e w'') := by
     have e := HTU.out T h' wr HI.out.1.bel (HI.out.1.at HSK.out) HI.out.1.fit (HNM.out T HI.out.1.fit) HLN.out
     rw [HC.out, hDT] at e
     exact e
    have HDL : Hid (DT.length = 16) := by show _ = _; rw [hET]; rfl
    clear hDT hLT hET c7
    go_wp2_with (first | (refine wpList_load_mid rfl 24 _ rfl w.heap.size 0 rfl C _ HI.out.2.range Tryd.underlying24 rfl HM.out ?_) | (refine wpList_load_mid rfl 28 _ rfl (w.heap.size + 1) 0 rfl DT _ HBX.out.range Tryd.underlying28 rfl HLT.out ?_) | (refine wpList_build_ans rfl 59 rfl rfl ⟨_, _, _, rfl⟩ ?_) | fail)
    refine HT5.out.mono ?_
    intro e w5 hq5
    obtain ⟨T2, h2, b2, rfl, b5, hT2⟩ := tu_cases hq5
    obtain ⟨D2, hD2, hL2, hE2⟩ := sv_letter T2 h2
    rw [hD2]
    have HL2 : Hid _ := hL2
    have HO2 : Hid (∀ v ∈ D2, v.oneCell' = true) := by show ∀ v ∈ D2, _; rw [hE2]; exact scl_one _ _
    have HT6 : Hid (w5.there (w.heap.size + 1) 0 D2.toArray.size) := there_of (HBX.out.kept b5) (by rw [HDL.out, hE2]; rfl)
    have E6 : Hid (∃ Y, Y = w5.setCells (w.heap.size + 1) 0 D2 ∧ GoI w p S h Y (k + 1) b2 T2 h2 ∧ LB Y w.heap.size 24 C) := by
     have zc := HI.out.2.kept b5
     refine ⟨_, rfl, HI.out.1.next HLN.out b5 hT2 (by rw [hE2]), ?_⟩
     exact zc.others _ _ _ (by omega)
    clear hD2 hL2 hE2 hq5 hT2 b5 HT5 c2
    go_wp2_with (first | (refine wpList_store_mid rfl 28 (.tmp 4) (.tmp 62) rfl (w.heap.size + 1) 0 D2.toArray rfl rfl HT6.out (by simpa using HL2.out) (all_oneCell_toArray HO2.out) ?_; (obtain ⟨Y6, hY, hq⟩ := E6.out); (have H6 : Hid _ := hq); (rw [List.toList_toArray, ← hY]); (clear hY hq E6 HT6)) | fail)
    go_roundw
    case rel => exact ⟨k + 1, b2, T2, h2, by simp, rfl, rfl, H6.out.1, H6.out.2⟩
    case measure => simp [intOf]; have h9 := HCT.out; omega
   | true =>
    have he := HI.out.1.fin rfl
    have hc := (pfits_iff HI.out.1.fit).2.1
    have hdir := HI.out.1.dir
    rw [← HBK.out] at hdir
    have h34 : (T.x.ph == 4) = bk ∧ (T.x.ph == 3) = !bk := by
     unfold SN.ended at he
     rw [← hdir]
     obtain h9 | h9 : T.x.ph = 3 ∨ T.x.ph = 4 := by simpa using he
     ·rw [h9]; decide
     ·rw [h9]; decide
    obtain ⟨h4, h3⟩ := h34
    clear hDT hLT hET he hc hdir
    by_cases hk : (k : Int) < 2 * S.x.cnt + 2
    all_goals
     go_wp2_with fail
     go_ret
     exact ⟨by simp, HI.out.1.bel⟩
end Go.Proofs.YtodcakplmoajiaaDoor
