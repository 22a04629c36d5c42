import Derived.Test.YtabdfafffjgfiaaGreatDoorAD3
set_option maxRecDepth 100000
set_option maxHeartbeats 4000000
namespace Go.Proofs.YtabdfafffjgfiaaGreatDoor
open Go Go.RowKit
open Wb

theorem wpList_append_recT {P : Program} {ops : Array Oper} {rest : List Oper} {o : Oper} {a : Act} {w : World} {Q : Exit → Act → World → Prop} (hgd : o.guard = none) (s x : Operand) (t : TypeId)
  (ho : o.op = .call { callee := .builtin .append, args := #[s, x], argTypes := #[t, t] })
  (B : Nat) (hinfo : (P.info? 37).map (fun i => (i.zero, i.size, i.bytes)) = some (some (.agg #[.int .i64 0, .int .i64 0, .int .i64 0, .int .i64 0, .int .i64 0, .int .i64 0, .int .i64 0, .int .i64 0, .int .i64 0, .int .i64 0, .string ⟨#[]⟩, .slice none 0 0]), 12, 120)) (ht : P.underlying t = some (.slice 37))
  (v : Value) (ps : List (Rec × Value)) (q : Rec × Value) (hv : a.eval s = v) (h : OutT B w v ps) (g : Nat) (hx : a.eval x = .slice (some ⟨g, 0, none⟩) 1 1)
  (hc : w.rangeAt g 0 (rcl q)) (hq2 : Own B w q.2 q.1.l)
  (hmax : (ps.length + 1) * 120 ≤ 140737488355328) (hB : B ≤ w.heap.size)
  (hK : ∀ v' w', OutT B w' v' (ps ++ [q]) → Below B w w' → w.grownBy w' v.ownBlock → wpList P ops Q rest (a.put o.dst v') w') : wpList P ops Q (o :: rest) a w :=
 wpList_step fun _ hKK => step_append_rec hgd s x t ho B hinfo ht v ps q hv h g hx hc hq2 hmax hB fun v' w' h1 h2 h3 => hKK _ _ (hK v' w' h1 h2 h3)
theorem trR_step (S : Sg) (kk p : Int) (m n : Nat) : trL S kk p m (n + 1) = stR S kk p ((m : Int) + 1) 0 0 [] :: ((if n ≠ 0 ∨ S.x.fl = false then [stR S 4 p 0 0 0 []] else []) ++ trL S kk p (m + 1) n) := rfl
theorem lb_grown {w w' : World} {B b : Nat} {ty : TypeId} {C : List Value} {v : Value} {ps : List (Rec × Value)} (L : LB w b ty C) (h : OutT B w v ps) (hg : w.grownBy w' v.ownBlock) (hty : ty ≠ 37) : LB w' b ty C := (hg.block b L.lt (fun e => by
 obtain ⟨cs, z, h9⟩ := rrow_typed h.1 b e.symm
 rw [L] at h9
 simp at h9
 exact hty h9.2.1)).trans L
theorem step_load {P : Program} {ops : Array Oper} {o : Oper} {a : Act} {w : World} {K : Act → World → Prop} {Q : Exit → Act → World → Prop} {E : Prop} (hgd : o.guard = none) (ty : TypeId) (x : Operand) (ho : o.op = .load ty x)
  (b f : Nat) (hx : a.eval x = .pointer (some ⟨b, f, none⟩)) (cs : List Value) (d : TypeDesc) (hc : w.rangeAt b f cs) (hu : P.underlying ty = some d) (hd : d.isRow = true) (hi : (P.info? ty).map (·.size) = some cs.length)
  (h : K (a.put o.dst (.agg cs.toArray)) w) : if Region.wanted o (yielded ops a.tmps) = true then Oper.wp P o a w K Q else E := by
 rw [if_pos (by simp [Region.wanted, hgd])]
 exact wp_load_mid ty x ho b f hx cs d hc hu hd hi h
theorem OutT.at {B : Nat} {w : World} {v : Value} {ps : List (Rec × Value)} (h : OutT B w v ps) : ∃ ao cap, v = .slice ao ps.length cap ∧ ∀ k (hk : k < ps.length), ∃ g, ao = some ⟨g, 0, none⟩ ∧ w.rangeAt g (k * 12) (rcl ps[k]) ∧ Bs w ps[k].2 ps[k].1.l := by
 have h0 := h.1
 rcases h.1.2 with ⟨rfl, h1⟩ | ⟨g, cap, cur, rfl, hb, hg, h1, h2, h3, h4⟩
 ·exact ⟨none, 0, by rw [h1], fun k hk => by omega⟩
 ·refine ⟨some ⟨g, 0, none⟩, cap, rfl, fun k hk => ⟨g, rfl, fun j u hu => ?_, (h.2 _ (List.getElem_mem hk)).bs⟩⟩
  have hj : j < 12 := (List.getElem?_eq_some_iff.1 hu).1
  have hl := rcls_len ps
  rw [← hu, ← rcls_get ps k hk j hj]
  exact World.ownsRow.cellAt h0 (k * 12 + j) (by rw [Nat.mul_comm]; omega)
theorem v3_stB (S : Sg) (h : chkS S = true) : V3 (stB S) ∧ (stB S).x.fit := by
 obtain ⟨⟨b1, b2, b3, b4, b5, b6, b7, b8, b9, b10, b11⟩, h1⟩ := (chkS_iff S).1 h
 have hv : V3 (stB S) := ⟨b2.1, b5.1, b5.2, .inl ⟨rfl, rfl, rfl, rfl, rfl, b3.1, b3.2, b4.1, b4.2, by show lab S.nm = 0; unfold lab; rw [if_pos b1], b8⟩⟩
 exact ⟨hv, fit_v3 _ hv b2.2⟩
theorem begin_stB (S : Sg) (h : chkS S = true) : beginP (stB S) = (0, stO S S.x.beg 0) := by
 unfold beginP
 rw [up_v3 _ (v3_stB S h).1 rfl, if_neg (by simp), if_neg (by simp [stB])]
 simp [stO, stB]
theorem story_rec {S : Sg} {ps : List (Rec × Value)} (hm : ps.map Prod.fst = storyP S) (n : Nat) (hn : n < ps.length) : (storyP S).drop n = ps[n].1 :: (storyP S).drop (n + 1) := by
 have h1 : n < (storyP S).length := by rw [← hm]; simpa using hn
 rw [List.drop_eq_getElem_cons h1]
 congr 1
 simp [← hm]
theorem OutT.weak {B B2 : Nat} {w : World} {v : Value} {ps : List (Rec × Value)} (h : OutT B2 w v ps) (hB : B ≤ B2) : OutT B w v ps := by
 refine ⟨⟨h.1.1, ?_⟩, fun p hp => own_weak (h.2 p hp) hB⟩
 rcases h.1.2 with h1 | ⟨g, cap, cur, e, hb, rest⟩
 ·exact .inl h1
 ·exact .inr ⟨g, cap, cur, e, Nat.le_trans hB hb, rest⟩
theorem sgo_oth {B : Nat} {w w' : World} {S : Sg} {h : SH} {g : Nat} {C : List Value} (k : SgO B w S h) (L : LB w g 25 C) (ho : Oth g w w') : SgO B w' S h := k.oth L (by decide) (by decide) ho
def LX (w : World) (v : Value) (ps : List (Rec × Value)) (D : List Value) (q : Nat) (Q : Sg) (hq : SH) (wr : World) : Prop := LB wr q 25 (scl Q hq) ∧ SgO 0 wr Q hq ∧ OutT 0 wr v ps ∧ LB wr w.heap.size 25 D ∧ Below w.heap.size w wr ∧ w.heap.size < q
theorem LX.kept {w wr wr' : World} {v : Value} {ps : List (Rec × Value)} {D : List Value} {q : Nat} {Q : Sg} {hq : SH} (k : LX w v ps D q Q hq wr) (b : Below wr.heap.size wr wr') : LX w v ps D q Q hq wr' := ⟨k.1.kept b, k.2.1.kept b, k.2.2.1.kept b, k.2.2.2.1.kept b, andThen k.2.2.2.2.1 b, k.2.2.2.2.2⟩
theorem LX.put {w wr : World} {v : Value} {ps : List (Rec × Value)} {D : List Value} {q : Nat} {Q Q2 : Sg} {hq h2 : SH} (k : LX w v ps D q Q hq wr) (o : SgO 0 wr Q2 h2) : LX w v ps D q Q2 h2 (wr.setCells q 0 (scl Q2 h2)) :=
 ⟨k.1.sets _ rfl, sgo_oth o k.1 (Oth.sets _ _ _ _), k.2.2.1.but k.1 (by decide) (by decide) (Oth.sets _ _ _ _), k.2.2.2.1.others _ _ _ (by have := k.2.2.2.2.2; omega), below_cells (by have := k.2.2.2.2.2; omega) _ 0 _ k.2.2.2.2.1, k.2.2.2.2.2⟩
theorem play_step (Q S : Sg) (r : Rec) (rs : List Rec) (hc : chkS Q = true) (hl : Leads Q (r :: rs) S) : V3 r ∧ r.x.v = 3 ∧ refP Q.x r.x = 0 ∧ chkS (deedS Q r) = true ∧ r.nm.size ≤ 1048576 ∧ r.x.fit ∧ Leads (deedS Q r) rs S := by
 obtain ⟨hv, h3, h0, h4⟩ := hl
 have hz := ref_zero h0
 obtain ⟨⟨_, b2, _⟩, _⟩ := (chkS_iff Q).1 hc
 refine ⟨hv, h3, h0, chkS_deed Q r hc hv h0, ?_, fit_v3 r hv (by rw [hz.1]; exact b2.2), h4⟩
 have hn := hv
 obtain ⟨_, _, _, h1 | h1 | h1 | h1 | h1⟩ := hn
 ·exact absurd h1.1 hz.2.1
 ·rw [h1.2.2.2.2.2.2.2.2.2.1]; decide
 ·rw [h1.2.2.2.2.2.2.2.2.1]; decide
 ·rw [h1.2.2.2.2.2.2.2.2.2.2.1]; decide
 ·rw [h1.2.2.2.2.2.2.2.2.1]; decide
theorem rxstep_err (S : Sg) (h : SH) (r : Rec) (d : Value) (w : World) (hb : Bs w d r.l) (hT : Tabs w) (hc : chkS S = true) (hnm : r.nm.size ≤ 1048576) (hf : r.x.fit) (hv : V3 r) (h3 : r.x.v = 3) (h0 : refP S.x r.x ≠ 0) : Calls Tryz.prog 78 #[sv S h, rv r.x r.nm d] w fun e w' => ∃ hz, e = .returned (.tuple #[sv zSg hz, .int .i64 (refP S.x r.x)]) ∧ Below w.heap.size w w' := by
 have HCK0 : ∀ w', Below w.heap.size w w' → Calls Tryz.prog 75 #[rv r.x r.nm d] w' fun e w'' => e = .returned (.int .i64 0) ∧ Below w'.heap.size w' w'' := fun w' hb' => by
  have e := refcheck_any r.x r.nm d r.l w' (hb.kept hb') (hT.kept hb').rlets (hT.kept hb').rows hf.c (by omega)
  rw [(v3_iff r h3).2 hv] at e
  exact e
 have HTH0 : ∀ w', Below w.heap.size w w' → Calls Tryz.prog 76 #[rv r.x r.nm d] w' fun e w'' => ∃ ao, ∃ cap : Nat, e = .returned (rv r.x r.nm (.slice ao r.l.length cap)) ∧ Bs w'' (.slice ao r.l.length cap) r.l ∧ Below w'.heap.size w' w'' := fun w' hb' => by
  have e := rxthird_any r d w' (hb.kept hb') (hT.kept hb') hnm hf
  rw [up_v3 r hv h3] at e
  exact e
 obtain ⟨z, hz⟩ : ∃ z, refP S.x r.x = z := ⟨_, rfl⟩
 rw [hz] at h0 ⊢
 have HRF0 : ∀ (v : Value) (w' : World), Calls Tryz.prog 95 #[sv S h, rv r.x r.nm v] w' fun e w'' => e = .returned (.int .i64 z) ∧ Below w'.heap.size w' w'' := fun v w' => by
  have e := rref_any S h r v w' hc hv
  rw [hz] at e
  exact e
 have hz0 : (z != 0) = true := by rw [bne_iff_ne]; exact h0
 obtain ⟨ZR, hZR⟩ : ∃ ZR, ZR = zrl := ⟨_, rfl⟩
 have HZR : Hid (ZR = zrl) := hZR
 have HZRL : Hid (ZR.length = 12) := by show _ = _; rw [hZR]; rfl
 obtain ⟨Z, hZ⟩ : ∃ Z, Z = zcl := ⟨_, rfl⟩
 have HZ : Hid (Z = zcl) := hZ
 have HZL : Hid (Z.length = 16) := by show _ = _; rw [hZ]; rfl
 have HZI : Hid ((Tryz.prog.info? 25).map (·.size) = some Z.length) := by show _ = _; rw [hZ]; exact infoSaga
 have HZ1 : Hid (∀ v ∈ Z, v.oneCell' = true) := by show ∀ v ∈ Z, _; rw [hZ]; exact scl_one zSg ⟨none, 0, none, 0, none, 0, none, 0⟩
 obtain ⟨D, hD, hL, hE⟩ := sv_letter S h
 obtain ⟨E, hD2, hL2, hE2⟩ := rv_letter r.x r.nm d
 rw [hD] at HRF0
 rw [hD2] at HCK0 HTH0
 rw [hD, hD2]
 have HCK : Hid _ := HCK0
 have HTH : Hid _ := HTH0
 have HRF : Hid _ := HRF0
 have HL : Hid _ := hL
 have HL2 : Hid _ := hL2
 have HX : Hid (LB (((w.alloc (.cells D.toArray 25)).alloc (.cells E.toArray 37)).alloc (.cells Z.toArray 25)) w.heap.size 25 D ∧ LB (((w.alloc (.cells D.toArray 25)).alloc (.cells E.toArray 37)).alloc (.cells Z.toArray 25)) (w.heap.size + 1) 37 E ∧ LB (((w.alloc (.cells D.toArray 25)).alloc (.cells E.toArray 37)).alloc (.cells Z.toArray 25)) (w.heap.size + 2) 25 Z ∧ Below w.heap.size w (((w.alloc (.cells D.toArray 25)).alloc (.cells E.toArray 37)).alloc (.cells Z.toArray 25))) := lb_new3 w D E Z _ _ _
 clear hD hL hE hD2 hL2 hE2 HCK0 HTH0 HRF0 hZ hZR hb hT hc hnm hf hv h3 h0 hz
 go_enter Tryz.func78, Tryz.ntmps78
 go_wp2_with (first | (refine wpList_alloc_Z HZ.out rfl rfl ?_; (try simp only [heap_one])) | (refine wpList_load_mid rfl 37 _ rfl (w.heap.size + 1) 0 rfl E _ HX.out.2.1.range Tryz.underlying37 rfl HL2.out ?_) | fail)
 refine (HCK.out _ HX.out.2.2.2).mono ?_
 rintro e w1 ⟨rfl, b1⟩
 have H1 : Hid (LB w1 w.heap.size 25 D ∧ LB w1 (w.heap.size + 1) 37 E ∧ LB w1 (w.heap.size + 2) 25 Z ∧ Below w.heap.size w w1) := ⟨HX.out.1.kept b1, HX.out.2.1.kept b1, HX.out.2.2.1.kept b1, andThen HX.out.2.2.2 b1⟩
 clear b1 HX HCK
 go_wp2_with (first | (refine wpList_load_mid rfl 37 _ rfl (w.heap.size + 1) 0 rfl E _ H1.out.2.1.range Tryz.underlying37 rfl HL2.out ?_) | fail)
 refine (HTH.out _ H1.out.2.2.2).mono ?_
 rintro e w2 ⟨a3, c3, rfl, bs2, b2⟩
 obtain ⟨G, hG, hGL, hGE⟩ := rv_letter r.x r.nm (.slice a3 r.l.length c3)
 rw [hG]
 have HRG : Hid (∀ w', Calls Tryz.prog 95 #[.agg D.toArray, .agg G.toArray] w' fun e w'' => e = .returned (.int .i64 z) ∧ Below w'.heap.size w' w'') := fun w' => by
  have e := HRF.out (.slice a3 r.l.length c3) w'
  rw [hG] at e
  exact e
 have HGL : Hid _ := hGL
 have HG1 : Hid (∀ v ∈ G, v.oneCell' = true) := by show ∀ v ∈ G, _; rw [hGE]; exact rcE_one _ _ _ rfl
 have HGZ : Hid (G.length = ZR.length) := by show _ = _; rw [hGE, HZRL.out]; rfl
 have HTZ : Hid ((w2.alloc (.cells ZR.toArray 37)).there w2.heap.size 0 G.toArray.size) := there_of (lb_new w2 ZR _) (by simpa using HGZ.out)
 have H3 : Hid (∃ W3, W3 = (w2.alloc (.cells ZR.toArray 37)).setCells w2.heap.size 0 G ∧ LB W3 w.heap.size 25 D ∧ LB W3 (w.heap.size + 2) 25 Z ∧ LB W3 w2.heap.size 37 G ∧ Below w.heap.size w W3) := by
  obtain ⟨q1, q2⟩ := one_boxR w2 37 ZR G HGZ.out
  exact ⟨_, rfl, (H1.out.1.kept b2).kept q2, (H1.out.2.2.1.kept b2).kept q2, q1, andThen (andThen H1.out.2.2.2 b2) q2⟩
 clear hG hGL hGE b2 bs2 H1 HTH HRF HL2
 go_wp2_with (first | (refine wpList_alloc_R HZR.out rfl rfl ?_) | (refine wpList_store_mid rfl 37 (.tmp 7) (.tmp 15) rfl w2.heap.size 0 G.toArray rfl rfl HTZ.out (by simpa using HGL.out) (all_oneCell_toArray HG1.out) ?_; (obtain ⟨W3, hW3, hq⟩ := H3.out); (have H4 : Hid _ := hq); (rw [List.toList_toArray, ← hW3]); (clear hW3 hq H3 HTZ)) | (refine wpList_load_mid rfl 25 _ rfl w.heap.size 0 rfl D _ H4.out.1.range Tryz.underlying25 rfl HL.out ?_) | (refine wpList_load_mid rfl 37 _ rfl w2.heap.size 0 rfl G _ H4.out.2.2.1.range Tryz.underlying37 rfl HGL.out ?_) | fail)
 refine (HRG.out _).mono ?_
 rintro e w4 ⟨rfl, b4⟩
 have H5 : Hid (LB w4 (w.heap.size + 2) 25 Z ∧ Below w.heap.size w w4) := ⟨H4.out.2.1.kept b4, andThen H4.out.2.2.2 b4⟩
 clear b4 H4 HRG HGL HG1 HGZ
 go_wp2_with (first | (refine wpList_build_Z HZ.out rfl rfl ?_) | (refine wpList_store_mid rfl 25 (.tmp 4) (.tmp 21) rfl (w.heap.size + 2) 0 Z.toArray rfl rfl (there_of H5.out.1 (by simp)) (by simpa using HZI.out) (all_oneCell_toArray HZ1.out) ?_; (rw [List.toList_toArray])) | fail)
 have HR9 : Hid ((w4.setCells (w.heap.size + 2) 0 Z).rangeAt (w.heap.size + 2) 0 Z) := (H5.out.1.sets Z rfl).range
 refine bodyPost_ret (results_cell_slot (p := 4) (s := 5) (ty := 25) rfl _ (w4.setCells (w.heap.size + 2) 0 Z) (w.heap.size + 2) Z _ rfl HR9.out Tryz.underlying25 rfl HZI.out) rfl ?_
 exact ⟨⟨none, 0, none, 0, none, 0, none, 0⟩, by rw [HZ.out]; rfl, below_cells (by omega) _ 0 _ H5.out.2⟩
theorem rxapply_err (S : Sg) (h : SH) (r : Rec) (d : Value) (w : World) (hb : Bs w d r.l) (hT : Tabs w) (hc : chkS S = true) (hnm : r.nm.size ≤ 1048576) (hf : r.x.fit) (hv : V3 r) (h3 : r.x.v = 3) (h0 : refP S.x r.x ≠ 0)
  (hCK : ∀ w', Below w.heap.size w w' → Calls Tryz.prog 77 #[sv S h] w' fun e w'' => e = .returned (.int .i64 0) ∧ Below w'.heap.size w' w'') : Calls Tryz.prog 56 #[sv S h, rv r.x r.nm d] w fun e w' => ∃ hz, e = .returned (.tuple #[sv zSg hz, .int .i64 (refP S.x r.x)]) ∧ Below w.heap.size w w' := by
 have HST0 : ∀ w', Below w.heap.size w w' → Calls Tryz.prog 78 #[sv S h, rv r.x r.nm d] w' fun e w'' => ∃ hz, e = .returned (.tuple #[sv zSg hz, .int .i64 (refP S.x r.x)]) ∧ Below w'.heap.size w' w'' := fun w' hb' => rxstep_err S h r d w' (hb.kept hb') (hT.kept hb') hc hnm hf hv h3 h0
 have HCK0 := hCK
 obtain ⟨z, hz⟩ : ∃ z, refP S.x r.x = z := ⟨_, rfl⟩
 rw [hz] at HST0 ⊢
 obtain ⟨Z, hZ⟩ : ∃ Z, Z = zcl := ⟨_, rfl⟩
 have HZ : Hid (Z = zcl) := hZ
 have HZL : Hid (Z.length = 16) := by show _ = _; rw [hZ]; rfl
 have HZI : Hid ((Tryz.prog.info? 25).map (·.size) = some Z.length) := by show _ = _; rw [hZ]; exact infoSaga
 have HZ1 : Hid (∀ v ∈ Z, v.oneCell' = true) := by show ∀ v ∈ Z, _; rw [hZ]; exact scl_one zSg ⟨none, 0, none, 0, none, 0, none, 0⟩
 obtain ⟨D, hD, hL, hE⟩ := sv_letter S h
 obtain ⟨E, hD2, hL2, hE2⟩ := rv_letter r.x r.nm d
 rw [hD] at HCK0
 rw [hD, hD2] at HST0
 rw [hD, hD2]
 have HCK : Hid _ := HCK0
 have HST : Hid _ := HST0
 have HL : Hid _ := hL
 have HL2 : Hid _ := hL2
 have HX : Hid (LB (((w.alloc (.cells D.toArray 25)).alloc (.cells E.toArray 37)).alloc (.cells Z.toArray 25)) w.heap.size 25 D ∧ LB (((w.alloc (.cells D.toArray 25)).alloc (.cells E.toArray 37)).alloc (.cells Z.toArray 25)) (w.heap.size + 1) 37 E ∧ LB (((w.alloc (.cells D.toArray 25)).alloc (.cells E.toArray 37)).alloc (.cells Z.toArray 25)) (w.heap.size + 2) 25 Z ∧ Below w.heap.size w (((w.alloc (.cells D.toArray 25)).alloc (.cells E.toArray 37)).alloc (.cells Z.toArray 25))) := lb_new3 w D E Z _ _ _
 clear hD hL hE hD2 hL2 hE2 HCK0 HST0 hCK hZ hb hT hc hnm hf hv h3 h0 hz
 go_enter Tryz.func56, Tryz.ntmps56
 go_wp2_with (first | (refine wpList_alloc_Z HZ.out rfl rfl ?_; (try simp only [heap_one])) | (refine wpList_load_mid rfl 25 _ rfl w.heap.size 0 rfl D _ HX.out.1.range Tryz.underlying25 rfl HL.out ?_) | fail)
 refine (HCK.out _ HX.out.2.2.2).mono ?_
 rintro e w1 ⟨rfl, b1⟩
 have H1 : Hid (LB w1 w.heap.size 25 D ∧ LB w1 (w.heap.size + 1) 37 E ∧ LB w1 (w.heap.size + 2) 25 Z ∧ Below w.heap.size w w1) := ⟨HX.out.1.kept b1, HX.out.2.1.kept b1, HX.out.2.2.1.kept b1, andThen HX.out.2.2.2 b1⟩
 clear b1 HX HCK
 go_wp2_with (first | (refine wpList_load_mid rfl 25 _ rfl w.heap.size 0 rfl D _ H1.out.1.range Tryz.underlying25 rfl HL.out ?_) | (refine wpList_load_mid rfl 37 _ rfl (w.heap.size + 1) 0 rfl E _ H1.out.2.1.range Tryz.underlying37 rfl HL2.out ?_) | fail)
 refine (HST.out _ H1.out.2.2.2).mono ?_
 rintro e w2 ⟨h2, rfl, b2⟩
 obtain ⟨G, hG, hGL, hGE⟩ := sv_letter zSg h2
 rw [hG]
 have HGL : Hid _ := hGL
 have HG : Hid (sv zSg h2 = .agg G.toArray) := hG
 have HG1 : Hid (∀ v ∈ G, v.oneCell' = true) := by show ∀ v ∈ G, _; rw [hGE]; exact scl_one _ _
 have HGZ : Hid (G.length = Z.length) := by show _ = _; rw [hGE, HZL.out]; rfl
 have H5 : Hid (LB w2 (w.heap.size + 2) 25 Z ∧ Below w.heap.size w w2) := ⟨H1.out.2.2.1.kept b2, andThen H1.out.2.2.2 b2⟩
 clear hG hGL hGE b2 H1 HST
 go_wp2_with (first | (refine wpList_store_mid rfl 25 (.tmp 4) (.tmp 16) rfl (w.heap.size + 2) 0 G.toArray rfl rfl (there_of H5.out.1 (by simpa using HGZ.out)) (by simpa using HGL.out) (all_oneCell_toArray HG1.out) ?_; (rw [List.toList_toArray])) | fail)
 have HR9 : Hid ((w2.setCells (w.heap.size + 2) 0 G).rangeAt (w.heap.size + 2) 0 G) := (H5.out.1.sets G HGZ.out).range
 refine bodyPost_ret (results_cell_slot (p := 4) (s := 5) (ty := 25) rfl _ (w2.setCells (w.heap.size + 2) 0 G) (w.heap.size + 2) G _ rfl HR9.out Tryz.underlying25 rfl HGL.out) rfl ?_
 exact ⟨h2, by rw [HG.out]; rfl, below_cells (by omega) _ 0 _ H5.out.2⟩
end Go.Proofs.YtabdfafffjgfiaaGreatDoor
