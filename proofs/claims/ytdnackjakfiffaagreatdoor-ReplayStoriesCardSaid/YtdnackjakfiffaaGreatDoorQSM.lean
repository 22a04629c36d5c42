import Derived.Test.YtdnackjakfiffaaGreatDoorQSH
import Derived.Test.YtdnackjakfiffaaGreatDoorQR3
/-
  Package saga: Begin.
-/
namespace Go.Proofs.YtdnackjakfiffaaGreatDoor
open Go Go.RowKit
open Wb

theorem one_boxR (w : World) (t : TypeId) (Z D : List Value) (hl : D.length = Z.length) : LB ((w.alloc (.cells Z.toArray t)).setCells w.heap.size 0 D) w.heap.size t D ∧ Below w.heap.size w ((w.alloc (.cells Z.toArray t)).setCells w.heap.size 0 D) := ⟨(lb_new w Z t).sets D hl, below_cells (Nat.le_refl _) _ 0 _ (up0 _ _)⟩
theorem own_at {B : Nat} {w : World} {v : Value} {l : List Nat} (h : Own B w v l) (g o : Nat) (vs : List Value) (hg : g < B) : Own B (w.setCells g o vs) v l := Own.cells h g o vs hg
set_option maxRecDepth 100000 in
set_option maxHeartbeats 4000000 in
theorem begin_any (r : Rec) (d : Value) (w : World) (hb : Bs w d r.l) (hT : ETabs w) (hnm2 : r.nm.size ≤ 140737488355000) (hf : r.x.fit) : Calls Tryz.prog 74 #[rv r.x r.nm d] w fun e w' => ApPost w (beginP r) e w' := by
  have HUP0 : ∀ w', Below w.heap.size w w' → Calls Tryz.prog 11 #[rv r.x r.nm d, .int .i64 3] w' fun e w'' => OwnT w' w'' (upP 3 r) e := fun w' hb' => up_O 3 r d w' (hb.kept hb') (hT.kept hb') hnm2 hf
  clear hb hT hnm2 hf
  unfold beginP
  obtain ⟨z, hz⟩ : ∃ z, (upP 3 r).1 = z := ⟨_, rfl⟩
  obtain ⟨u, hu⟩ : ∃ u, (upP 3 r).2 = u := ⟨_, rfl⟩
  rw [hz, hu]
  generalize hR : ite (z ≠ 0) _ _ = R
  have HR : Hid _ := hR
  have HUP1 : ∀ w', Below w.heap.size w w' → Calls Tryz.prog 11 #[rv r.x r.nm d, .int .i64 3] w' fun e w'' => ∃ ad, ∃ cd : Nat, e = .returned (.tuple #[rv u.x u.nm (.slice ad u.l.length cd), .int .i64 z]) ∧ Own w'.heap.size w'' (.slice ad u.l.length cd) u.l ∧ Below w'.heap.size w' w'' := fun w' hb' => (HUP0 w' hb').mono fun e w'' ⟨ad, cd, he, ho, hb''⟩ => by
    rw [hu, hz] at he
    rw [hu] at ho
    exact ⟨ad, cd, he, ho, hb''⟩
  clear HUP0 hz hu hR
  obtain ⟨Z, hZ⟩ : ∃ Z, Z = zcl := ⟨_, rfl⟩
  obtain ⟨ZR, hZR⟩ : ∃ ZR, ZR = zrl := ⟨_, rfl⟩
  have HZ : Hid (Z = zcl) := hZ
  have HZR : Hid (ZR = zrl) := hZR
  have HZL : Hid (Z.length = 16) := by show _ = _; rw [hZ]; rfl
  have HZI : Hid ((Tryz.prog.info? 43).map (·.size) = some Z.length) := by show _ = _; rw [hZ]; exact infoSaga
  have HZ1 : Hid (∀ v ∈ Z, v.oneCell' = true) := by show ∀ v ∈ Z, _; rw [hZ]; exact scl_one zSg ⟨none, 0, none, 0, none, 0, none, 0⟩
  have HZRL : Hid (ZR.length = 12) := by show _ = _; rw [hZR]; rfl
  obtain ⟨E, hD2, hL2, -⟩ := rv_letter r.x r.nm d
  rw [hD2]
  rw [hD2] at HUP1
  have HUP : Hid _ := HUP1
  have HL2 : Hid _ := hL2
  have HX : Hid (∀ t t2, LB ((w.alloc (.cells E.toArray t)).alloc (.cells Z.toArray t2)) w.heap.size t E ∧ LB ((w.alloc (.cells E.toArray t)).alloc (.cells Z.toArray t2)) (w.heap.size + 1) t2 Z ∧ Below w.heap.size w ((w.alloc (.cells E.toArray t)).alloc (.cells Z.toArray t2))) := fun t t2 => lb_new2 w E Z t t2
  clear hD2 hL2 HUP1 hZ hZR
  go_enter Tryz.func74, Tryz.ntmps74
  go_wp2_with (first | (refine wpList_alloc_Z HZ.out rfl rfl ?_; (try simp only [heap_one])) | (refine wpList_load_mid rfl 32 _ rfl w.heap.size 0 rfl E _ (HX.out _ _).1.range Tryz.underlying32 rfl HL2.out ?_) | fail)
  refine (HUP.out _ (HX.out _ _).2.2).mono ?_
  rintro e w2 ⟨ad, cd, rfl, ho2, b2⟩
  have H2 : Hid (LB w2 (w.heap.size + 1) 43 Z ∧ Own (w.heap.size + 2) w2 (.slice ad u.l.length cd) u.l ∧ w.heap.size + 1 < w2.heap.size ∧ Below w.heap.size w w2) := ⟨(HX.out _ _).2.1.kept b2, own_weak ho2 (by rw [heap_one, heap_one]; omega), ((HX.out 32 43).2.1.kept b2).lt, andThen (HX.out _ _).2.2 b2⟩
  clear b2 ho2 HX HUP HL2
  obtain ⟨G, hG, hGL, hGE⟩ := rv_letter u.x u.nm (.slice ad u.l.length cd)
  rw [hG]
  have HGL : Hid _ := hGL
  have HGE : Hid (G = rcE u.x u.nm (.slice ad u.l.length cd)) := hGE
  have HG1 : Hid (∀ v ∈ G, v.oneCell' = true) := by show ∀ v ∈ G, _; rw [hGE]; exact rcE_one _ _ _ rfl
  have HGZ : Hid (G.length = ZR.length) := by show _ = _; rw [hGE, HZRL.out]; rfl
  have HTZ : Hid ((w2.alloc (.cells ZR.toArray 32)).there w2.heap.size 0 G.toArray.size) := there_of (lb_new w2 ZR _) (by simpa using HGZ.out)
  have H3 : Hid (∃ W3, W3 = (w2.alloc (.cells ZR.toArray 32)).setCells w2.heap.size 0 G ∧ LB W3 (w.heap.size + 1) 43 Z ∧ Own (w.heap.size + 2) W3 (.slice ad u.l.length cd) u.l ∧ LB W3 w2.heap.size 32 G ∧ Below w.heap.size w W3) := by
    obtain ⟨q1, q2⟩ := one_boxR w2 32 ZR G HGZ.out
    exact ⟨_, rfl, H2.out.1.kept q2, H2.out.2.1.kept q2, q1, andThen H2.out.2.2.2 q2⟩
  clear hG hGL hGE H2
  obtain ⟨M, hM⟩ : ∃ M : List Value, [.int .i64 u.x.s, .string u.nm, .int .i64 u.x.n, .int .i64 u.x.i, .int .i64 u.x.a, .int .i64 u.x.a, .slice ad u.l.length cd, .int .i64 1, .int .i64 0, .bool false, .int .i64 0, .slice none 0 0, .slice none 0 0, .int .i64 0, .int .i64 0, .slice none 0 0] = M := ⟨_, rfl⟩
  have HM : Hid (M = scl ⟨⟨u.x.s, u.x.n, u.x.i, u.x.a, u.x.a, 1, 0, false, 0, 0, 0⟩, u.nm, u.l, [], [], []⟩ ⟨ad, cd, none, 0, none, 0, none, 0⟩) := hM.symm
  have HMI : Hid ((Tryz.prog.info? 43).map (·.size) = some M.length) := by show _ = _; rw [HM.out]; exact infoSaga
  have HM1 : Hid (∀ v ∈ M, v.oneCell' = true) := by show ∀ v ∈ M, _; rw [HM.out]; exact scl_one _ _
  have HMZ : Hid (M.length = Z.length) := by show _ = _; rw [HM.out, HZL.out]; rfl
  by_cases h0 : z = 0
  · have hz0 : (z != 0) = false := by simp [h0]
    by_cases hk : u.x.k = 1
    · have HRE : Hid (R = (0, ⟨⟨u.x.s, u.x.n, u.x.i, u.x.a, u.x.a, 1, 0, false, 0, 0, 0⟩, u.nm, u.l, [], [], []⟩)) := by show _ = _; rw [← HR.out, if_neg (by simpa using h0), if_neg (by simpa using hk)]
      clear h0
      have HK : Hid (G[1]? = some (.int .i64 1)) := by show _ = _; rw [HGE.out, ← hk]; rfl
      clear hk
      go_wp2_with (first | (refine wpList_alloc_R HZR.out rfl rfl ?_) | (refine wpList_store_mid rfl 32 (.tmp 4) (.tmp 9) rfl w2.heap.size 0 G.toArray rfl rfl HTZ.out (by simpa using HGL.out) (all_oneCell_toArray HG1.out) ?_; (obtain ⟨W3, hW3, hq⟩ := H3.out); (have H4 : Hid _ := hq); (rw [List.toList_toArray, ← hW3]); (clear hW3 hq H3 HTZ); (have g1 := H4.out.2.2.1.cell 1 (.int .i64 1) HK.out); (have g2 := H4.out.2.2.1.cell 2 (.int .i64 u.x.s) (by rw [HGE.out]; rfl)); (have g10 := H4.out.2.2.1.cell 10 (.string u.nm) (by rw [HGE.out]; rfl)); (have g8 := H4.out.2.2.1.cell 8 (.int .i64 u.x.n) (by rw [HGE.out]; rfl)); (have g9 := H4.out.2.2.1.cell 9 (.int .i64 u.x.i) (by rw [HGE.out]; rfl)); (have g5 := H4.out.2.2.1.cell 5 (.int .i64 u.x.a) (by rw [HGE.out]; rfl)); (have g11 := H4.out.2.2.1.cell 11 (.slice ad u.l.length cd) (by rw [HGE.out]; rfl))) | (refine wpList_store_mid rfl 43 (.tmp 2) (.tmp 33) rfl (w.heap.size + 1) 0 M.toArray rfl rfl (there_of H4.out.1 (by simpa using HMZ.out)) (by simpa using HMI.out) (all_oneCell_toArray HM1.out) ?_; (rw [List.toList_toArray])) | fail)
      have HR9 : Hid ((W3.setCells (w.heap.size + 1) 0 M).rangeAt (w.heap.size + 1) 0 M) := (H4.out.1.sets M HMZ.out).range
      have HBF : Hid (Below w.heap.size w (W3.setCells (w.heap.size + 1) 0 M)) := below_cells (by omega) _ 0 _ H4.out.2.2.2
      refine bodyPost_ret (results_cell_slot (p := 2) (s := 3) (ty := 43) rfl _ (W3.setCells (w.heap.size + 1) 0 M) (w.heap.size + 1) M _ rfl HR9.out Tryz.underlying43 rfl HMI.out) rfl ?_
      rw [HRE.out]
      exact ⟨⟨ad, cd, none, 0, none, 0, none, 0⟩, by rw [HM.out]; rfl, ⟨own_weak (own_at H4.out.2.1 (w.heap.size + 1) 0 M (by omega)) (by omega), ownP_nil _ _, ownP_nil _ _, Own.nil _ _⟩, HBF.out⟩
    · have HRE : Hid (R = (102, zSg)) := by show _ = _; rw [← HR.out, if_neg (by simpa using h0), if_pos hk]
      clear h0
      have hk1 : (u.x.k != 1) = true := by rw [bne_iff_ne]; exact hk
      clear hk
      go_wp2_with (first | (refine wpList_alloc_R HZR.out rfl rfl ?_) | (refine wpList_store_mid rfl 32 (.tmp 4) (.tmp 9) rfl w2.heap.size 0 G.toArray rfl rfl HTZ.out (by simpa using HGL.out) (all_oneCell_toArray HG1.out) ?_; (obtain ⟨W3, hW3, hq⟩ := H3.out); (have H4 : Hid _ := hq); (rw [List.toList_toArray, ← hW3]); (clear hW3 hq H3 HTZ); (have g1 := H4.out.2.2.1.cell 1 (.int .i64 u.x.k) (by rw [HGE.out]; rfl))) | (refine wpList_build_Z HZ.out rfl rfl ?_) | (refine wpList_store_mid rfl 43 (.tmp 2) (.tmp 18) rfl (w.heap.size + 1) 0 Z.toArray rfl rfl (there_of H4.out.1 (by simp)) (by simpa using HZI.out) (all_oneCell_toArray HZ1.out) ?_; (rw [List.toList_toArray])) | fail)
      have HR9 : Hid ((W3.setCells (w.heap.size + 1) 0 Z).rangeAt (w.heap.size + 1) 0 Z) := (H4.out.1.sets Z rfl).range
      have HBF : Hid (Below w.heap.size w (W3.setCells (w.heap.size + 1) 0 Z)) := below_cells (by omega) _ 0 _ H4.out.2.2.2
      refine bodyPost_ret (results_cell_slot (p := 2) (s := 3) (ty := 43) rfl _ (W3.setCells (w.heap.size + 1) 0 Z) (w.heap.size + 1) Z _ rfl HR9.out Tryz.underlying43 rfl HZI.out) rfl ?_
      rw [HRE.out]
      exact ⟨⟨none, 0, none, 0, none, 0, none, 0⟩, by rw [HZ.out]; rfl, sgO_zero _ _, HBF.out⟩
  · have HRE : Hid (R = (z, zSg)) := by show _ = _; rw [← HR.out, if_pos h0]
    have hz0 : (z != 0) = true := by rw [bne_iff_ne]; exact h0
    clear h0
    go_wp2_with (first | (refine wpList_alloc_R HZR.out rfl rfl ?_) | (refine wpList_store_mid rfl 32 (.tmp 4) (.tmp 9) rfl w2.heap.size 0 G.toArray rfl rfl HTZ.out (by simpa using HGL.out) (all_oneCell_toArray HG1.out) ?_; (obtain ⟨W3, hW3, hq⟩ := H3.out); (have H4 : Hid _ := hq); (rw [List.toList_toArray, ← hW3]); (clear hW3 hq H3 HTZ)) | (refine wpList_build_Z HZ.out rfl rfl ?_) | (refine wpList_store_mid rfl 43 (.tmp 2) (.tmp 13) rfl (w.heap.size + 1) 0 Z.toArray rfl rfl (there_of H4.out.1 (by simp)) (by simpa using HZI.out) (all_oneCell_toArray HZ1.out) ?_; (rw [List.toList_toArray])) | fail)
    have HR9 : Hid ((W3.setCells (w.heap.size + 1) 0 Z).rangeAt (w.heap.size + 1) 0 Z) := (H4.out.1.sets Z rfl).range
    have HBF : Hid (Below w.heap.size w (W3.setCells (w.heap.size + 1) 0 Z)) := below_cells (by omega) _ 0 _ H4.out.2.2.2
    refine bodyPost_ret (results_cell_slot (p := 2) (s := 3) (ty := 43) rfl _ (W3.setCells (w.heap.size + 1) 0 Z) (w.heap.size + 1) Z _ rfl HR9.out Tryz.underlying43 rfl HZI.out) rfl ?_
    rw [HRE.out]
    exact ⟨⟨none, 0, none, 0, none, 0, none, 0⟩, by rw [HZ.out]; rfl, sgO_zero _ _, HBF.out⟩
end Go.Proofs.YtdnackjakfiffaaGreatDoor

/-
  SagaEnds ..: the reference's Same of a saga and itself, no outputs being there.
-/
namespace Go.Proofs.YtdnackjakfiffaaGreatDoor
open Go Go.RowKit
open Wb

theorem lists_nil (a b : Option Addr) (c d : Nat) (w : World) : Calls Tryz.prog 42 #[.slice a 0 c, .slice b 0 d] w fun e w' => e = .returned (.bool true) ∧ w = w' := by
  go_enter Tryz.func42, Tryz.ntmps42
  go_wp2
  go_loopw [5] (fun i wr => i = .int .i64 0 ∧ w = wr) (fun _ _ => 0)
  case atStart => exact ⟨rfl, rfl⟩
  case round =>
    obtain ⟨rfl, rfl⟩ := hrel
    go_wp2
    go_ret
    exact ⟨rfl, rfl⟩
set_option maxRecDepth 100000 in
set_option maxHeartbeats 4000000 in
theorem same_yes (S : Sg) (h h2 : SH) (w : World) (k : SgAt w S h) (k2 : SgAt w S h2) (ho : S.outs = []) (hu : S.und = []) : Calls Tryz.prog 19 #[sv S h, sv S h2] w fun e w' => e = .returned (.bool true) ∧ Below w.heap.size w w' := by
  have HA : Hid (∀ w', Below w.heap.size w w' → Calls Tryz.prog 41 #[.slice h.ai S.inp.length h.ci, .slice h2.ai S.inp.length h2.ci] w' fun e w'' => e = .returned (.bool true) ∧ Below w'.heap.size w' w'') := fun w' hb => by
    have e := ralike_any _ _ _ _ w' (k.inp.kept hb) (k2.inp.kept hb)
    rw [decide_eq_true rfl] at e
    exact e
  have HF : Hid (∀ w', Below w.heap.size w w' → Calls Tryz.prog 41 #[.slice h.af S.fail.length h.cf, .slice h2.af S.fail.length h2.cf] w' fun e w'' => e = .returned (.bool true) ∧ Below w'.heap.size w' w'') := fun w' hb => by
    have e := ralike_any _ _ _ _ w' (k.fail.kept hb) (k2.fail.kept hb)
    rw [decide_eq_true rfl] at e
    exact e
  clear k k2
  obtain ⟨D, hD, hL, hE⟩ := sv_letter S h
  obtain ⟨E, hD2, hL2, hE2⟩ := sv_letter S h2
  rw [hD, hD2]
  have HO : Hid (S.outs.length = 0) := by show _ = _; rw [ho]; rfl
  have HU : Hid (S.und.length = 0) := by show _ = _; rw [hu]; rfl
  have HE : Hid (D = scl S h) := hE
  have HE2 : Hid (E = scl S h2) := hE2
  have HX : Hid (∀ t t2, LB ((w.alloc (.cells D.toArray t)).alloc (.cells E.toArray t2)) w.heap.size t D ∧ LB ((w.alloc (.cells D.toArray t)).alloc (.cells E.toArray t2)) (w.heap.size + 1) t2 E ∧ Below w.heap.size w ((w.alloc (.cells D.toArray t)).alloc (.cells E.toArray t2))) := fun t t2 => lb_new2 w D E t t2
  clear hD hL hE hD2 hL2 hE2 ho hu

  have c0 := (HX.out 43 43).1.cell 0 (.int .i64 S.x.id) (by rw [HE.out]; rfl)
  have e0 := (HX.out 43 43).2.1.cell 0 (.int .i64 S.x.id) (by rw [HE2.out]; rfl)
  have c1 := (HX.out 43 43).1.cell 1 (.string S.nm) (by rw [HE.out]; rfl)
  have e1 := (HX.out 43 43).2.1.cell 1 (.string S.nm) (by rw [HE2.out]; rfl)
  have c2 := (HX.out 43 43).1.cell 2 (.int .i64 S.x.cnt) (by rw [HE.out]; rfl)
  have e2 := (HX.out 43 43).2.1.cell 2 (.int .i64 S.x.cnt) (by rw [HE2.out]; rfl)
  have c3 := (HX.out 43 43).1.cell 3 (.int .i64 S.x.piv) (by rw [HE.out]; rfl)
  have e3 := (HX.out 43 43).2.1.cell 3 (.int .i64 S.x.piv) (by rw [HE2.out]; rfl)
  have c4 := (HX.out 43 43).1.cell 4 (.int .i64 S.x.beg) (by rw [HE.out]; rfl)
  have e4 := (HX.out 43 43).2.1.cell 4 (.int .i64 S.x.beg) (by rw [HE2.out]; rfl)
  have c5 := (HX.out 43 43).1.cell 5 (.int .i64 S.x.la) (by rw [HE.out]; rfl)
  have e5 := (HX.out 43 43).2.1.cell 5 (.int .i64 S.x.la) (by rw [HE2.out]; rfl)
  have c6 := (HX.out 43 43).1.cell 6 (.slice h.ai S.inp.length h.ci) (by rw [HE.out]; rfl)
  have e6 := (HX.out 43 43).2.1.cell 6 (.slice h2.ai S.inp.length h2.ci) (by rw [HE2.out]; rfl)
  have c7 := (HX.out 43 43).1.cell 7 (.int .i64 S.x.ph) (by rw [HE.out]; rfl)
  have e7 := (HX.out 43 43).2.1.cell 7 (.int .i64 S.x.ph) (by rw [HE2.out]; rfl)
  have c8 := (HX.out 43 43).1.cell 8 (.int .i64 S.x.nx) (by rw [HE.out]; rfl)
  have e8 := (HX.out 43 43).2.1.cell 8 (.int .i64 S.x.nx) (by rw [HE2.out]; rfl)
  have c9 := (HX.out 43 43).1.cell 9 (.bool S.x.fl) (by rw [HE.out]; rfl)
  have e9 := (HX.out 43 43).2.1.cell 9 (.bool S.x.fl) (by rw [HE2.out]; rfl)
  have c10 := (HX.out 43 43).1.cell 10 (.int .i64 S.x.tr) (by rw [HE.out]; rfl)
  have e10 := (HX.out 43 43).2.1.cell 10 (.int .i64 S.x.tr) (by rw [HE2.out]; rfl)
  have c13 := (HX.out 43 43).1.cell 13 (.int .i64 S.x.fs) (by rw [HE.out]; rfl)
  have e13 := (HX.out 43 43).2.1.cell 13 (.int .i64 S.x.fs) (by rw [HE2.out]; rfl)
  have c14 := (HX.out 43 43).1.cell 14 (.int .i64 S.x.fc) (by rw [HE.out]; rfl)
  have e14 := (HX.out 43 43).2.1.cell 14 (.int .i64 S.x.fc) (by rw [HE2.out]; rfl)
  have d0 : (S.x.id != S.x.id) = false := by simp
  have d2 : (S.x.cnt != S.x.cnt) = false := by simp
  have d3 : (S.x.piv != S.x.piv) = false := by simp
  have d4 : (S.x.beg != S.x.beg) = false := by simp
  have d5 : (S.x.la != S.x.la) = false := by simp
  have d7 : (S.x.ph != S.x.ph) = false := by simp
  have d8 : (S.x.nx != S.x.nx) = false := by simp
  have d9 : (S.x.fl != S.x.fl) = false := by simp
  have d10 : (S.x.tr != S.x.tr) = false := by simp
  have d13 : (S.x.fs != S.x.fs) = false := by simp
  have d14 : (S.x.fc != S.x.fc) = false := by simp
  go_enter Tryz.func19, Tryz.ntmps19
  go_wp2_with fail
  refine (HA.out _ (HX.out _ _).2.2).mono ?_
  rintro e w1 ⟨rfl, b1⟩
  have H1 : Hid (LB w1 w.heap.size 43 D ∧ LB w1 (w.heap.size + 1) 43 E ∧ Below w.heap.size w w1) := ⟨(HX.out _ _).1.kept b1, (HX.out _ _).2.1.kept b1, andThen (HX.out _ _).2.2 b1⟩
  clear b1 HX HA c0 e0 c1 e1 c2 e2 c3 e3 c4 e4 c5 e5 c6 e6 c7 e7 c8 e8 c9 e9 c10 e10 c13 e13 c14 e14 d0 d2 d3 d4 d5 d7 d8 d9 d10 d13 d14
  have c15 := H1.out.1.cell 15 (.slice h.af S.fail.length h.cf) (by rw [HE.out]; rfl)
  have e15 := H1.out.2.1.cell 15 (.slice h2.af S.fail.length h2.cf) (by rw [HE2.out]; rfl)
  go_wp2_with fail
  refine (HF.out _ H1.out.2.2).mono ?_
  rintro e w2 ⟨rfl, b2⟩
  have H2 : Hid (LB w2 w.heap.size 43 D ∧ LB w2 (w.heap.size + 1) 43 E ∧ Below w.heap.size w w2) := ⟨H1.out.1.kept b2, H1.out.2.1.kept b2, andThen H1.out.2.2 b2⟩
  clear b2 H1 HF c15 e15
  have c11 := H2.out.1.cell 11 (.slice h.ao 0 h.co) (by rw [HE.out, ← HO.out]; rfl)
  have e11 := H2.out.2.1.cell 11 (.slice h2.ao 0 h2.co) (by rw [HE2.out, ← HO.out]; rfl)
  have c12 := H2.out.1.cell 12 (.slice h.au 0 h.cu) (by rw [HE.out, ← HU.out]; rfl)
  have e12 := H2.out.2.1.cell 12 (.slice h2.au 0 h2.cu) (by rw [HE2.out, ← HU.out]; rfl)
  go_wp2_with fail
  refine (lists_nil _ _ _ _ _).mono ?_
  rintro e _ ⟨rfl, rfl⟩
  go_wp2_with fail
  refine (lists_nil _ _ _ _ _).mono ?_
  rintro e _ ⟨rfl, rfl⟩
  go_wp2_with fail
  go_ret
  exact ⟨rfl, H2.out.2.2⟩
end Go.Proofs.YtdnackjakfiffaaGreatDoor

/-
  SagaTold: the reference's Same of a saga and itself, with its outputs.
-/
namespace Go.Proofs.YtdnackjakfiffaaGreatDoor
open Go Go.RowKit
open Wb

set_option maxRecDepth 100000 in
set_option maxHeartbeats 2000000 in
theorem lists_yes (v v2 : Value) (ls : List (List Nat)) (w : World) (k : Ps w v ls) (k2 : Ps w v2 ls) : Calls Tryz.prog 42 #[v, v2] w fun e w' => e = .returned (.bool true) ∧ Below w.heap.size w w' := by
  have HC : Hid (∀ w', Below w.heap.size w w' → Ps w' v ls ∧ Ps w' v2 ls) := fun w' hb => ⟨k.kept hb, k2.kept hb⟩
  obtain ⟨ao, cap, rfl, hm, _⟩ := k.shape
  obtain ⟨ao2, cap2, rfl, _, _⟩ := k2.shape
  have HP : Hid (∀ w', Below w.heap.size w w' → ∀ j (hj : j < ls.length), ∃ b off b2 off2 d d2, ao = some ⟨b, off, none⟩ ∧ ao2 = some ⟨b2, off2, none⟩ ∧ w'.cell? ⟨b, off + j, none⟩ = some d ∧ w'.cell? ⟨b2, off2 + j, none⟩ = some d2 ∧ Bs w' d ls[j] ∧ Bs w' d2 ls[j]) := fun w' hb j hj => by
    have hne : ls ≠ [] := by rintro rfl; simp at hj
    obtain ⟨a1, p1, e1, _, h1⟩ := (HC.out w' hb).1.shape
    obtain ⟨a2, p2, e2, _, h2⟩ := (HC.out w' hb).2.shape
    simp only [Value.slice.injEq] at e1 e2
    obtain ⟨rfl, _, rfl⟩ := e1
    obtain ⟨rfl, _, rfl⟩ := e2
    obtain ⟨b, off, r1, r2⟩ := h1 hne
    obtain ⟨b2, off2, s1, s2⟩ := h2 hne
    obtain ⟨d, q1, q2⟩ := r2 j hj
    obtain ⟨d2, q3, q4⟩ := s2 j hj
    exact ⟨b, off, b2, off2, d, d2, r1, s1, q1, q3, q2, q4⟩
  have dl : ((ls.length : Int) != (ls.length : Int)) = false := by simp
  unfold maxLen at hm
  clear k k2 HC
  go_enter Tryz.func42, Tryz.ntmps42
  go_wp2
  clear dl
  go_loopw [5] (fun i wr => ∃ n : Nat, n ≤ ls.length ∧ i = .int .i64 (n : Int) ∧ Below w.heap.size w wr) (fun i _ => ls.length - (intOf i).toNat)
  case atStart => exact ⟨0, Nat.zero_le _, rfl, Below.refl _ _⟩
  case round =>
    obtain ⟨n, hn, rfl, hb⟩ := hrel
    by_cases hlt : n < ls.length
    · obtain ⟨b, off, b2, off2, d, d2, rfl, rfl, q1, q3, q2, q4⟩ := HP.out _ (Below.drew hb) n hlt
      obtain ⟨l, hl⟩ : ∃ l, ls[n] = l := ⟨_, rfl⟩
      rw [hl] at q2 q4
      have HQ : Hid (Bs wr.drew d l ∧ Bs wr.drew d2 l ∧ Below w.heap.size w wr.drew) := ⟨q2, q4, Below.drew hb⟩
      have HS : Hid (wr.drew.cell? ⟨b, off + n, none⟩ = some d ∧ wr.drew.cell? ⟨b2, off2 + n, none⟩ = some d2) := ⟨q1, q3⟩
      have HRA : Hid (∀ w', Bs w' d l → Bs w' d2 l → Calls Tryz.prog 41 #[d, d2] w' fun e w'' => e = .returned (.bool true) ∧ Below w'.heap.size w' w'') := fun w' h1 h2 => by
        have e := ralike_any _ _ _ _ w' h1 h2
        rw [decide_eq_true rfl] at e
        exact e
      obtain ⟨ax, cx, rfl, _⟩ := q2.shape
      obtain ⟨ay, cy, rfl, _⟩ := q4.shape
      clear q1 q2 q3 q4 hl hb HP
      go_wp2
      refine wp_region_held_drew (S := fun w' : World => w'.cell? ⟨b, off + n, none⟩ = some (.slice ax l.length cx) ∧ w'.cell? ⟨b2, off2 + n, none⟩ = some (.slice ay l.length cy)) (by kernel_rfl) HS.out (fun hH => ?_)
      generalize wr.drew = V1 at *
      refine wpAnyH_take (i := 0) (v := ?v1) rfl (by kernel_rfl) (by kernel_rfl) (by kernel_rfl) (fun _ _ _ h => h) (Or.inl ⟨by rfl, ?hy1⟩) hH ?rest1
      case hy1 => intro w' hSw; (try dsimp only at hSw); go_simp; all_goals rfl
      simp only [Act.put, List.setIfInBounds_toArray, List.set_cons_zero, List.set_cons_succ, List.getElem_toArray, List.getElem_cons_zero]
      refine wpAnyH_take (i := 1) (v := ?v2) rfl (by kernel_rfl) (by kernel_rfl) (by kernel_rfl) (fun _ _ _ h => h) (Or.inl ⟨by rfl, ?hy2⟩) hH ?rest2
      case hy2 => intro w' hSw; (try dsimp only at hSw); go_simp; all_goals rfl
      simp only [Act.put, List.setIfInBounds_toArray, List.set_cons_zero, List.set_cons_succ, List.getElem_toArray, List.getElem_cons_zero, List.getElem_cons_succ]
      refine wpAnyH_take (i := 2) (v := ?v3) rfl (by kernel_rfl) (by kernel_rfl) (by kernel_rfl) (fun _ _ _ h => h) (Or.inl ⟨by rfl, ?hy3⟩) hH ?rest3
      case hy3 => intro w' hSw; (try dsimp only at hSw); go_simp; all_goals rfl
      simp only [Act.put, List.setIfInBounds_toArray, List.set_cons_zero, List.set_cons_succ, List.getElem_toArray, List.getElem_cons_zero, List.getElem_cons_succ]
      refine wpAnyH_take (i := 3) (v := ?v4) rfl (by kernel_rfl) (by kernel_rfl) (by kernel_rfl) (fun _ _ _ h => h) (Or.inl ⟨by rfl, ?hy4⟩) hH ?rest4
      case hy4 => intro w' hSw; (try dsimp only at hSw); go_simp; all_goals rfl
      simp only [Act.put, List.setIfInBounds_toArray, List.set_cons_zero, List.set_cons_succ, List.getElem_toArray, List.getElem_cons_zero, List.getElem_cons_succ]
      refine wpAnyH_take (i := 4) (v := ?v5) rfl (by kernel_rfl) (by kernel_rfl) (by kernel_rfl) (fun _ _ _ h => h) (Or.inl ⟨by rfl, ?hy5⟩) hH ?rest5
      case hy5 => intro w' hSw; (try dsimp only at hSw); go_simp; all_goals rfl
      simp only [Act.put, List.setIfInBounds_toArray, List.set_cons_zero, List.set_cons_succ, List.getElem_toArray, List.getElem_cons_zero, List.getElem_cons_succ]
      refine wpAnyH_take (i := 5) (v := ?v6) rfl (by kernel_rfl) (by kernel_rfl) (by kernel_rfl) (fun _ _ _ h => h) (Or.inl ⟨by rfl, ?hy6⟩) hH ?rest6
      case hy6 => intro w' hSw; (try dsimp only at hSw); go_simp; all_goals rfl
      simp only [Act.put, List.setIfInBounds_toArray, List.set_cons_zero, List.set_cons_succ, List.getElem_toArray, List.getElem_cons_zero, List.getElem_cons_succ]
      refine wpAnyH_take (i := 6) (v := ?v7) rfl (by kernel_rfl) (by kernel_rfl) (by kernel_rfl) (fun _ _ _ h => h) (Or.inl ⟨by rfl, ?hy7⟩) hH ?rest7
      case hy7 => intro w' hSw; (try dsimp only at hSw); go_simp; all_goals rfl
      simp only [Act.put, List.setIfInBounds_toArray, List.set_cons_zero, List.set_cons_succ, List.getElem_toArray, List.getElem_cons_zero, List.getElem_cons_succ]
      refine wpAnyH_take (i := 7) (v := ?v8) rfl (by kernel_rfl) (by kernel_rfl) (by kernel_rfl) (fun _ _ _ h => h) (Or.inl ⟨by rfl, ?hy8⟩) hH ?rest8
      case hy8 => intro w' hSw; (try dsimp only at hSw); go_simp; all_goals rfl
      simp only [Act.put, List.setIfInBounds_toArray, List.set_cons_zero, List.set_cons_succ, List.getElem_toArray, List.getElem_cons_zero, List.getElem_cons_succ]
      refine wpAnyH_ready (rs := [8]) (by kernel_rfl) (by simp) ?_
      refine AllReadyH.cons rfl (fun K hK => ?_) AllReadyH.nil
      go_simp
      refine (HRA.out _ HQ.out.1 HQ.out.2.1).mono ?_
      rintro e w3 ⟨rfl, b3⟩
      have H3 : Hid (Below w.heap.size w w3) := andThen HQ.out.2.2 b3
      refine hK.out _ _ ⟨(b3.cell (World.block_lt_of_cell? _ _ HS.out.1)).trans HS.out.1, (b3.cell (World.block_lt_of_cell? _ _ HS.out.2)).trans HS.out.2⟩ (fun hH2 => ?_)
      clear hK K hH b3
      have hH := hH2
      clear hH2
      refine wpAnyH_take (i := 9) (v := ?v9) rfl (by kernel_rfl) (by kernel_rfl) (by kernel_rfl) (fun _ _ _ h => h) (Or.inl ⟨by rfl, ?hy9⟩) hH ?rest9
      case hy9 => intro w' hSw; (try dsimp only at hSw); go_simp; all_goals rfl
      simp only [Act.put, List.setIfInBounds_toArray, List.set_cons_zero, List.set_cons_succ, List.getElem_toArray, List.getElem_cons_zero, List.getElem_cons_succ]
      refine wpAnyH_done (by kernel_rfl) ?_ _
      clear hH
      go_wp2
      go_roundw
      case rel => exact ⟨n + 1, by omega, by go_num, H3.out⟩
      case measure => simp [intOf]; omega
    · obtain rfl : n = ls.length := by omega
      go_wp2
      go_ret
      exact ⟨rfl, hb⟩
set_option maxRecDepth 100000 in
set_option maxHeartbeats 4000000 in
theorem same_any (S : Sg) (h h2 : SH) (w : World) (k : SgAt w S h) (k2 : SgAt w S h2) : Calls Tryz.prog 19 #[sv S h, sv S h2] w fun e w' => e = .returned (.bool true) ∧ Below w.heap.size w w' := by
  have HA : Hid (∀ w', Below w.heap.size w w' → Calls Tryz.prog 41 #[.slice h.ai S.inp.length h.ci, .slice h2.ai S.inp.length h2.ci] w' fun e w'' => e = .returned (.bool true) ∧ Below w'.heap.size w' w'') := fun w' hb => by
    have e := ralike_any _ _ _ _ w' (k.inp.kept hb) (k2.inp.kept hb)
    rw [decide_eq_true rfl] at e
    exact e
  have HF : Hid (∀ w', Below w.heap.size w w' → Calls Tryz.prog 41 #[.slice h.af S.fail.length h.cf, .slice h2.af S.fail.length h2.cf] w' fun e w'' => e = .returned (.bool true) ∧ Below w'.heap.size w' w'') := fun w' hb => by
    have e := ralike_any _ _ _ _ w' (k.fail.kept hb) (k2.fail.kept hb)
    rw [decide_eq_true rfl] at e
    exact e
  have HLO : Hid (∀ w', Below w.heap.size w w' → Calls Tryz.prog 42 #[.slice h.ao S.outs.length h.co, .slice h2.ao S.outs.length h2.co] w' fun e w'' => e = .returned (.bool true) ∧ Below w'.heap.size w' w'') := fun w' hb => lists_yes _ _ _ w' (k.outs.kept hb) (k2.outs.kept hb)
  have HLU : Hid (∀ w', Below w.heap.size w w' → Calls Tryz.prog 42 #[.slice h.au S.und.length h.cu, .slice h2.au S.und.length h2.cu] w' fun e w'' => e = .returned (.bool true) ∧ Below w'.heap.size w' w'') := fun w' hb => lists_yes _ _ _ w' (k.und.kept hb) (k2.und.kept hb)
  clear k k2
  obtain ⟨D, hD, hL, hE⟩ := sv_letter S h
  obtain ⟨E, hD2, hL2, hE2⟩ := sv_letter S h2
  rw [hD, hD2]
  have HE : Hid (D = scl S h) := hE
  have HE2 : Hid (E = scl S h2) := hE2
  have HX : Hid (∀ t t2, LB ((w.alloc (.cells D.toArray t)).alloc (.cells E.toArray t2)) w.heap.size t D ∧ LB ((w.alloc (.cells D.toArray t)).alloc (.cells E.toArray t2)) (w.heap.size + 1) t2 E ∧ Below w.heap.size w ((w.alloc (.cells D.toArray t)).alloc (.cells E.toArray t2))) := fun t t2 => lb_new2 w D E t t2
  clear hD hL hE hD2 hL2 hE2

  have c0 := (HX.out 43 43).1.cell 0 (.int .i64 S.x.id) (by rw [HE.out]; rfl)
  have e0 := (HX.out 43 43).2.1.cell 0 (.int .i64 S.x.id) (by rw [HE2.out]; rfl)
  have c1 := (HX.out 43 43).1.cell 1 (.string S.nm) (by rw [HE.out]; rfl)
  have e1 := (HX.out 43 43).2.1.cell 1 (.string S.nm) (by rw [HE2.out]; rfl)
  have c2 := (HX.out 43 43).1.cell 2 (.int .i64 S.x.cnt) (by rw [HE.out]; rfl)
  have e2 := (HX.out 43 43).2.1.cell 2 (.int .i64 S.x.cnt) (by rw [HE2.out]; rfl)
  have c3 := (HX.out 43 43).1.cell 3 (.int .i64 S.x.piv) (by rw [HE.out]; rfl)
  have e3 := (HX.out 43 43).2.1.cell 3 (.int .i64 S.x.piv) (by rw [HE2.out]; rfl)
  have c4 := (HX.out 43 43).1.cell 4 (.int .i64 S.x.beg) (by rw [HE.out]; rfl)
  have e4 := (HX.out 43 43).2.1.cell 4 (.int .i64 S.x.beg) (by rw [HE2.out]; rfl)
  have c5 := (HX.out 43 43).1.cell 5 (.int .i64 S.x.la) (by rw [HE.out]; rfl)
  have e5 := (HX.out 43 43).2.1.cell 5 (.int .i64 S.x.la) (by rw [HE2.out]; rfl)
  have c6 := (HX.out 43 43).1.cell 6 (.slice h.ai S.inp.length h.ci) (by rw [HE.out]; rfl)
  have e6 := (HX.out 43 43).2.1.cell 6 (.slice h2.ai S.inp.length h2.ci) (by rw [HE2.out]; rfl)
  have c7 := (HX.out 43 43).1.cell 7 (.int .i64 S.x.ph) (by rw [HE.out]; rfl)
  have e7 := (HX.out 43 43).2.1.cell 7 (.int .i64 S.x.ph) (by rw [HE2.out]; rfl)
  have c8 := (HX.out 43 43).1.cell 8 (.int .i64 S.x.nx) (by rw [HE.out]; rfl)
  have e8 := (HX.out 43 43).2.1.cell 8 (.int .i64 S.x.nx) (by rw [HE2.out]; rfl)
  have c9 := (HX.out 43 43).1.cell 9 (.bool S.x.fl) (by rw [HE.out]; rfl)
  have e9 := (HX.out 43 43).2.1.cell 9 (.bool S.x.fl) (by rw [HE2.out]; rfl)
  have c10 := (HX.out 43 43).1.cell 10 (.int .i64 S.x.tr) (by rw [HE.out]; rfl)
  have e10 := (HX.out 43 43).2.1.cell 10 (.int .i64 S.x.tr) (by rw [HE2.out]; rfl)
  have c13 := (HX.out 43 43).1.cell 13 (.int .i64 S.x.fs) (by rw [HE.out]; rfl)
  have e13 := (HX.out 43 43).2.1.cell 13 (.int .i64 S.x.fs) (by rw [HE2.out]; rfl)
  have c14 := (HX.out 43 43).1.cell 14 (.int .i64 S.x.fc) (by rw [HE.out]; rfl)
  have e14 := (HX.out 43 43).2.1.cell 14 (.int .i64 S.x.fc) (by rw [HE2.out]; rfl)
  have d0 : (S.x.id != S.x.id) = false := by simp
  have d2 : (S.x.cnt != S.x.cnt) = false := by simp
  have d3 : (S.x.piv != S.x.piv) = false := by simp
  have d4 : (S.x.beg != S.x.beg) = false := by simp
  have d5 : (S.x.la != S.x.la) = false := by simp
  have d7 : (S.x.ph != S.x.ph) = false := by simp
  have d8 : (S.x.nx != S.x.nx) = false := by simp
  have d9 : (S.x.fl != S.x.fl) = false := by simp
  have d10 : (S.x.tr != S.x.tr) = false := by simp
  have d13 : (S.x.fs != S.x.fs) = false := by simp
  have d14 : (S.x.fc != S.x.fc) = false := by simp
  go_enter Tryz.func19, Tryz.ntmps19
  go_wp2_with fail
  refine (HA.out _ (HX.out _ _).2.2).mono ?_
  rintro e w1 ⟨rfl, b1⟩
  have H1 : Hid (LB w1 w.heap.size 43 D ∧ LB w1 (w.heap.size + 1) 43 E ∧ Below w.heap.size w w1) := ⟨(HX.out _ _).1.kept b1, (HX.out _ _).2.1.kept b1, andThen (HX.out _ _).2.2 b1⟩
  clear b1 HX HA c0 e0 c1 e1 c2 e2 c3 e3 c4 e4 c5 e5 c6 e6 c7 e7 c8 e8 c9 e9 c10 e10 c13 e13 c14 e14 d0 d2 d3 d4 d5 d7 d8 d9 d10 d13 d14
  have c15 := H1.out.1.cell 15 (.slice h.af S.fail.length h.cf) (by rw [HE.out]; rfl)
  have e15 := H1.out.2.1.cell 15 (.slice h2.af S.fail.length h2.cf) (by rw [HE2.out]; rfl)
  go_wp2_with fail
  refine (HF.out _ H1.out.2.2).mono ?_
  rintro e w2 ⟨rfl, b2⟩
  have H2 : Hid (LB w2 w.heap.size 43 D ∧ LB w2 (w.heap.size + 1) 43 E ∧ Below w.heap.size w w2) := ⟨H1.out.1.kept b2, H1.out.2.1.kept b2, andThen H1.out.2.2 b2⟩
  clear b2 H1 HF c15 e15
  have c11 := H2.out.1.cell 11 (.slice h.ao S.outs.length h.co) (by rw [HE.out]; rfl)
  have e11 := H2.out.2.1.cell 11 (.slice h2.ao S.outs.length h2.co) (by rw [HE2.out]; rfl)
  go_wp2_with fail
  refine (HLO.out _ H2.out.2.2).mono ?_
  rintro e w3 ⟨rfl, b3⟩
  have H3 : Hid (LB w3 w.heap.size 43 D ∧ LB w3 (w.heap.size + 1) 43 E ∧ Below w.heap.size w w3) := ⟨H2.out.1.kept b3, H2.out.2.1.kept b3, andThen H2.out.2.2 b3⟩
  clear b3 H2 HLO c11 e11
  have c12 := H3.out.1.cell 12 (.slice h.au S.und.length h.cu) (by rw [HE.out]; rfl)
  have e12 := H3.out.2.1.cell 12 (.slice h2.au S.und.length h2.cu) (by rw [HE2.out]; rfl)
  go_wp2_with fail
  refine (HLU.out _ H3.out.2.2).mono ?_
  rintro e w4 ⟨rfl, b4⟩
  have H4 : Hid (Below w.heap.size w w4) := andThen H3.out.2.2 b4
  clear b4 H3 c12 e12
  go_wp2_with fail
  go_ret
  exact ⟨rfl, H4.out⟩
end Go.Proofs.YtdnackjakfiffaaGreatDoor
