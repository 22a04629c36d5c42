import Derived.Test.YtgjlkkikgkbamaaDoorQSH
/-
  SagaMay: the walk.
-/
namespace Go.Proofs.YtgjlkkikgkbamaaDoor
open Go Go.RowKit
open Wb

theorem one_box (w : World) (t : TypeId) (Z D : List Value) (hl : D.length = Z.length) : LB ((w.alloc (.cells Z.toArray t)).setCells w.heap.size 0 D) w.heap.size t D ∧ Below w.heap.size w ((w.alloc (.cells Z.toArray t)).setCells w.heap.size 0 D) := ⟨(lb_new w Z t).sets D hl, below_cells (Nat.le_refl _) _ 0 _ (up0 _ _)⟩
theorem two_boxes (w : World) (t t2 : TypeId) (Z1 Z2 G D : List Value) (h1 : G.length = Z1.length) (h2 : D.length = Z2.length) : LB ((((w.alloc (.cells Z1.toArray t)).alloc (.cells Z2.toArray t2)).setCells w.heap.size 0 G).setCells (w.heap.size + 1) 0 D) w.heap.size t G ∧ LB ((((w.alloc (.cells Z1.toArray t)).alloc (.cells Z2.toArray t2)).setCells w.heap.size 0 G).setCells (w.heap.size + 1) 0 D) (w.heap.size + 1) t2 D ∧ Below w.heap.size w ((((w.alloc (.cells Z1.toArray t)).alloc (.cells Z2.toArray t2)).setCells w.heap.size 0 G).setCells (w.heap.size + 1) 0 D) := by
  obtain ⟨a, b, c⟩ := lb_new2 w Z1 Z2 t t2
  exact ⟨(a.sets G h1).others _ _ _ (by omega), (b.others _ _ _ (by omega)).sets D h2, below_cells (by omega) _ 0 _ (below_cells (Nat.le_refl _) _ 0 _ c)⟩
theorem rcE_len (x : Nums) (nm : ByteArray) (d : Value) : (rcE x nm d).length = 12 := rfl
theorem scl_len (S : Sg) (h : SH) : (scl S h).length = 16 := rfl
theorem sg1_good : chkS sg1 = true ∧ allowedP sg1 = [2] := by
  have hn : (Text.Tx.nmA buy).1 = 0 := by decide +kernel
  have hc : chkS sg1 = true := by
    rw [chkS_iff]
    refine ⟨⟨hn, ?_⟩, .inl ?_⟩
    · simp [sg1, shortP]
    · simp [Gd1, sg1]
  refine ⟨hc, ?_⟩
  rw [allowed_eq sg1 hc rfl]
  rfl
set_option maxRecDepth 100000 in
set_option maxHeartbeats 8000000 in
theorem sagaMay_walk (S : Sg) (h : SH) (r : Rec) (d : Value) (w : World) (k : SgAt w S h) (hb : Bs w d r.l) (hT : STabs w) (hnm : S.nm.size ≤ 140737488355000) (hnm2 : r.nm.size ≤ 140737488355000) (hf : r.x.fit) :
    Calls Tryd.prog 4 #[sv S h, rv r.x r.nm d] w fun e w' => e = .returned (.bool true) ∧ Below w.heap.size w w' := by
  have HA1 : Hid (∀ (h1 : SH) (w' : World), Below w.heap.size w w' → SgAt w' sg1 h1 → Calls Tryd.prog 14 #[sv sg1 h1] w' fun e w'' => ∃ v, e = .returned v ∧ Fld.RoI w'.heap.size w'' v [2] ∧ Below w'.heap.size w' w'') := fun h1 w' hb' k' => by
    have e := allowed_any sg1 h1 w' k' (hT.kept hb').e.tabs.lets (hT.kept hb').k (by decide)
    rw [sg1_good.2] at e
    exact e
  have HA2 : ∀ w', Below w.heap.size w w' → Calls Tryd.prog 14 #[sv S h] w' fun e w'' => ∃ v, e = .returned v ∧ Fld.RoI w'.heap.size w'' v (allowedP S) ∧ Below w'.heap.size w' w'' := fun w' hb' => allowed_any S h w' (k.kept hb') (hT.kept hb').e.tabs.lets (hT.kept hb').k hnm
  have HAP : ∀ w', Below w.heap.size w w' → Calls Tryd.prog 9 #[sv S h, rv r.x r.nm d] w' fun e w'' => ApPost w' (applyP S r) e w'' := fun w' hb' => apply_any S h r d w' (k.kept hb') (hb.kept hb') (hT.kept hb') hnm hnm2 hf
  have HMAY : Hid ((applyP S r).1 = 0 → (allowedP S).contains r.x.k = true) := fun h0 => by
    unfold applyP at h0
    cases hc : chkS S with
    | false => rw [hc, if_pos rfl] at h0; simp at h0
    | true =>
      rw [hc, if_neg (by simp)] at h0
      by_cases h1 : (upP 3 r).1 = 0
      · rw [if_neg (by simpa using h1)] at h0
        by_cases h2 : refP S.x (upP 3 r).2.x = 0
        · obtain ⟨hv, _, hk, _⟩ := up3 r hb.good h1
          have := ref_may S (upP 3 r).2 hc hv h2
          rw [hk] at this
          exact List.contains_iff_mem.2 this
        · rw [if_pos h2] at h0; exact absurd h0 h2
      · rw [if_pos h1] at h0; exact absurd h0 h1
  clear k hb hT hnm hnm2 hf
  obtain ⟨z, hz⟩ : ∃ z, (applyP S r).1 = z := ⟨_, rfl⟩
  obtain ⟨S', hS'⟩ : ∃ S', (applyP S r).2 = S' := ⟨_, rfl⟩
  have HAP2 : ∀ w', Below w.heap.size w w' → Calls Tryd.prog 9 #[sv S h, rv r.x r.nm d] w' fun e w'' => ∃ h', e = .returned (.tuple #[sv S' h', .int .i64 z]) ∧ Below w'.heap.size w' w'' := fun w' hb' => (HAP w' hb').mono fun e w'' ⟨h', he, _, hb''⟩ => ⟨h', by rw [he, hS', hz], hb''⟩
  rw [hz] at HMAY
  clear HAP hz hS'
  have HSM := allowed_small S
  obtain ⟨l, hl⟩ : ∃ l, allowedP S = l := ⟨_, rfl⟩
  rw [hl] at HA2 HMAY HSM
  clear hl
  obtain ⟨Z, hZ⟩ : ∃ Z, Z = zcl := ⟨_, rfl⟩
  obtain ⟨ZR, hZR⟩ : ∃ ZR, ZR = zrl := ⟨_, rfl⟩
  have HZ : Hid (Z = zcl) := hZ
  have HZR : Hid (ZR = zrl) := hZR
  have HZL : Hid (Z.length = 16) := by show _ = _; rw [hZ]; rfl
  have HZRL : Hid (ZR.length = 12) := by show _ = _; rw [hZR]; rfl
  obtain ⟨D, hD, hL, hE⟩ := sv_letter S h
  obtain ⟨E, hD2, hL2, hE2⟩ := rv_letter r.x r.nm d
  rw [hD, hD2]
  rw [hD] at HA2
  rw [hD, hD2] at HAP2
  have HAL : Hid _ := HA2
  have HAP : Hid _ := HAP2
  have HL : Hid _ := hL
  have HL2 : Hid _ := hL2
  have HE2 : Hid (E = rcE r.x r.nm d) := hE2
  have HX : Hid (∀ t t2, LB ((w.alloc (.cells D.toArray t)).alloc (.cells E.toArray t2)) w.heap.size t D ∧ LB ((w.alloc (.cells D.toArray t)).alloc (.cells E.toArray t2)) (w.heap.size + 1) t2 E ∧ Below w.heap.size w ((w.alloc (.cells D.toArray t)).alloc (.cells E.toArray t2))) := fun t t2 => lb_new2 w D E t t2
  clear hZ hZR hD hL hE hD2 hL2 hE2 HA2 HAP2
  go_enter Tryd.func4, Tryd.ntmps4
  go_wp2_with fail
  refine (first_any _).mono ?_
  rintro e w1 ⟨a1, c1, h1, rfl, bs1, at1, b1⟩
  have H1 : Hid (LB w1 w.heap.size 28 D ∧ LB w1 (w.heap.size + 1) 25 E ∧ SgAt w1 sg1 h1 ∧ Below w.heap.size w w1) := ⟨(HX.out _ _).1.kept b1, (HX.out _ _).2.1.kept b1, at1, andThen (HX.out _ _).2.2 b1⟩
  clear b1 at1 bs1 HX
  obtain ⟨G1, hG1, hGL, hGE⟩ := rv_letter rec1.x rec1.nm (.slice a1 rec1.l.length c1)
  obtain ⟨D1, hD1, hDL, hDE⟩ := sv_letter sg1 h1
  rw [hG1, hD1]
  have HA3 : Hid (∀ w', Below w.heap.size w w' → SgAt w' sg1 h1 → Calls Tryd.prog 14 #[.agg D1.toArray] w' fun e w'' => ∃ v, e = .returned v ∧ Fld.RoI w'.heap.size w'' v [2] ∧ Below w'.heap.size w' w'') := fun w' hb' k' => by
    have e := HA1.out h1 w' hb' k'
    rw [hD1] at e
    exact e
  have HGL : Hid _ := hGL
  have HDL : Hid _ := hDL
  have HG1 : Hid (∀ v ∈ G1, v.oneCell' = true) := by show ∀ v ∈ G1, _; rw [hGE]; exact rcE_one _ _ _ rfl
  have HD1 : Hid (∀ v ∈ D1, v.oneCell' = true) := by show ∀ v ∈ D1, _; rw [hDE]; exact scl_one _ _
  have HGZ : Hid (G1.length = ZR.length) := by show _ = _; rw [hGE, HZRL.out]; rfl
  have HDZ : Hid (D1.length = Z.length) := by show _ = _; rw [hDE, HZL.out]; rfl
  have HT1 : Hid (((w1.alloc (.cells ZR.toArray 25)).alloc (.cells Z.toArray 28)).there w1.heap.size 0 G1.toArray.size) := there_of (lb_new2 w1 ZR Z _ _).1 (by simpa using HGZ.out)
  have HT2 : Hid ((((w1.alloc (.cells ZR.toArray 25)).alloc (.cells Z.toArray 28)).setCells w1.heap.size 0 G1).there (w1.heap.size + 1) 0 D1.toArray.size) := there_of ((lb_new2 w1 ZR Z _ _).2.1.others _ _ _ (by omega)) (by simpa using HDZ.out)
  have H2 : Hid (∃ W2, W2 = (((w1.alloc (.cells ZR.toArray 25)).alloc (.cells Z.toArray 28)).setCells w1.heap.size 0 G1).setCells (w1.heap.size + 1) 0 D1 ∧ LB W2 w.heap.size 28 D ∧ LB W2 (w.heap.size + 1) 25 E ∧ LB W2 (w1.heap.size + 1) 28 D1 ∧ SgAt W2 sg1 h1 ∧ Below w.heap.size w W2) := by
    obtain ⟨_, q2, q3⟩ := two_boxes w1 25 28 ZR Z G1 D1 HGZ.out HDZ.out
    exact ⟨_, rfl, H1.out.1.kept q3, H1.out.2.1.kept q3, q2, H1.out.2.2.1.kept q3, andThen H1.out.2.2.2 q3⟩
  clear hG1 hGL hGE hD1 hDL hDE HA1 H1
  go_wp2_with (first | (refine wpList_alloc_R HZR.out rfl rfl ?_) | (refine wpList_alloc_Z HZ.out rfl rfl ?_; (try simp only [heap_one])) | (refine wpList_store_mid rfl 25 (.tmp 5) (.tmp 12) rfl w1.heap.size 0 G1.toArray rfl rfl HT1.out (by simpa using HGL.out) (all_oneCell_toArray HG1.out) ?_; (rw [List.toList_toArray])) | (refine wpList_store_mid rfl 28 (.tmp 6) (.tmp 13) rfl (w1.heap.size + 1) 0 D1.toArray rfl rfl HT2.out (by simpa using HDL.out) (all_oneCell_toArray HD1.out) ?_; (obtain ⟨W2, hW2, hq⟩ := H2.out); (have H3 : Hid _ := hq); (rw [List.toList_toArray, ← hW2]); (clear hW2 hq H2 HT1 HT2)) | (refine wpList_load_mid rfl 28 _ rfl (w1.heap.size + 1) 0 rfl D1 _ H3.out.2.2.1.range Tryd.underlying28 rfl HDL.out ?_) | fail)
  refine (HA3.out _ H3.out.2.2.2.2 H3.out.2.2.2.1).mono ?_
  rintro e w3 ⟨v3, rfl, ro3, b3⟩
  obtain ⟨a3, c3, rfl⟩ := ro3.shape
  have H4 : Hid (LB w3 w.heap.size 28 D ∧ LB w3 (w.heap.size + 1) 25 E ∧ Below w.heap.size w w3) := ⟨H3.out.1.kept b3, H3.out.2.1.kept b3, andThen H3.out.2.2.2.2 b3⟩
  have HSI : Hid (Calls Tryd.prog 13 #[.slice a3 1 c3, .slice (some ⟨w3.heap.size, 0, none⟩) 1 1] (w3.alloc (.cells #[.int .i64 2] 3)) fun e w' => e = .returned (.bool true) ∧ Below (w3.alloc (.cells #[.int .i64 2] 3)).heap.size (w3.alloc (.cells #[.int .i64 2] 3)) w') := sameInts_yes _ _ [2] w3.heap.size 1 _ (ro3.kept (up0 _ _)) (fun j hj => by
    match j, hj with
    | 0, _ => rw [World.cell?_alloc_new]; rfl) (by decide)
  have H5 : Hid (∀ w4, Below (w3.alloc (.cells #[.int .i64 2] 3)).heap.size (w3.alloc (.cells #[.int .i64 2] 3)) w4 → LB w4 w.heap.size 28 D ∧ LB w4 (w.heap.size + 1) 25 E ∧ Below w.heap.size w w4) := fun w4 b4 => ⟨(H4.out.1.kept (up0 _ _)).kept b4, (H4.out.2.1.kept (up0 _ _)).kept b4, andThen (up H4.out.2.2 _) b4⟩
  clear ro3 b3 H3 HA3 H4 HDL HGL HG1 HD1 HGZ HDZ
  go_wp2_with fail
  refine HSI.out.mono ?_
  rintro e w4 ⟨rfl, b4⟩
  have H6 : Hid _ := H5.out w4 b4
  clear b4 H5 HSI
  go_wp2_with (first | (refine wpList_load_mid rfl 28 _ rfl w.heap.size 0 rfl D _ H6.out.1.range Tryd.underlying28 rfl HL.out ?_) | (refine wpList_load_mid rfl 25 _ rfl (w.heap.size + 1) 0 rfl E _ H6.out.2.1.range Tryd.underlying25 rfl HL2.out ?_) | fail)
  refine (HAP.out _ H6.out.2.2).mono ?_
  rintro e w5 ⟨h5, rfl, b5⟩
  obtain ⟨D5, hD5, hL5, hE5⟩ := sv_letter S' h5
  rw [hD5]
  have HL5 : Hid _ := hL5
  have H15 : Hid (∀ v ∈ D5, v.oneCell' = true) := by show ∀ v ∈ D5, _; rw [hE5]; exact scl_one _ _
  have HZ5 : Hid (D5.length = Z.length) := by show _ = _; rw [hE5, HZL.out]; rfl
  have HT5 : Hid ((w5.alloc (.cells Z.toArray 28)).there w5.heap.size 0 D5.toArray.size) := there_of (lb_new w5 Z _) (by simpa using HZ5.out)
  have H7 : Hid (∃ W6, W6 = (w5.alloc (.cells Z.toArray 28)).setCells w5.heap.size 0 D5 ∧ LB W6 w.heap.size 28 D ∧ LB W6 (w.heap.size + 1) 25 E ∧ Below w.heap.size w W6) := by
    obtain ⟨_, q3⟩ := one_box w5 28 Z D5 HZ5.out
    exact ⟨_, rfl, (H6.out.1.kept b5).kept q3, (H6.out.2.1.kept b5).kept q3, andThen (andThen H6.out.2.2 b5) q3⟩
  clear hD5 hL5 hE5 b5 H6 HAP
  go_wp2_with (first | (refine wpList_alloc_Z HZ.out rfl rfl ?_) | (refine wpList_store_mid rfl 28 (.tmp 7) (.tmp 23) rfl w5.heap.size 0 D5.toArray rfl rfl HT5.out (by simpa using HL5.out) (all_oneCell_toArray H15.out) ?_; (obtain ⟨W6, hW6, hq⟩ := H7.out); (have H8 : Hid _ := hq); (rw [List.toList_toArray, ← hW6]); (clear hW6 hq H7 HT5)) | (refine wpList_load_mid rfl 28 _ rfl w.heap.size 0 rfl D _ H8.out.1.range Tryd.underlying28 rfl HL.out ?_) | fail)
  refine (HAL.out _ H8.out.2.2).mono ?_
  rintro e w7 ⟨v7, rfl, ro7, b7⟩
  obtain ⟨a7, c7, rfl⟩ := ro7.shape
  have H9 : Hid (LB w7 (w.heap.size + 1) 25 E ∧ Below w.heap.size w w7) := ⟨H8.out.2.1.kept b7, andThen H8.out.2.2 b7⟩
  have HOF : Hid (∀ t, Calls Tryd.prog 15 #[.slice a7 l.length c7, .int .i64 t] w7 fun e w' => e = .returned (.bool (l.contains t)) ∧ w7 = w') := fun t => of_any _ _ l t w7 ro7 (by omega)
  have e1 := H9.out.1.cell 1 (.int .i64 r.x.k) (by rw [HE2.out]; rfl)
  clear b7 ro7 H8 HAL
  go_wp2_with fail
  refine (snum_any z _).mono ?_
  rintro e _ ⟨rfl, rfl⟩
  cases hz0 : (z == 0) with
  | true =>
    have HC : Hid (l.contains r.x.k = true) := HMAY.out (by simpa using hz0)
    go_wp2_with fail
    refine (HOF.out _).mono ?_
    rw [HC.out]
    rintro e _ ⟨rfl, rfl⟩
    go_wp2
    go_ret
    exact ⟨rfl, H9.out.2⟩
  | false =>
    have HC : Hid (l.contains 1 = false) := by
      show _ = _
      rw [Bool.eq_false_iff]
      intro e
      exact HSM.2 (List.contains_iff_mem.1 e)
    have hl2 : ((l.length : Int) ≤ 2) = True := by simp; omega
    have HSM' : Hid _ := HSM
    clear HSM
    go_wp2_with fail
    refine (HOF.out _).mono ?_
    rw [HC.out]
    rintro e _ ⟨rfl, rfl⟩
    go_wp2
    go_ret
    exact ⟨rfl, H9.out.2⟩
end Go.Proofs.YtgjlkkikgkbamaaDoor
