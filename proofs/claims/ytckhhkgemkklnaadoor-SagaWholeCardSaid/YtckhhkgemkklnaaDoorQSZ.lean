import Derived.Deep.CutRange
import Derived.Test.YtckhhkgemkklnaaDoorQSY
/-
  SagaWhole: the walk.
-/
namespace Go.Proofs.YtckhhkgemkklnaaDoor
open Go Go.RowKit
open Wb

theorem trl_new (w : World) (cnt piv : Int) : LB (w.alloc (.cells #[.int .i64 cnt, .int .i64 piv, .int .i64 0, .int .i64 0] 38)) w.heap.size 38 (trl cnt piv 0 0) := lb_new w (trl cnt piv 0 0) _
theorem step_alloc_Z {Z : List Value} (hZ : Z = zcl) {ops : Array Oper} {o : Oper} {a : Act} {w : World} {K : Act → World → Prop} {Q : Exit → Act → World → Prop} {E : Prop} (hgd : o.guard = none) (ho : o.op = .alloc 28)
    (h : K (a.put o.dst (.pointer (some ⟨w.heap.size, 0, none⟩))) (w.alloc (.cells Z.toArray 28))) : if Region.wanted o (yielded ops a.tmps) = true then Oper.wp Tryd.prog o a w K Q else E := by
  subst hZ
  rw [if_pos (by simp [Region.wanted, hgd])]
  obtain ⟨dst, op', ty, pos, after, guard⟩ := o
  simp only at ho hgd
  subst ho hgd
  unfold zcl at h
  go_simp
  exact h
theorem step_store {P : Program} {ops : Array Oper} {o : Oper} {a : Act} {w : World} {K : Act → World → Prop} {Q : Exit → Act → World → Prop} {E : Prop} (hgd : o.guard = none) (ty : TypeId) (x y : Operand) (ho : o.op = .store ty x y)
    (b f : Nat) (cells : Array Value) (hx : a.eval x = .pointer (some ⟨b, f, none⟩)) (hy : a.eval y = .agg cells) (ht : w.there b f cells.size) (hi : (P.info? ty).map (·.size) = some cells.size) (h1 : cells.all (·.oneCell') = true)
    (h : K (a.put o.dst undef) (w.setCells b f cells.toList)) : if Region.wanted o (yielded ops a.tmps) = true then Oper.wp P o a w K Q else E := by
  rw [if_pos (by simp [Region.wanted, hgd])]
  exact wp_store_mid ty x y ho b f cells hx hy ht hi h1 h
/-- what the loop holds -/
def LW (w : World) (s g : Nat) (S : Sg) (h : SH) (wr : World) : Prop := LB wr s 28 (scl S h) ∧ SgO 0 wr S h ∧ LB wr g 38 (trl S.x.cnt S.x.piv S.outs.length S.und.length) ∧ w.heap.size ≤ g ∧ Below w.heap.size w wr
theorem LW.kept {w wr wr' : World} {s g : Nat} {S : Sg} {h : SH} (k : LW w s g S h wr) (b : Below wr.heap.size wr wr') : LW w s g S h wr' := ⟨k.1.kept b, k.2.1.kept b, k.2.2.1.kept b, k.2.2.2.1, andThen k.2.2.2.2 b⟩
set_option maxRecDepth 100000 in
set_option maxHeartbeats 16000000 in
theorem sagaWhole_walk (v : Value) (rs : List Rec) (w : World) (hR : RecsAt w v rs) (hg : RGood rs) (hT : STabs w) :
    Calls Tryd.prog 3 #[v] w fun e w' => e = .returned (.bool true) ∧ Below w.heap.size w w' := by
  have HBE : Hid (∀ (d : Value) (w' : World), Below w.heap.size w w' → Bs w' d rec1.l → Calls Tryd.prog 8 #[rv rec1.x rec1.nm d] w' fun e w'' => ∃ h', e = .returned (.tuple #[sv sg1 h', .int .i64 0]) ∧ SgO 0 w'' sg1 h' ∧ Below w'.heap.size w' w'') := fun d w' hb' hd => by
    have e := begin_any rec1 d w' hd (hT.kept hb').e (by decide) first_fit
    rw [first_begin] at e
    exact e.mono fun e w'' ⟨h', e1, e2, e3⟩ => ⟨h', e1, e2.weak (Nat.zero_le _), e3⟩
  have HBR : Hid (∀ (r : Rec) (d : Value) (w' : World), Below w.heap.size w w' → Bs w' d r.l → r.nm.size ≤ 140737488355000 → r.x.fit → Calls Tryd.prog 8 #[rv r.x r.nm d] w' fun e w'' => ∃ h', e = .returned (.tuple #[sv (beginP r).2 h', .int .i64 (beginP r).1]) ∧ SgO 0 w'' (beginP r).2 h' ∧ Below w'.heap.size w' w'') := fun r d w' hb' hd h1 h2 =>
    (begin_any r d w' hd (hT.kept hb').e h1 h2).mono fun e w'' ⟨h', e1, e2, e3⟩ => ⟨h', e1, e2.weak (Nat.zero_le _), e3⟩
  have HAP : Hid (∀ (S' : Sg) (h' : SH) (r : Rec) (d : Value) (w' : World), Below w.heap.size w w' → SgO 0 w' S' h' → S'.nm.size ≤ 140737488355000 → Bs w' d r.l → r.nm.size ≤ 140737488355000 → r.x.fit → Calls Tryd.prog 9 #[sv S' h', rv r.x r.nm d] w' fun e w'' => ∃ h'', e = .returned (.tuple #[sv (applyP S' r).2 h'', .int .i64 (applyP S' r).1]) ∧ SgO 0 w'' (applyP S' r).2 h'' ∧ Below w'.heap.size w' w'') := fun S' h' r d w' hb' k' hn' hd h1 h2 =>
    (apply_any S' h' r d w' k'.at hd (hT.kept hb') hn' h1 h2).mono fun e w'' ⟨h'', e1, e2, e3⟩ => ⟨h'', e1, e2.weak (Nat.zero_le _), e3⟩
  have HFI : Hid (∀ (S' : Sg) (h' : SH) (w' : World), Below w.heap.size w w' → SgO 0 w' S' h' → S'.nm.size ≤ 140737488355000 → chkS S' = true → Calls Tryd.prog 12 #[sv S' h'] w' fun e w'' => e = .returned (.bool S'.x.ended) ∧ Below w'.heap.size w' w'') := fun S' h' w' hb' k' hn' hc' => by
    have e := finished_any S' h' w' k'.at (hT.kept hb').e.tabs.lets hn'
    rw [hc', Bool.true_and] at e
    exact e
  have HGE : Hid (∀ r ∈ rs, r.nm.size ≤ 140737488355000 ∧ r.x.fit) := hg.each
  obtain ⟨ao, cap, rfl, hm, hcr0⟩ := hR
  have HRA : Hid (∀ k r, rs[k]? = some r → ∃ b off d, ao = some ⟨b, off, none⟩ ∧ w.rangeAt b (off + k * 12) (rcl (r, d)) ∧ Bs w d r.l) := hcr0
  clear hcr0
  unfold maxLen at hm
  have hfew := hg.few
  clear hT hg
  obtain ⟨Z, hZ⟩ : ∃ Z, Z = zcl := ⟨_, rfl⟩
  obtain ⟨ZR, hZR⟩ : ∃ ZR, ZR = zrl := ⟨_, rfl⟩
  have HZ : Hid (Z = zcl) := hZ
  have HZR : Hid (ZR = zrl) := hZR
  have HZL : Hid (Z.length = 16) := by show _ = _; rw [hZ]; rfl
  have HZRL : Hid (ZR.length = 12) := by show _ = _; rw [hZR]; rfl
  clear hZ hZR
  go_enter Tryd.func3, Tryd.ntmps3
  go_wp2_with fail
  refine (first_any _).mono ?_
  rintro e w1 ⟨a1, c1, h1, rfl, bs1, -, b1⟩
  have H1 : Hid (Bs w1 (.slice a1 rec1.l.length c1) rec1.l ∧ Below w.heap.size w w1) := ⟨bs1, b1⟩
  clear b1 bs1
  obtain ⟨G1, hG1, hGL, hGE⟩ := rv_letter rec1.x rec1.nm (.slice a1 rec1.l.length c1)
  obtain ⟨D1, hD1, hDL, hDE⟩ := sv_letter sg1 h1
  rw [hG1, hD1]
  have HB1 : Hid (∀ w', Below w.heap.size w w' → Bs w' (.slice a1 rec1.l.length c1) rec1.l → Calls Tryd.prog 8 #[.agg G1.toArray] w' fun e w'' => ∃ h', e = .returned (.tuple #[sv sg1 h', .int .i64 0]) ∧ SgO 0 w'' sg1 h' ∧ Below w'.heap.size w' w'') := fun w' hb' hd => by
    have e := HBE.out _ w' hb' hd
    rw [hG1] at e
    exact e
  have HGL : Hid _ := hGL
  have HDL : Hid _ := hDL
  have HG1 : Hid (∀ v ∈ G1, v.oneCell' = true) := by show ∀ v ∈ G1, _; rw [hGE]; exact rcE_one _ _ _ rfl
  have HD1 : Hid (∀ v ∈ D1, v.oneCell' = true) := by show ∀ v ∈ D1, _; rw [hDE]; exact scl_one _ _
  have HGZ : Hid (G1.length = ZR.length) := by show _ = _; rw [hGE, HZRL.out]; rfl
  have HDZ : Hid (D1.length = Z.length) := by show _ = _; rw [hDE, HZL.out]; rfl
  have HT1 : Hid (((w1.alloc (.cells ZR.toArray 25)).alloc (.cells Z.toArray 28)).there w1.heap.size 0 G1.toArray.size) := there_of (lb_new2 w1 ZR Z _ _).1 (by simpa using HGZ.out)
  have HT2 : Hid ((((w1.alloc (.cells ZR.toArray 25)).alloc (.cells Z.toArray 28)).setCells w1.heap.size 0 G1).there (w1.heap.size + 1) 0 D1.toArray.size) := there_of ((lb_new2 w1 ZR Z _ _).2.1.others _ _ _ (by omega)) (by simpa using HDZ.out)
  have H2 : Hid (∃ W2, W2 = (((w1.alloc (.cells ZR.toArray 25)).alloc (.cells Z.toArray 28)).setCells w1.heap.size 0 G1).setCells (w1.heap.size + 1) 0 D1 ∧ LB W2 w1.heap.size 25 G1 ∧ Bs W2 (.slice a1 rec1.l.length c1) rec1.l ∧ Below w.heap.size w W2) := by
    obtain ⟨q1, q2, q3⟩ := two_boxes w1 25 28 ZR Z G1 D1 HGZ.out HDZ.out
    exact ⟨_, rfl, q1, H1.out.1.kept q3, andThen H1.out.2 q3⟩
  clear hG1 hGL hGE hD1 hDL hDE HBE H1
  go_wp2_with (first | (refine wpList_alloc_R HZR.out rfl rfl ?_) | (refine wpList_alloc_Z HZ.out rfl rfl ?_; (try simp only [heap_one])) | (refine wpList_store_mid rfl 25 (.tmp 3) (.tmp 20) rfl w1.heap.size 0 G1.toArray rfl rfl HT1.out (by simpa using HGL.out) (all_oneCell_toArray HG1.out) ?_; (rw [List.toList_toArray])) | (refine wpList_store_mid rfl 28 (.tmp 4) (.tmp 21) rfl (w1.heap.size + 1) 0 D1.toArray rfl rfl HT2.out (by simpa using HDL.out) (all_oneCell_toArray HD1.out) ?_; (obtain ⟨W2, hW2, hq⟩ := H2.out); (have H3 : Hid _ := hq); (rw [List.toList_toArray, ← hW2]); (clear hW2 hq H2 HT1 HT2)) | (refine wpList_load_mid rfl 25 _ rfl w1.heap.size 0 rfl G1 _ H3.out.1.range Tryd.underlying25 rfl HGL.out ?_) | fail)
  refine (HB1.out _ H3.out.2.2 H3.out.2.1).mono ?_
  rintro e w3 ⟨h3, rfl, at3, b3⟩
  have H4 : Hid (SgO 0 w3 sg1 h3 ∧ Below w.heap.size w w3) := ⟨at3, andThen H3.out.2.2 b3⟩
  clear at3 b3 H3 HB1 HGL HG1 HD1 HGZ HDZ HDL
  obtain ⟨D3, hD3, hL3, hE3⟩ := sv_letter sg1 h3
  rw [hD3]
  have HL3 : Hid _ := hL3
  have HE3 : Hid (D3 = scl sg1 h3) := hE3
  have H13 : Hid (∀ v ∈ D3, v.oneCell' = true) := by show ∀ v ∈ D3, _; rw [hE3]; exact scl_one _ _
  have HZ3 : Hid (D3.length = Z.length) := by show _ = _; rw [hE3, HZL.out]; rfl
  have HA3 : Hid (∀ w', Below w.heap.size w w' → SgO 0 w' sg1 h3 → Calls Tryd.prog 9 #[.agg D3.toArray, .agg #[.int .i64 3, .int .i64 2, .int .i64 7, .int .i64 0, .int .i64 1, .int .i64 6, .int .i64 0, .int .i64 0, .int .i64 0, .int .i64 0, .string ⟨#[]⟩, .slice none 0 0]] w' fun e w'' => ∃ h'', e = .returned (.tuple #[sv sgA h'', .int .i64 0]) ∧ SgO 0 w'' sgA h'' ∧ Below w'.heap.size w' w'') := fun w' hb' k' => by
    have e := HAP.out sg1 h3 recA (.slice none 0 0) w' hb' k' (by decide) (Bs.nil _) (by decide) (fit_v3 _ recA_v (by decide))
    rw [hD3, apply_A] at e
    exact e
  have HT3 : Hid ((w3.alloc (.cells Z.toArray 28)).there w3.heap.size 0 D3.toArray.size) := there_of (lb_new w3 Z _) (by simpa using HZ3.out)
  have H5 : Hid (∃ W4, W4 = (w3.alloc (.cells Z.toArray 28)).setCells w3.heap.size 0 D3 ∧ LB W4 w3.heap.size 28 D3 ∧ SgO 0 W4 sg1 h3 ∧ Below w.heap.size w W4 ∧ w.heap.size ≤ w3.heap.size) := by
    obtain ⟨q1, q3⟩ := one_box w3 28 Z D3 HZ3.out
    exact ⟨_, rfl, q1, H4.out.1.kept q3, andThen H4.out.2 q3, H4.out.2.size⟩
  clear hD3 hL3 hE3 H4
  go_wp2_with (first | (refine wpList_alloc_Z HZ.out rfl rfl ?_) | (refine wpList_store_mid rfl 28 (.tmp 5) (.tmp 25) rfl w3.heap.size 0 D3.toArray rfl rfl HT3.out (by simpa using HL3.out) (all_oneCell_toArray H13.out) ?_; (obtain ⟨W4, hW4, hq⟩ := H5.out); (have H6 : Hid _ := hq); (rw [List.toList_toArray, ← hW4]); (clear hW4 hq H5 HT3)) | (refine wpList_load_mid rfl 28 _ rfl w3.heap.size 0 rfl D3 _ H6.out.1.range Tryd.underlying28 rfl HL3.out ?_) | fail)
  refine (HA3.out _ H6.out.2.2.1 H6.out.2.1).mono ?_
  rintro e w5 ⟨h5, rfl, at5, b5⟩
  have H7 : Hid (LB w5 w3.heap.size 28 D3 ∧ SgO 0 w5 sg1 h3 ∧ SgO 0 w5 sgA h5 ∧ Below w.heap.size w w5 ∧ w.heap.size ≤ w3.heap.size) := ⟨H6.out.1.kept b5, H6.out.2.1.kept b5, at5, andThen H6.out.2.2.1 b5, H6.out.2.2.2⟩
  clear at5 b5 H6 HA3
  obtain ⟨D5, hD5, hL5, hE5⟩ := sv_letter sgA h5
  rw [hD5]
  have HL5 : Hid _ := hL5
  have HE5 : Hid (D5 = scl sgA h5) := hE5
  have H15 : Hid (∀ v ∈ D5, v.oneCell' = true) := by show ∀ v ∈ D5, _; rw [hE5]; exact scl_one _ _
  have HZ5 : Hid (D5.length = Z.length) := by show _ = _; rw [hE5, HZL.out]; rfl
  have HA5 : Hid (∀ w', Below w.heap.size w w' → SgO 0 w' sgA h5 → Calls Tryd.prog 9 #[.agg D5.toArray, .agg #[.int .i64 3, .int .i64 3, .int .i64 7, .int .i64 0, .int .i64 0, .int .i64 6, .int .i64 0, .int .i64 0, .int .i64 0, .int .i64 0, .string ⟨#[]⟩, .slice none 0 0]] w' fun e w'' => ∃ h'', e = .returned (.tuple #[sv sgB h'', .int .i64 0]) ∧ SgO 0 w'' sgB h'' ∧ Below w'.heap.size w' w'') := fun w' hb' k' => by
    have e := HAP.out sgA h5 recB (.slice none 0 0) w' hb' k' (by decide) (Bs.nil _) (by decide) (fit_v3 _ recB_v (by decide))
    rw [hD5, apply_B] at e
    exact e
  have HT5 : Hid ((w5.alloc (.cells Z.toArray 28)).there w5.heap.size 0 D5.toArray.size) := there_of (lb_new w5 Z _) (by simpa using HZ5.out)
  have H8 : Hid (∃ W6, W6 = (w5.alloc (.cells Z.toArray 28)).setCells w5.heap.size 0 D5 ∧ LB W6 w5.heap.size 28 D5 ∧ SgO 0 W6 sgA h5 ∧ LB W6 w3.heap.size 28 D3 ∧ SgO 0 W6 sg1 h3 ∧ Below w.heap.size w W6 ∧ w.heap.size ≤ w3.heap.size) := by
    obtain ⟨q1, q3⟩ := one_box w5 28 Z D5 HZ5.out
    exact ⟨_, rfl, q1, H7.out.2.2.1.kept q3, H7.out.1.kept q3, H7.out.2.1.kept q3, andThen H7.out.2.2.2.1 q3, H7.out.2.2.2.2⟩
  clear hD5 hL5 hE5 H7
  go_wp2_with (first | (refine wpList_alloc_Z HZ.out rfl rfl ?_) | (refine wpList_store_mid rfl 28 (.tmp 7) (.tmp 31) rfl w5.heap.size 0 D5.toArray rfl rfl HT5.out (by simpa using HL5.out) (all_oneCell_toArray H15.out) ?_; (obtain ⟨W6, hW6, hq⟩ := H8.out); (have H9 : Hid _ := hq); (rw [List.toList_toArray, ← hW6]); (clear hW6 hq H8 HT5)) | (refine wpList_load_mid rfl 28 _ rfl w5.heap.size 0 rfl D5 _ H9.out.1.range Tryd.underlying28 rfl HL5.out ?_) | fail)
  refine (HA5.out _ H9.out.2.2.2.2.1 H9.out.2.1).mono ?_
  rintro e w7 ⟨h7, rfl, -, b7⟩
  have HA : Hid (LB w7 w3.heap.size 28 D3 ∧ SgO 0 w7 sg1 h3 ∧ Below w.heap.size w w7 ∧ w.heap.size ≤ w3.heap.size) := ⟨H9.out.2.2.1.kept b7, H9.out.2.2.2.1.kept b7, andThen H9.out.2.2.2.2.1 b7, H9.out.2.2.2.2.2⟩
  clear b7 H9 HA5 HL5 HE5 H15 HZ5
  obtain ⟨D7, hD7, hL7, hE7⟩ := sv_letter sgB h7
  rw [hD7]
  have HL7 : Hid _ := hL7
  have HE7 : Hid (D7 = scl sgB h7) := hE7
  have H17 : Hid (∀ v ∈ D7, v.oneCell' = true) := by show ∀ v ∈ D7, _; rw [hE7]; exact scl_one _ _
  have HZ7 : Hid (D7.length = Z.length) := by show _ = _; rw [hE7, HZL.out]; rfl
  have HT7 : Hid ((w7.alloc (.cells Z.toArray 28)).there w7.heap.size 0 D7.toArray.size) := there_of (lb_new w7 Z _) (by simpa using HZ7.out)
  have HB : Hid (∃ W8, W8 = (w7.alloc (.cells Z.toArray 28)).setCells w7.heap.size 0 D7 ∧ LB W8 w7.heap.size 28 D7 ∧ LB W8 w3.heap.size 28 D3 ∧ SgO 0 W8 sg1 h3 ∧ Below w.heap.size w W8 ∧ w.heap.size ≤ w3.heap.size) := by
    obtain ⟨q1, q3⟩ := one_box w7 28 Z D7 HZ7.out
    exact ⟨_, rfl, q1, HA.out.1.kept q3, HA.out.2.1.kept q3, andThen HA.out.2.2.1 q3, HA.out.2.2.2⟩
  clear hD7 hL7 hE7 HA
  go_wp2_with (first | (refine wpList_alloc_Z HZ.out rfl rfl ?_) | (refine wpList_store_mid rfl 28 (.tmp 9) (.tmp 37) rfl w7.heap.size 0 D7.toArray rfl rfl HT7.out (by simpa using HL7.out) (all_oneCell_toArray H17.out) ?_; (obtain ⟨W8, hW8, hq⟩ := HB.out); (have HC : Hid _ := hq); (rw [List.toList_toArray, ← hW8]); (clear hW8 hq HB HT7)) | fail)
  refine (snum_any 0 _).mono ?_
  rintro e _ ⟨rfl, rfl⟩
  go_wp2_with fail
  refine (snum_any 0 _).mono ?_
  rintro e _ ⟨rfl, rfl⟩
  go_wp2_with fail
  refine (snum_any 0 _).mono ?_
  rintro e _ ⟨rfl, rfl⟩
  have c8 := HC.out.1.cell 8 (.int .i64 1) (by rw [HE7.out]; rfl)
  go_wp2
  have HD : Hid (LW w w3.heap.size W8.heap.size sg1 h3 (W8.alloc (.cells #[.int .i64 2, .int .i64 1, .int .i64 0, .int .i64 0] 38))) := ⟨by rw [← HE3.out]; exact HC.out.2.1.kept (up0 _ _), HC.out.2.2.1.kept (up0 _ _), trl_new W8 2 1, HC.out.2.2.2.1.size, up HC.out.2.2.2.1 _⟩
  have HSL : Hid (w.heap.size ≤ w3.heap.size) := HC.out.2.2.2.2
  have HDL : Hid (D3.length = 16) := by show _ = _; rw [HE3.out]; rfl
  clear c8 HC HL7 HE7 H17 HZ7 HZ3 H13 HL3 HE3
  go_loopw [11, 12] (fun t i wr => ∃ (n g : Nat) (S' : Sg) (h' : SH), t = .pointer (some ⟨g, 0, none⟩) ∧ i = .int .i64 (n : Int) ∧ n ≤ rs.length ∧ (chkS S' = true ∧ S'.nm.size ≤ 140737488355000) ∧ LW w w3.heap.size g S' h' wr) (fun _ i _ => rs.length - (intOf i).toNat)
  case atStart => exact ⟨0, _, sg1, h3, rfl, rfl, Nat.zero_le _, ⟨sg1_good.1, by decide⟩, HD.out⟩
  case round =>
    obtain ⟨n, g, S', h', rfl, rfl, hn, hS', hw⟩ := hrel
    have HW : Hid (LW w w3.heap.size g S' h' wr) := hw
    have HS' : Hid _ := hS'
    clear hw hS' HD
    by_cases hlt : n < rs.length
    · obtain ⟨r, hr⟩ : ∃ r, rs[n]? = some r := ⟨rs[n], List.getElem?_eq_getElem hlt⟩
      obtain ⟨b, off, d, e2, hrg, hbs⟩ := HRA.out n r hr
      subst e2
      have HRG : Hid _ := HGE.out r (List.mem_of_getElem? hr)
      obtain ⟨E, hE, hEL, hEE⟩ := rv_letter r.x r.nm d
      have hrg2 : w.rangeAt b (off + n * 12) E := by rw [hEE]; exact hrg
      have HEL : Hid _ := hEL
      have HXK : Hid (∀ w', Below w.heap.size w w' → w'.rangeAt b (off + n * 12) E ∧ Bs w' d r.l) := fun w' hb => ⟨fun j v hv => by rw [hb.cell (World.block_lt_of_cell? w _ (hrg2 j v hv))]; exact hrg2 j v hv, hbs.kept hb⟩
      have HX : Hid (wr.rangeAt b (off + n * 12) E ∧ Bs wr d r.l) := HXK.out _ HW.out.2.2.2.2
      have HEE : Hid (E = rcE r.x r.nm d) := hEE
      have rk : wr.cell? ⟨b, off + n * 12 + 1, none⟩ = some (.int .i64 r.x.k) := HX.out.1 1 _ (by rw [hEE]; rfl)
      by_cases hk1 : r.x.k = 1
      · rw [hk1] at rk
        obtain ⟨z, hz⟩ : ∃ z, (beginP r).1 = z := ⟨_, rfl⟩
        obtain ⟨S2, hS2⟩ : ∃ S2, (beginP r).2 = S2 := ⟨_, rfl⟩
        have HB1 : Hid (∀ w', Below w.heap.size w w' → Bs w' d r.l → Calls Tryd.prog 8 #[.agg E.toArray] w' fun e w'' => ∃ h', e = .returned (.tuple #[sv S2 h', .int .i64 z]) ∧ SgO 0 w'' S2 h' ∧ Below w'.heap.size w' w'') := fun w' hb' hd => by
          have e := HBR.out r d w' hb' hd HRG.out.1 HRG.out.2
          rw [hE, hz, hS2] at e
          exact e
        have HGD : Hid ((z == 0) = true → chkS S2 = true ∧ S2.outs = [] ∧ S2.und = [] ∧ S2.nm.size ≤ 20000) := fun h0 => by
          have e := begin_good r hbs.good HRG.out.2 (by rw [hz]; simpa using h0)
          rw [hS2] at e
          exact e
        clear hz hS2 hE hEL hEE hrg hrg2 hbs hk1 HXK
        go_wp2_with (first | (refine wpList_load_mid rfl 25 _ rfl b (off + n * 12) rfl E _ HX.out.1 Tryd.underlying25 rfl HEL.out ?_) | fail)
        refine (HB1.out _ HW.out.2.2.2.2 HX.out.2).mono ?_
        rintro e x1 ⟨h2, rfl, o2, y1⟩
        obtain ⟨D2, hD2, hL2, hE2⟩ := sv_letter S2 h2
        rw [hD2]
        have HL2 : Hid _ := hL2
        have HE2 : Hid (D2 = scl S2 h2) := hE2
        have H12 : Hid (∀ v ∈ D2, v.oneCell' = true) := by show ∀ v ∈ D2, _; rw [hE2]; exact scl_one _ _
        have HZ2 : Hid (D2.length = Z.length) := by show _ = _; rw [hE2, HZL.out]; rfl
        have HT2 : Hid ((x1.alloc (.cells Z.toArray 28)).there x1.heap.size 0 D2.toArray.size) := there_of (lb_new x1 Z _) (by simpa using HZ2.out)
        have HI : Hid (∃ X2, X2 = (x1.alloc (.cells Z.toArray 28)).setCells x1.heap.size 0 D2 ∧ LB X2 x1.heap.size 28 D2 ∧ SgO 0 X2 S2 h2 ∧ LW w w3.heap.size g S' h' X2 ∧ w3.heap.size ≠ x1.heap.size) := by
          obtain ⟨q1, q3⟩ := one_box x1 28 Z D2 HZ2.out
          exact ⟨_, rfl, q1, o2.kept q3, (HW.out.kept y1).kept q3, Nat.ne_of_lt (HW.out.kept y1).1.lt⟩
        clear hD2 hL2 hE2 o2 y1 HB1 rk HX
        go_wp2_with (first | (refine wpList_alloc_Z HZ.out rfl rfl ?_) | (refine wpList_store_mid rfl 28 (.tmp 13) (.tmp 77) rfl x1.heap.size 0 D2.toArray rfl rfl HT2.out (by simpa using HL2.out) (all_oneCell_toArray H12.out) ?_; (obtain ⟨X2, hX2, hq⟩ := HI.out); (have HI2 : Hid _ := hq); (rw [List.toList_toArray, ← hX2]); (clear hX2 hq HI HT2)) | fail)
        refine (snum_any z _).mono ?_
        rintro e _ ⟨rfl, rfl⟩
        cases hz0 : (z == 0) with
        | true =>
          have HG2 : Hid _ := HGD.out hz0
          have HT3 : Hid (X2.there w3.heap.size 0 D2.toArray.size) := there_of HI2.out.2.2.1.1 (by rw [scl_len]; simpa using HZ2.out.trans HZL.out)
          have HI3 : Hid (∃ X3, X3 = X2.setCells w3.heap.size 0 D2 ∧ LB X3 w3.heap.size 28 D2 ∧ LB X3 x1.heap.size 28 D2 ∧ SgO 0 X3 S2 h2 ∧ Below w.heap.size w X3) := ⟨_, rfl, HI2.out.2.2.1.1.sets D2 (by rw [scl_len]; exact HZ2.out.trans HZL.out), HI2.out.1.others _ _ _ (Ne.symm HI2.out.2.2.2), HI2.out.2.1.oth HI2.out.2.2.1.1 (by decide) (by decide) (Oth.sets _ _ _ _), below_cells HSL.out _ 0 _ HI2.out.2.2.1.2.2.2.2⟩
          clear HGD
          go_wp2_with (first | (refine wpList_load_mid rfl 28 _ rfl x1.heap.size 0 rfl D2 _ HI2.out.1.range Tryd.underlying28 rfl HL2.out ?_) | (refine wpList_store_mid rfl 28 (.tmp 5) (.tmp 82) rfl w3.heap.size 0 D2.toArray rfl rfl HT3.out (by simpa using HL2.out) (all_oneCell_toArray H12.out) ?_; (obtain ⟨X3, hX3, hq⟩ := HI3.out); (have HI4 : Hid _ := hq); (rw [List.toList_toArray, ← hX3]); (clear hX3 hq HI3 HT3); (have c2 := HI4.out.2.1.cell 2 (.int .i64 S2.x.cnt) (by rw [HE2.out]; rfl)); (have c3 := HI4.out.2.1.cell 3 (.int .i64 S2.x.piv) (by rw [HE2.out]; rfl))) | fail)
          go_roundw
          case rel => exact ⟨n + 1, X3.heap.size, S2, h2, rfl, by go_num, by omega, ⟨HG2.out.1, by have := HG2.out.2.2.2; omega⟩, by rw [← HE2.out]; exact HI4.out.1.kept (up0 _ _), HI4.out.2.2.1.kept (up0 _ _), by rw [HG2.out.2.1, HG2.out.2.2.1]; exact trl_new X3 _ _, HI4.out.2.2.2.size, up HI4.out.2.2.2 _⟩
          case measure => simp [intOf]; omega
        | false =>
          go_wp2
          go_roundw
          case rel => exact ⟨n + 1, g, S', h', rfl, by go_num, by omega, HS'.out, HI2.out.2.2.1⟩
          case measure => simp [intOf]; omega
      · have rk1 : (r.x.k == 1) = false := by simpa using hk1
        obtain ⟨z, hz⟩ : ∃ z, (applyP S' r).1 = z := ⟨_, rfl⟩
        obtain ⟨S2, hS2⟩ : ∃ S2, (applyP S' r).2 = S2 := ⟨_, rfl⟩
        obtain ⟨D', hD', hL', hE'⟩ := sv_letter S' h'
        have HL' : Hid _ := hL'
        have HE' : Hid (D' = scl S' h') := hE'
        have HB1 : Hid (∀ w', Below w.heap.size w w' → SgO 0 w' S' h' → Bs w' d r.l → Calls Tryd.prog 9 #[.agg D'.toArray, .agg E.toArray] w' fun e w'' => ∃ h', e = .returned (.tuple #[sv S2 h', .int .i64 z]) ∧ SgO 0 w'' S2 h' ∧ Below w'.heap.size w' w'') := fun w' hb' k' hd => by
          have e := HAP.out S' h' r d w' hb' k' HS'.out.2 hd HRG.out.1 HRG.out.2
          rw [hE, hD', hz, hS2] at e
          exact e
        have HGD : Hid (z = 0 → ∃ u : Rec, V3 u ∧ refP S'.x u.x = 0 ∧ S2 = deedS S' u ∧ u.x.k = r.x.k ∧ u.x.p = r.x.p) := fun h0 => by
          obtain ⟨u, q1, q2, q3, q4, q5⟩ := apply_good S' r hbs.good hk1 (by rw [hz]; exact h0)
          exact ⟨u, q1, q2, by rw [← hS2]; exact q3, q4, q5⟩
        clear hz hS2 hE hEL hEE hrg hrg2 hbs hk1 hD' hL' hE'
        go_wp2
        clear rk rk1
        go_cut [15, 16] from 59 to 169 (fun u f wx => ∃ (gu : Nat) (h2 : SH), u = .pointer (some ⟨gu, 0, none⟩) ∧ f = .int .i64 z ∧ LB wx gu 28 (scl S2 h2) ∧ SgO 0 wx S2 h2 ∧ LW w w3.heap.size g S' h' wx ∧ gu ≠ w3.heap.size)
        case first =>
          have H0 : Hid (LW w w3.heap.size g S' h' wr.drew) := HW.out.kept (Below.drew (Below.refl _ _))
          refine wp_region_held_drew (S := fun w' : World => w'.rangeAt w3.heap.size 0 D' ∧ w'.rangeAt b (off + n * 12) E) (by kernel_rfl) ?_ (fun hH => ?_)
          · exact ⟨by rw [HE'.out]; exact H0.out.1.range, (HXK.out _ H0.out.2.2.2.2).1⟩
          clear HW HX
          generalize wr.drew = V1 at *
          refine wpAnyH_take (i := 0) rfl (by kernel_rfl) (by kernel_rfl) (by kernel_rfl) (fun _ _ _ h => h) (yieldsIf_load_mid (by rfl) _ _ rfl _ _ rfl D' _ (fun w' hSw => hSw.1) Tryd.underlying28 rfl HL'.out) hH ?_
          simp only [Act.put, List.setIfInBounds_toArray, List.set_cons_zero, List.set_cons_succ, List.getElem_toArray, List.getElem_cons_zero]
          refine wpAnyH_take (i := 1) (v := ?v1) rfl (by kernel_rfl) (by kernel_rfl) (by kernel_rfl) (fun _ _ _ h => h) (Or.inl ⟨by rfl, ?hy1⟩) hH ?rest1
          case hy1 => intro w' hSw; (try dsimp only at hSw); go_simp; all_goals rfl
          simp only [Act.put, List.setIfInBounds_toArray, List.set_cons_zero, List.set_cons_succ, List.getElem_toArray, List.getElem_cons_zero, List.getElem_cons_succ]
          refine wpAnyH_take (i := 2) (v := ?v2) rfl (by kernel_rfl) (by kernel_rfl) (by kernel_rfl) (fun _ _ _ h => h) (Or.inl ⟨by rfl, ?hy2⟩) hH ?rest2
          case hy2 => intro w' hSw; (try dsimp only at hSw); go_simp; all_goals rfl
          simp only [Act.put, List.setIfInBounds_toArray, List.set_cons_zero, List.set_cons_succ, List.getElem_toArray, List.getElem_cons_zero, List.getElem_cons_succ]
          refine wpAnyH_take (i := 3) (v := ?v3) rfl (by kernel_rfl) (by kernel_rfl) (by kernel_rfl) (fun _ _ _ h => h) (Or.inl ⟨by rfl, ?hy3⟩) hH ?rest3
          case hy3 => intro w' hSw; (try dsimp only at hSw); go_simp; all_goals rfl
          simp only [Act.put, List.setIfInBounds_toArray, List.set_cons_zero, List.set_cons_succ, List.getElem_toArray, List.getElem_cons_zero, List.getElem_cons_succ]
          refine wpAnyH_take (i := 4) rfl (by kernel_rfl) (by kernel_rfl) (by kernel_rfl) (fun _ _ _ h => h) (yieldsIf_load_mid (by rfl) _ _ rfl _ _ rfl E _ (fun w' hSw => hSw.2) Tryd.underlying25 rfl HEL.out) hH ?_
          simp only [Act.put, List.setIfInBounds_toArray, List.set_cons_zero, List.set_cons_succ, List.getElem_toArray, List.getElem_cons_zero, List.getElem_cons_succ]
          refine wpAnyH_ready (rs := [5, 9]) (by kernel_rfl) (by simp) ?_
          refine AllReadyH.cons rfl (fun K hK => ?_) ?_
          · skip
            go_simp
            refine (HB1.out _ H0.out.2.2.2.2 H0.out.2.1 (HXK.out _ H0.out.2.2.2.2).2).mono ?_
            rintro e x1 ⟨h2, rfl, o2, y1⟩
            obtain ⟨D2, hD2, hL2, hE2⟩ := sv_letter S2 h2
            rw [hD2]
            have HL2 : Hid _ := hL2
            have HE2 : Hid (D2 = scl S2 h2) := hE2
            have H12 : Hid (∀ v ∈ D2, v.oneCell' = true) := by show ∀ v ∈ D2, _; rw [hE2]; exact scl_one _ _
            have HZ2 : Hid (D2.length = Z.length) := by show _ = _; rw [hE2, HZL.out]; rfl
            have H1 : Hid (LW w w3.heap.size g S' h' x1 ∧ SgO 0 x1 S2 h2) := ⟨H0.out.kept y1, o2⟩
            have HF : Hid (∃ X, X = (x1.alloc (.cells Z.toArray 28)).setCells x1.heap.size 0 D2 ∧ LB X x1.heap.size 28 (scl S2 h2) ∧ SgO 0 X S2 h2 ∧ LW w w3.heap.size g S' h' X ∧ x1.heap.size ≠ w3.heap.size) := by
              obtain ⟨q1, q3⟩ := one_box x1 28 Z D2 HZ2.out
              exact ⟨_, rfl, by rw [← HE2.out]; exact q1, o2.kept q3, H1.out.1.kept q3, Ne.symm (Nat.ne_of_lt H1.out.1.1.lt)⟩
            clear hD2 hL2 hE2 o2 y1
            refine hK.out _ _ ?_ (fun hH2 => ?_)
            · exact ⟨by rw [HE'.out]; exact H1.out.1.1.range, (HXK.out _ H1.out.1.2.2.2.2).1⟩
            clear hK K hH
            have hH := hH2
            clear hH2
            refine wpAnyH_take (i := 6) (v := ?v4) rfl (by kernel_rfl) (by kernel_rfl) (by kernel_rfl) (fun _ _ _ h => h) (Or.inl ⟨by rfl, ?hy4⟩) hH ?rest4
            case hy4 => intro w' hSw; (try dsimp only at hSw); go_simp; all_goals rfl
            simp only [Act.put, List.setIfInBounds_toArray, List.set_cons_zero, List.set_cons_succ, List.getElem_toArray, List.getElem_cons_zero, List.getElem_cons_succ]
            refine wpAnyH_take (i := 7) (v := ?v5) rfl (by kernel_rfl) (by kernel_rfl) (by kernel_rfl) (fun _ _ _ h => h) (Or.inl ⟨by rfl, ?hy5⟩) hH ?rest5
            case hy5 => intro w' hSw; (try dsimp only at hSw); go_simp; all_goals rfl
            simp only [Act.put, List.setIfInBounds_toArray, List.set_cons_zero, List.set_cons_succ, List.getElem_toArray, List.getElem_cons_zero, List.getElem_cons_succ]
            refine wpAnyH_take (i := 8) (v := ?v6) rfl (by kernel_rfl) (by kernel_rfl) (by kernel_rfl) (fun _ _ _ h => h) (Or.inl ⟨by rfl, ?hy6⟩) hH ?rest6
            case hy6 => intro w' hSw; (try dsimp only at hSw); go_simp; all_goals rfl
            simp only [Act.put, List.setIfInBounds_toArray, List.set_cons_zero, List.set_cons_succ, List.getElem_toArray, List.getElem_cons_zero, List.getElem_cons_succ]
            refine wpAnyH_ready (rs := [9]) (by kernel_rfl) (by simp) ?_
            refine AllReadyH.cons rfl (fun K hK => ?_) AllReadyH.nil
            refine step_alloc_Z HZ.out rfl rfl (hK.out _ _ ?_ (fun hH2 => ?_))
            · exact ⟨by rw [HE'.out]; exact (H1.out.1.kept (up0 _ _)).1.range, (HXK.out _ (H1.out.1.kept (up0 _ _)).2.2.2.2).1⟩
            clear hK K hH
            have hH := hH2
            clear hH2
            simp only [Act.put, List.setIfInBounds_toArray, List.set_cons_zero, List.set_cons_succ, List.getElem_toArray, List.getElem_cons_zero, List.getElem_cons_succ]
            refine wpAnyH_ready (rs := [10]) (by kernel_rfl) (by simp) ?_
            refine AllReadyH.cons rfl (fun K hK => ?_) AllReadyH.nil
            refine step_store rfl 28 (.tmp 15) (.tmp 96) rfl x1.heap.size 0 D2.toArray rfl rfl (there_of (lb_new x1 Z _) (by simpa using HZ2.out)) (by simpa using HL2.out) (all_oneCell_toArray H12.out) ?_
            rw [List.toList_toArray]
            obtain ⟨X, hX, hq⟩ := HF.out
            rw [← hX]
            clear hX HF
            refine hK.out _ _ ?_ (fun hH2 => ?_)
            · exact ⟨by rw [HE'.out]; exact hq.2.2.1.1.range, (HXK.out _ hq.2.2.1.2.2.2.2).1⟩
            clear hK K hH
            have hH := hH2
            clear hH2
            simp only [Act.put, List.getElem_toArray, List.getElem_cons_zero, List.getElem_cons_succ]
            refine wpAnyH_take (i := 11) (v := ?v7) rfl (by kernel_rfl) (by kernel_rfl) (by kernel_rfl) (fun _ _ _ h => h) (Or.inl ⟨by rfl, ?hy7⟩) hH ?rest7
            case hy7 => intro w' hSw; (try dsimp only at hSw); go_simp; all_goals rfl
            simp only [Act.put, List.setIfInBounds_toArray, List.set_cons_zero, List.set_cons_succ, List.getElem_toArray, List.getElem_cons_zero, List.getElem_cons_succ]
            refine wpAnyH_done (by kernel_rfl) ?_ _
            go_wp2_with fail
            go_meet
            exact ⟨_, h2, rfl, rfl, hq⟩
          · refine AllReadyH.cons rfl (fun K hK => ?_) AllReadyH.nil
            refine step_alloc_Z HZ.out rfl rfl (hK.out _ _ ?_ (fun hH2 => ?_))
            · exact ⟨by rw [HE'.out]; exact (H0.out.kept (up0 _ _)).1.range, (HXK.out _ (H0.out.kept (up0 _ _)).2.2.2.2).1⟩
            clear hK K hH
            have hH := hH2
            clear hH2
            simp only [Act.put, List.setIfInBounds_toArray, List.set_cons_zero, List.set_cons_succ, List.getElem_toArray, List.getElem_cons_zero, List.getElem_cons_succ]
            have H1 : Hid (LW w w3.heap.size g S' h' (V1.alloc (.cells Z.toArray 28)) ∧ LB (V1.alloc (.cells Z.toArray 28)) V1.heap.size 28 Z ∧ w3.heap.size < V1.heap.size ∧ g < V1.heap.size ∧ w.heap.size ≤ V1.heap.size) := ⟨H0.out.kept (up0 _ _), lb_new _ _ _, H0.out.1.lt, H0.out.2.2.1.lt, H0.out.2.2.2.2.size⟩
            clear H0
            refine wpAnyH_ready (rs := [5]) (by kernel_rfl) (by simp) ?_
            refine AllReadyH.cons rfl (fun K hK => ?_) AllReadyH.nil
            go_simp
            refine (HB1.out _ H1.out.1.2.2.2.2 H1.out.1.2.1 (HXK.out _ H1.out.1.2.2.2.2).2).mono ?_
            rintro e x1 ⟨h2, rfl, o2, y1⟩
            obtain ⟨D2, hD2, hL2, hE2⟩ := sv_letter S2 h2
            rw [hD2]
            have HL2 : Hid _ := hL2
            have HE2 : Hid (D2 = scl S2 h2) := hE2
            have H12 : Hid (∀ v ∈ D2, v.oneCell' = true) := by show ∀ v ∈ D2, _; rw [hE2]; exact scl_one _ _
            have HZ2 : Hid (D2.length = Z.length) := by show _ = _; rw [hE2, HZL.out]; rfl
            have H2 : Hid (LW w w3.heap.size g S' h' x1 ∧ SgO 0 x1 S2 h2 ∧ LB x1 V1.heap.size 28 Z) := ⟨H1.out.1.kept y1, o2, H1.out.2.1.kept y1⟩
            have HF : Hid (∃ X, X = x1.setCells V1.heap.size 0 D2 ∧ LB X V1.heap.size 28 (scl S2 h2) ∧ SgO 0 X S2 h2 ∧ LW w w3.heap.size g S' h' X ∧ V1.heap.size ≠ w3.heap.size) := ⟨_, rfl, by rw [← HE2.out]; exact H2.out.2.2.sets D2 HZ2.out, o2.oth H2.out.2.2 (by decide) (by decide) (Oth.sets _ _ _ _), ⟨H2.out.1.1.others _ _ _ (Nat.ne_of_lt H1.out.2.2.1), H2.out.1.2.1.oth H2.out.2.2 (by decide) (by decide) (Oth.sets _ _ _ _), H2.out.1.2.2.1.others _ _ _ (Nat.ne_of_lt H1.out.2.2.2.1), H2.out.1.2.2.2.1, below_cells H1.out.2.2.2.2 _ 0 _ H2.out.1.2.2.2.2⟩, Ne.symm (Nat.ne_of_lt H1.out.2.2.1)⟩
            clear hD2 hL2 hE2 o2 y1 H1
            refine hK.out _ _ ?_ (fun hH2 => ?_)
            · exact ⟨by rw [HE'.out]; exact H2.out.1.1.range, (HXK.out _ H2.out.1.2.2.2.2).1⟩
            clear hK K hH
            have hH := hH2
            clear hH2
            refine wpAnyH_take (i := 6) (v := ?v8) rfl (by kernel_rfl) (by kernel_rfl) (by kernel_rfl) (fun _ _ _ h => h) (Or.inl ⟨by rfl, ?hy8⟩) hH ?rest8
            case hy8 => intro w' hSw; (try dsimp only at hSw); go_simp; all_goals rfl
            simp only [Act.put, List.setIfInBounds_toArray, List.set_cons_zero, List.set_cons_succ, List.getElem_toArray, List.getElem_cons_zero, List.getElem_cons_succ]
            refine wpAnyH_take (i := 7) (v := ?v9) rfl (by kernel_rfl) (by kernel_rfl) (by kernel_rfl) (fun _ _ _ h => h) (Or.inl ⟨by rfl, ?hy9⟩) hH ?rest9
            case hy9 => intro w' hSw; (try dsimp only at hSw); go_simp; all_goals rfl
            simp only [Act.put, List.setIfInBounds_toArray, List.set_cons_zero, List.set_cons_succ, List.getElem_toArray, List.getElem_cons_zero, List.getElem_cons_succ]
            refine wpAnyH_take (i := 8) (v := ?v10) rfl (by kernel_rfl) (by kernel_rfl) (by kernel_rfl) (fun _ _ _ h => h) (Or.inl ⟨by rfl, ?hy10⟩) hH ?rest10
            case hy10 => intro w' hSw; (try dsimp only at hSw); go_simp; all_goals rfl
            simp only [Act.put, List.setIfInBounds_toArray, List.set_cons_zero, List.set_cons_succ, List.getElem_toArray, List.getElem_cons_zero, List.getElem_cons_succ]
            refine wpAnyH_ready (rs := [10]) (by kernel_rfl) (by simp) ?_
            refine AllReadyH.cons rfl (fun K hK => ?_) AllReadyH.nil
            refine step_store rfl 28 (.tmp 15) (.tmp 96) rfl V1.heap.size 0 D2.toArray rfl rfl (there_of H2.out.2.2 (by simpa using HZ2.out)) (by simpa using HL2.out) (all_oneCell_toArray H12.out) ?_
            rw [List.toList_toArray]
            obtain ⟨X, hX, hq⟩ := HF.out
            rw [← hX]
            clear hX HF
            refine hK.out _ _ ?_ (fun hH2 => ?_)
            · exact ⟨by rw [HE'.out]; exact hq.2.2.1.1.range, (HXK.out _ hq.2.2.1.2.2.2.2).1⟩
            clear hK K hH
            have hH := hH2
            clear hH2
            simp only [Act.put, List.getElem_toArray, List.getElem_cons_zero, List.getElem_cons_succ]
            refine wpAnyH_take (i := 11) (v := ?v11) rfl (by kernel_rfl) (by kernel_rfl) (by kernel_rfl) (fun _ _ _ h => h) (Or.inl ⟨by rfl, ?hy11⟩) hH ?rest11
            case hy11 => intro w' hSw; (try dsimp only at hSw); go_simp; all_goals rfl
            simp only [Act.put, List.setIfInBounds_toArray, List.set_cons_zero, List.set_cons_succ, List.getElem_toArray, List.getElem_cons_zero, List.getElem_cons_succ]
            refine wpAnyH_done (by kernel_rfl) ?_ _
            go_wp2_with fail
            go_meet
            exact ⟨_, h2, rfl, rfl, hq⟩
        case rest =>
          obtain ⟨gu, h2, rfl, rfl, hq⟩ := hcut
          have HQ : Hid (LB wc gu 28 (scl S2 h2) ∧ SgO 0 wc S2 h2 ∧ LW w w3.heap.size g S' h' wc ∧ gu ≠ w3.heap.size) := hq
          clear hq HX HW HB1
          go_wp2_with fail
          refine (snum_any z _).mono ?_
          rintro e _ ⟨rfl, rfl⟩
          cases hz0 : (z != 0) with
          | true =>
            go_wp2
            go_roundw
            case rel => exact ⟨n + 1, g, S', h', rfl, by go_num, by omega, HS'.out, HQ.out.2.2.1⟩
            case measure => simp [intOf]; omega
          | false =>
            obtain ⟨u, hv, h0, hS2, hk, hp⟩ := HGD.out (by simpa using hz0)
            have hc2 : chkS S2 = true := by rw [hS2]; exact chkS_deed S' u HS'.out.1 hv h0
            have he2 : S2.x.ended = (r.x.k == 7) := by rw [hS2, ended_deed S' u hv h0, hk]; rfl
            have hn2 : S2.nm.size ≤ 140737488355000 := by rw [hS2, (steps_deed S' u HS'.out.1 hv h0).2.2.2.2.1]; exact HS'.out.2
            have he1 : S'.x.ended = false := (ref_zero h0).2.2.1
            have HFO : Hid (Calls Tryd.prog 11 #[.pointer (some ⟨g, 0, none⟩), .agg E.toArray] wc fun e w' => FolPost g wc S2.x.cnt S2.x.piv S2.outs.length S2.und.length e w') := by
              have e := follow_any S' u HS'.out.1 hv h0 r.x r.nm d hk.symm hp.symm g wc HQ.out.2.2.1.2.2.1
              rw [← hS2, show rv r.x r.nm d = .agg E.toArray by rw [HEE.out]; rfl] at e
              exact e
            have HC2 : Hid (chkS S2 = true ∧ S2.x.ended = (r.x.k == 7) ∧ S2.nm.size ≤ 140737488355000 ∧ S'.x.ended = false) := ⟨hc2, he2, hn2, he1⟩
            obtain ⟨D2, hD2, hL2, hE2⟩ := sv_letter S2 h2
            have HL2 : Hid _ := hL2
            have HE2 : Hid (D2 = scl S2 h2) := hE2
            have H12 : Hid (∀ v ∈ D2, v.oneCell' = true) := by show ∀ v ∈ D2, _; rw [hE2]; exact scl_one _ _
            have HF1 : Hid (∀ w', Below w.heap.size w w' → SgO 0 w' S' h' → Calls Tryd.prog 12 #[.agg D'.toArray] w' fun e w'' => e = .returned (.bool false) ∧ Below w'.heap.size w' w'') := fun w' hb' k' => by
              have e := HFI.out S' h' w' hb' k' HS'.out.2 HS'.out.1
              rw [he1, show sv S' h' = .agg D'.toArray by rw [HE'.out]; rfl] at e
              exact e
            have HF2 : Hid (∀ w', Below w.heap.size w w' → SgO 0 w' S2 h2 → Calls Tryd.prog 12 #[.agg D2.toArray] w' fun e w'' => e = .returned (.bool (r.x.k == 7)) ∧ Below w'.heap.size w' w'') := fun w' hb' k' => by
              have e := HFI.out S2 h2 w' hb' k' hn2 hc2
              rw [he2, hD2] at e
              exact e
            have HXC : Hid (wc.rangeAt b (off + n * 12) E) := (HXK.out _ HQ.out.2.2.1.2.2.2.2).1
            clear hv h0 hS2 hk hp hc2 he2 hn2 he1 hD2 hL2 hE2 HGD u
            go_wp2_with (first | (refine wpList_load_mid rfl 25 _ rfl b (off + n * 12) rfl E _ HXC.out Tryd.underlying25 rfl HEL.out ?_) | fail)
            refine HFO.out.mono ?_
            rintro e x3 ⟨rfl, l3, ho3, bl3⟩
            have H3 : Hid (LB x3 w3.heap.size 28 D' ∧ SgO 0 x3 S' h' ∧ LB x3 gu 28 D2 ∧ SgO 0 x3 S2 h2 ∧ LB x3 g 38 (trl S2.x.cnt S2.x.piv S2.outs.length S2.und.length) ∧ Below w.heap.size w x3) := by
              obtain ⟨q1, q2, ⟨q3, q4, q5, q6, q7⟩, q8⟩ := HQ.out
              exact ⟨by rw [HE'.out]; exact q3.oth ho3 (lb_ne q3 q5 (by decide)), q4.oth q5 (by decide) (by decide) ho3, by rw [HE2.out]; exact q1.oth ho3 (lb_ne q1 q5 (by decide)), q2.oth q5 (by decide) (by decide) ho3, l3, q7.trans (bl3.mono q6)⟩
            have HGG : Hid (w.heap.size ≤ g ∧ gu ≠ w3.heap.size) := ⟨HQ.out.2.2.1.2.2.2.1, HQ.out.2.2.2⟩
            clear l3 ho3 bl3 HQ HFO HXC hz0
            go_wp2_with (first | (refine wpList_load_mid rfl 28 _ rfl w3.heap.size 0 rfl D' _ H3.out.1.range Tryd.underlying28 rfl HL'.out ?_) | (refine wpList_load_midG rfl 28 _ rfl w3.heap.size 0 rfl D' _ H3.out.1.range Tryd.underlying28 rfl HL'.out ?_) | fail)
            refine (HF1.out _ H3.out.2.2.2.2.2 H3.out.2.1).mono ?_
            rintro e x4 ⟨rfl, y4⟩
            have H4 : Hid (LB x4 w3.heap.size 28 D' ∧ LB x4 gu 28 D2 ∧ SgO 0 x4 S2 h2 ∧ LB x4 g 38 (trl S2.x.cnt S2.x.piv S2.outs.length S2.und.length) ∧ Below w.heap.size w x4) := ⟨H3.out.1.kept y4, H3.out.2.2.1.kept y4, H3.out.2.2.2.1.kept y4, H3.out.2.2.2.2.1.kept y4, andThen H3.out.2.2.2.2.2 y4⟩
            have HLD : Hid (D2.length = D'.length) := by show _ = _; rw [HE2.out, HE'.out]; rfl
            have HT4 : Hid (x4.there w3.heap.size 0 D2.toArray.size) := there_of H4.out.1 (by simpa using HLD.out)
            have H5 : Hid (∃ X5, X5 = x4.setCells w3.heap.size 0 D2 ∧ LW w w3.heap.size g S2 h2 X5) := ⟨_, rfl, by rw [← HE2.out]; exact H4.out.1.sets D2 HLD.out, H4.out.2.2.1.oth H4.out.1 (by decide) (by decide) (Oth.sets _ _ _ _), H4.out.2.2.2.1.others _ _ _ (lb_ne H4.out.2.2.2.1 H4.out.1 (by decide)), HGG.out.1, below_cells HSL.out _ 0 _ H4.out.2.2.2.2⟩
            clear y4 H3 HF1
            go_wp2_with (first | (refine wpList_load_mid rfl 28 _ rfl gu 0 rfl D2 _ H4.out.2.1.range Tryd.underlying28 rfl HL2.out ?_) | (refine wpList_store_mid rfl 28 (.tmp 5) (.tmp 113) rfl w3.heap.size 0 D2.toArray rfl rfl HT4.out (by simpa using HL2.out) (all_oneCell_toArray H12.out) ?_; (obtain ⟨X5, hX5, hq⟩ := H5.out); (have H6 : Hid (LW w w3.heap.size g S2 h2 X5) := hq); (rw [List.toList_toArray, ← hX5]); (clear hX5 hq H5 HT4)) | fail)
            clear H4
            have rk : X5.cell? ⟨b, off + n * 12 + 1, none⟩ = some (.int .i64 r.x.k) := (HXK.out _ H6.out.2.2.2.2).1 1 _ (by rw [HEE.out]; rfl)
            simp only [Act.put, List.setIfInBounds_toArray, List.set_cons_zero, List.set_cons_succ]
            go_cut [160] from 59 to 169 (fun s wx => s = .bool false ∧ LW w w3.heap.size g S2 h2 wx)
            case first =>
              cases q7 : (r.x.k == 7) with
              | false =>
                go_quiet (fail)
                go_wp2_with fail
                go_meet
                exact ⟨rfl, H6.out.kept (drewN_below (Below.refl _ _) nq)⟩
              | true =>
                have hk7 : r.x.k = 7 := by simpa using q7
                rw [hk7] at rk
                rcases ended_whole S2 HC2.out.1 (by rw [HC2.out.2.1]; exact q7) with ⟨p3, p1, p2⟩ | ⟨p4, p1⟩
                · have c7 := H6.out.1.cell 7 (.int .i64 3) (by rw [← p3]; rfl)
                  have t2 := H6.out.2.2.1.cell 2 (.int .i64 (S2.outs.length : Int)) rfl
                  have t0 := H6.out.2.2.1.cell 0 (.int .i64 (S2.outs.length : Int)) (by rw [p1]; rfl)
                  have t3 := H6.out.2.2.1.cell 3 (.int .i64 0) (by rw [p2]; rfl)
                  have d1 : ((S2.outs.length : Int) == (S2.outs.length : Int)) = true := by simp
                  clear p3 p1 p2 hk7 q7
                  go_quiet (fail)
                  go_wp2_with fail
                  go_meet
                  exact ⟨rfl, H6.out.kept (drewN_below (Below.refl _ _) nq)⟩
                · have c7 := H6.out.1.cell 7 (.int .i64 4) (by rw [← p4]; rfl)
                  have t2 := H6.out.2.2.1.cell 2 (.int .i64 (S2.outs.length : Int)) rfl
                  have t3 := H6.out.2.2.1.cell 3 (.int .i64 (S2.outs.length : Int)) (by rw [p1]; rfl)
                  have d1 : ((S2.outs.length : Int) == (S2.outs.length : Int)) = true := by simp
                  clear p4 p1 hk7 q7
                  go_quiet (fail)
                  go_wp2_with fail
                  go_meet
                  exact ⟨rfl, H6.out.kept (drewN_below (Below.refl _ _) nq)⟩
            case rest =>
              obtain ⟨rfl, hq⟩ := hcut
              have H7 : Hid (LW w w3.heap.size g S2 h2 wc) := hq
              clear hq H6 rk
              go_wp2
              obtain ⟨q, hq7⟩ : ∃ q, (r.x.k == 7) = q := ⟨_, rfl⟩
              rw [hq7] at HF2
              have dq : (q != q) = false := by cases q <;> rfl
              have H8 : Hid (LW w w3.heap.size g S2 h2 wc.drew) := H7.out.kept (Below.drew (Below.refl _ _))
              refine wp_region_held_drew (S := fun w' : World => w'.rangeAt w3.heap.size 0 D2 ∧ w'.cell? ⟨b, off + n * 12 + 1, none⟩ = some (.int .i64 r.x.k)) (by kernel_rfl) ?_ (fun hH => ?_)
              · exact ⟨by rw [HE2.out]; exact H8.out.1.range, (HXK.out _ H8.out.2.2.2.2).1 1 _ (by rw [HEE.out]; rfl)⟩
              clear H7
              generalize wc.drew = V1 at *
              refine wpAnyH_take (i := 0) rfl (by kernel_rfl) (by kernel_rfl) (by kernel_rfl) (fun _ _ _ h => h) (yieldsIf_load_mid (by rfl) _ _ rfl _ _ rfl D2 _ (fun w' hSw => hSw.1) Tryd.underlying28 rfl HL2.out) hH ?_
              simp only [Act.put, List.setIfInBounds_toArray, List.set_cons_zero, List.set_cons_succ, List.getElem_toArray, List.getElem_cons_zero]
              refine wpAnyH_take (i := 2) (v := ?v201) rfl (by kernel_rfl) (by kernel_rfl) (by kernel_rfl) (fun _ _ _ h => h) (Or.inl ⟨by rfl, ?hy201⟩) hH ?rest201
              case hy201 => intro w' hSw; (try dsimp only at hSw); go_simp; all_goals rfl
              simp only [Act.put, List.setIfInBounds_toArray, List.set_cons_zero, List.set_cons_succ, List.getElem_toArray, List.getElem_cons_zero, List.getElem_cons_succ]
              refine wpAnyH_take (i := 3) (v := ?v202) rfl (by kernel_rfl) (by kernel_rfl) (by kernel_rfl) (fun _ _ _ h => h) (Or.inl ⟨by rfl, ?hy202⟩) hH ?rest202
              case hy202 => intro w' hSw; (try dsimp only at hSw); go_simp; all_goals rfl
              simp only [Act.put, List.setIfInBounds_toArray, List.set_cons_zero, List.set_cons_succ, List.getElem_toArray, List.getElem_cons_zero, List.getElem_cons_succ]
              refine wpAnyH_take (i := 4) (v := ?v203) rfl (by kernel_rfl) (by kernel_rfl) (by kernel_rfl) (fun _ _ _ h => h) (Or.inl ⟨by rfl, ?hy203⟩) hH ?rest203
              case hy203 => intro w' hSw; (try dsimp only at hSw); go_simp; all_goals rfl
              simp only [Act.put, List.setIfInBounds_toArray, List.set_cons_zero, List.set_cons_succ, List.getElem_toArray, List.getElem_cons_zero, List.getElem_cons_succ]
              refine wpAnyH_take (i := 5) (v := ?v204) rfl (by kernel_rfl) (by kernel_rfl) (by kernel_rfl) (fun _ _ _ h => h) (Or.inl ⟨by rfl, ?hy204⟩) hH ?rest204
              case hy204 => intro w' hSw; (try dsimp only at hSw); go_simp; all_goals rfl
              simp only [Act.put, List.setIfInBounds_toArray, List.set_cons_zero, List.set_cons_succ, List.getElem_toArray, List.getElem_cons_zero, List.getElem_cons_succ]
              refine wpAnyH_take (i := 6) (v := ?v205) rfl (by kernel_rfl) (by kernel_rfl) (by kernel_rfl) (fun _ _ _ h => h) (Or.inl ⟨by rfl, ?hy205⟩) hH ?rest205
              case hy205 => intro w' hSw; (try dsimp only at hSw); go_simp; all_goals rfl
              simp only [Act.put, List.setIfInBounds_toArray, List.set_cons_zero, List.set_cons_succ, List.getElem_toArray, List.getElem_cons_zero, List.getElem_cons_succ]
              refine wpAnyH_take (i := 7) (v := ?v206) rfl (by kernel_rfl) (by kernel_rfl) (by kernel_rfl) (fun _ _ _ h => h) (Or.inl ⟨by rfl, ?hy206⟩) hH ?rest206
              case hy206 => intro w' hSw; (try dsimp only at hSw); go_simp; all_goals rfl
              simp only [Act.put, List.setIfInBounds_toArray, List.set_cons_zero, List.set_cons_succ, List.getElem_toArray, List.getElem_cons_zero, List.getElem_cons_succ]
              refine wpAnyH_ready (rs := [1]) (by kernel_rfl) (by simp) ?_
              refine AllReadyH.cons rfl (fun K hK => ?_) AllReadyH.nil
              go_simp
              refine (HF2.out _ H8.out.2.2.2.2 H8.out.2.1).mono ?_
              rintro e x9 ⟨rfl, y9⟩
              have H9 : Hid (LW w w3.heap.size g S2 h2 x9) := H8.out.kept y9
              refine hK.out _ _ ?_ (fun hH2 => ?_)
              · exact ⟨by rw [HE2.out]; exact H9.out.1.range, (HXK.out _ H9.out.2.2.2.2).1 1 _ (by rw [HEE.out]; rfl)⟩
              clear hK K hH y9 H8
              have hH := hH2
              clear hH2
              refine wpAnyH_take (i := 8) (v := ?v207) rfl (by kernel_rfl) (by kernel_rfl) (by kernel_rfl) (fun _ _ _ h => h) (Or.inl ⟨by rfl, ?hy207⟩) hH ?rest207
              case hy207 => intro w' hSw; (try dsimp only at hSw); go_simp; all_goals rfl
              simp only [Act.put, List.setIfInBounds_toArray, List.set_cons_zero, List.set_cons_succ, List.getElem_toArray, List.getElem_cons_zero, List.getElem_cons_succ]
              refine wpAnyH_done (by kernel_rfl) ?_ _
              clear hH
              go_wp2
              go_roundw
              case rel => exact ⟨n + 1, g, S2, h2, rfl, by go_num, by omega, ⟨HC2.out.1, HC2.out.2.2.1⟩, H9.out⟩
              case measure => simp [intOf]; omega
    · obtain rfl : n = rs.length := by omega
      go_wp2
      go_ret
      exact ⟨rfl, HW.out.2.2.2.2⟩
end Go.Proofs.YtckhhkgemkklnaaDoor
