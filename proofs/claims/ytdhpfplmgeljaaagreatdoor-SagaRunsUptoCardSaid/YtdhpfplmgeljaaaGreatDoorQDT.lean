import Derived.Test.YtdhpfplmgeljaaaGreatDoorQS2
import Derived.Deep.CutRange
import Derived.Test.YtdhpfplmgeljaaaGreatDoorQDQ
import Derived.Test.YtdhpfplmgeljaaaGreatDoorQDJ
import Derived.Test.YtdhpfplmgeljaaaGreatDoorQSM
import Derived.Test.YtdhpfplmgeljaaaGreatDoorQSY
import Derived.Test.YtdhpfplmgeljaaaGreatDoorQE2
namespace Go.Proofs.YtdhpfplmgeljaaaGreatDoor
open Go Go.RowKit
open Wb

theorem SgOwn.o {B : Nat} {w : World} {S : Sg} {h : SH} (k : SgOwn B w S h) : SgO B w S h := ⟨k.inp, k.outs, k.und, k.fail⟩
def GoodS (S : Sg) : Prop := chkS S = true ∧ S.nm.size ≤ 1048576 ∧ -9223372036854775808 ≤ S.x.fc ∧ S.x.fc ≤ 9223372036854775807
theorem begin_fine (r : Rec) (hok : ok r.l) (hf : r.x.fit) (h : (beginP r).1 = 0) : GoodS (beginP r).2 := by
  obtain ⟨q1, _, _, q4⟩ := begin_good r hok hf h
  have q5 : (beginP r).2.x.fc = 0 := by
    unfold beginP
    split
    · rfl
    · split
      · rfl
      · rfl
  exact ⟨q1, by omega, by omega, by omega⟩
theorem apply_fine (S : Sg) (r : Rec) (hok : ok r.l) (hf : r.x.fit) (hS : GoodS S) (hk : r.x.k ≠ 1) (h : (applyP S r).1 = 0) : GoodS (applyP S r).2 := by
  obtain ⟨u, hv, h0, hS2, _⟩ := apply_good S r hok hk h
  have q3 : -9223372036854775808 ≤ (applyP S r).2.x.fc ∧ (applyP S r).2.x.fc ≤ 9223372036854775807 := by
    unfold applyP at h ⊢
    rw [if_neg (by simp [hS.1])] at h ⊢
    by_cases h1 : (upP 3 r).1 ≠ 0
    · rw [if_pos h1] at h
      exact absurd h h1
    · rw [if_neg h1] at h ⊢
      by_cases h2 : refP S.x (upP 3 r).2.x ≠ 0
      · rw [if_pos h2] at h
        exact absurd h h2
      · rw [if_neg h2]
        obtain ⟨hv2, _, _, hs2⟩ := up3 r hok (by simpa using h1)
        have hu := (fit_v3 _ hv2 (by rw [hs2]; exact (hf 2 (by omega) (by omega)).2)).c
        show -9223372036854775808 ≤ (deedS S (upP 3 r).2).x.fc ∧ (deedS S (upP 3 r).2).x.fc ≤ 9223372036854775807
        unfold deedS
        split
        · exact hS.2.2
        · split
          · exact hS.2.2
          · split
            · split
              · exact hS.2.2
              · exact hu
            · split
              · exact hS.2.2
              · exact hS.2.2
  refine ⟨?_, ?_, q3⟩
  · rw [hS2]
    exact chkS_deed S u hS.1 hv h0
  · rw [hS2, (steps_deed S u hS.1 hv h0).2.2.2.2.1]
    exact hS.2.1
def BP (z : Int) (S : Sg) (w : World) (e : Ending) (w' : World) : Prop := ∃ h', e = .returned (.tuple #[sv S h', .int .i64 z]) ∧ SgO 0 w' S h' ∧ Below w.heap.size w w'
def RW (w : World) (a b : Nat) (S : Sg) (h h2 : SH) (wr : World) : Prop := LB wr a 29 (scl S h) ∧ LB wr b 29 (scl S h2) ∧ SgO 0 wr S h ∧ SgO 0 wr S h2 ∧ Below w.heap.size w wr
theorem RW.kept {w wr wr' : World} {a b : Nat} {S : Sg} {h h2 : SH} (k : RW w a b S h h2 wr) (hb : Below wr.heap.size wr wr') : RW w a b S h h2 wr' := ⟨k.1.kept hb, k.2.1.kept hb, k.2.2.1.kept hb, k.2.2.2.1.kept hb, andThen k.2.2.2.2 hb⟩
theorem RW.put {w wr : World} {a b g : Nat} {S : Sg} {h h2 : SH} {C : List Value} (k : RW w a b S h h2 wr) (L : LB wr g 29 C) (ha : a ≠ g) (hb : b ≠ g) (hg : w.heap.size ≤ g) (D : List Value) : RW w a b S h h2 (wr.setCells g 0 D) := ⟨k.1.others _ _ _ ha, k.2.1.others _ _ _ hb, sgo_oth k.2.2.1 L (Oth.sets _ _ _ _), sgo_oth k.2.2.2.1 L (Oth.sets _ _ _ _), below_cells hg _ 0 _ k.2.2.2.2⟩
set_option maxRecDepth 100000 in
theorem wpList_build_op {L : List Value} {K : Int} {D : List Value} (hL : (.int .i64 K :: (D ++ zrl) : List Value) = L) (hl : D.length = 16) {ops : Array Oper} {rest : List Oper} {op : Oper} {a : Act} {w : World} {Q : Exit → Act → World → Prop} (hw : Region.wanted op (yielded ops a.tmps) = true) (t : Nat) (ho : op.op = .build 43 #[(0, .const (.int .i64 K)), (1, .tmp t)])
    (hx : a.eval (.tmp t) = .agg D.toArray) (h : wpList Tryz.prog ops Q rest (a.put op.dst (.agg L.toArray)) w) : wpList Tryz.prog ops Q (op :: rest) a w := by
  subst hL
  refine wpList_step fun K2 hK => ?_
  rw [if_pos hw]
  obtain ⟨dst, op', ty, pos, after, guard⟩ := op
  simp only at ho
  subst ho
  have hK2 := hK _ _ h
  clear hK h hw
  match D, hl with
  | [d0, d1, d2, d3, d4, d5, d6, d7, d8, d9, d10, d11, d12, d13, d14, d15], _ =>
    simp [Act.eval] at hx
    unfold zrl at hK2
    simp only [List.cons_append, List.nil_append] at hK2
    go_simp
    exact hK2
set_option maxRecDepth 100000 in
set_option maxHeartbeats 16000000 in
theorem sagaRuns_walk (v va : Value) (rs : List Rec) (m : Nat) (w : World) (hR : RecsAt w v rs) (hg : LGood rs) (hA : IntsAt w va m) (hT : STabs w) (hU : Tabs w) :
    Calls Tryz.prog 3 #[v, va] w fun e w' => e = .returned (.bool true) ∧ Below w.heap.size w w' := by
  have HBR : Hid (∀ (r : Rec) (d : Value) (w' : World), Below w.heap.size w w' → Bs w' d r.l → r.nm.size ≤ 1048576 → r.x.fit → Calls Tryz.prog 6 #[rv r.x r.nm d] w' fun e w'' => BP (beginP r).1 (beginP r).2 w' e w'') := fun r d w' hb' hd h1 h2 =>
    (begin_any r d w' hd (hT.kept hb').e (by omega) h2).mono fun e w'' ⟨h', e1, e2, e3⟩ => ⟨h', e1, e2.weak (Nat.zero_le _), e3⟩
  have HBX : Hid (∀ (r : Rec) (d : Value) (w' : World), Below w.heap.size w w' → Bs w' d r.l → r.nm.size ≤ 1048576 → r.x.fit → Calls Tryz.prog 7 #[rv r.x r.nm d] w' fun e w'' => BP (beginP r).1 (beginP r).2 w' e w'') := fun r d w' hb' hd h1 h2 =>
    (rxbegin_any r d w' hd (hU.kept hb') h1 h2).mono fun e w'' ⟨h', e1, e2, e3⟩ => ⟨h', e1, e2.o.weak (Nat.zero_le _), e3⟩
  have HAP : Hid (∀ (S' : Sg) (h' : SH) (r : Rec) (d : Value) (w' : World), Below w.heap.size w w' → SgO 0 w' S' h' → GoodS S' → Bs w' d r.l → r.nm.size ≤ 1048576 → r.x.fit → Calls Tryz.prog 10 #[sv S' h', rv r.x r.nm d] w' fun e w'' => BP (applyP S' r).1 (applyP S' r).2 w' e w'') := fun S' h' r d w' hb' k' hn' hd h1 h2 =>
    (apply_any S' h' r d w' k'.at hd (hT.kept hb') (by have := hn'.2.1; omega) (by omega) h2).mono fun e w'' ⟨h'', e1, e2, e3⟩ => ⟨h'', e1, e2.weak (Nat.zero_le _), e3⟩
  have HAX : Hid (∀ (S' : Sg) (h' : SH) (r : Rec) (d : Value) (w' : World), Below w.heap.size w w' → SgO 0 w' S' h' → GoodS S' → Bs w' d r.l → r.nm.size ≤ 1048576 → r.x.fit → Calls Tryz.prog 11 #[sv S' h', rv r.x r.nm d] w' fun e w'' => BP (applyP S' r).1 (applyP S' r).2 w' e w'') := fun S' h' r d w' hb' k' hn' hd h1 h2 =>
    (rxapply_any S' h' r d w' k'.at hd (hU.kept hb') hn'.1 hn'.2.2 hn'.2.1 h1 h2).mono fun e w'' ⟨h'', e1, e2, e3⟩ => ⟨h'', e1, e2.o.weak (Nat.zero_le _), e3⟩
  have HSM : Hid (∀ (S' : Sg) (h' h2 : SH) (w' : World), SgO 0 w' S' h' → SgO 0 w' S' h2 → Calls Tryz.prog 9 #[sv S' h', sv S' h2] w' fun e w'' => e = .returned (.bool true) ∧ Below w'.heap.size w' w'') := fun S' h' h2 w' q1 q2 => same_any S' h' h2 w' q1.at q2.at
  have HQ3 : Hid (∀ (S' : Sg) (h' : SH) (w' : World), Below w.heap.size w w' → SgO 0 w' S' h' → GoodS S' → Calls Tryz.prog 12 #[.agg (.int .i64 3 :: (scl S' h' ++ zrl)).toArray] w' fun e w'' => e = .returned (.bool true) ∧ Below w'.heap.size w' w'') := fun S' h' w' hb' k' hn' => asked_3 S' h' zeroNums ⟨#[]⟩ (.slice none 0 0) w' k'.at (hT.kept hb').e.tabs.lets (hU.kept hb') hn'.2.1 hn'.1 hn'.2.2
  have HQ4 : Hid (∀ (S' : Sg) (h' : SH) (w' : World), Below w.heap.size w w' → SgO 0 w' S' h' → GoodS S' → Calls Tryz.prog 12 #[.agg (.int .i64 4 :: (scl S' h' ++ zrl)).toArray] w' fun e w'' => e = .returned (.bool true) ∧ Below w'.heap.size w' w'') := fun S' h' w' hb' k' hn' => asked_4 S' h' zeroNums ⟨#[]⟩ (.slice none 0 0) w' k'.at (hT.kept hb').e.tabs.lets (hT.kept hb').k (hU.kept hb') hn'.2.1 hn'.1 hn'.2.2
  have HQ5 : Hid (∀ (S' : Sg) (h' : SH) (w' : World), Below w.heap.size w w' → SgO 0 w' S' h' → GoodS S' → Calls Tryz.prog 12 #[.agg (.int .i64 5 :: (scl S' h' ++ zrl)).toArray] w' fun e w'' => e = .returned (.bool true) ∧ Below w'.heap.size w' w'') := fun S' h' w' hb' k' hn' => asked_5 S' h' zeroNums ⟨#[]⟩ (.slice none 0 0) w' k'.at (hT.kept hb').e.tabs.lets (hU.kept hb') hn'.2.1 hn'.1 hn'.2.2
  have HGE : Hid (∀ r ∈ rs, r.nm.size ≤ 1048576 ∧ r.x.fit ∧ r.l.length ≤ 1048576) := hg.each
  obtain ⟨ao, cap, rfl, hm, hcr0⟩ := hR
  have HRA : Hid (∀ k r, rs[k]? = some r → ∃ b off d, ao = some ⟨b, off, none⟩ ∧ w.rangeAt b (off + k * 12) (rcl (r, d)) ∧ Bs w d r.l) := hcr0
  obtain ⟨ao2, cap2, rfl, hm2, hcr2⟩ := hA
  have HIA : Hid (∀ k, k < m → ∃ b off z, ao2 = some ⟨b, off, none⟩ ∧ w.cell? ⟨b, off + k, none⟩ = some (.int .i64 z)) := hcr2
  clear hcr0 hcr2 hm
  have hfew := hg.few
  clear hT hg hU
  obtain ⟨Z, hZ⟩ : ∃ Z, Z = zcl := ⟨_, rfl⟩
  obtain ⟨ZR, hZR⟩ : ∃ ZR, ZR = zrl := ⟨_, rfl⟩
  have HZ : Hid (Z = zcl) := hZ
  have HZR : Hid (ZR = zrl) := hZR
  have HZL : Hid (Z.length = 16) := by show _ = _; rw [hZ]; rfl
  have HZRL : Hid (ZR.length = 12) := by show _ = _; rw [hZR]; rfl
  clear hZ hZR
  go_enter Tryz.func3, Tryz.ntmps3
  go_wp2_with fail
  refine (first_any _).mono ?_
  rintro e w1 ⟨a1, c1, h1, rfl, bs1, -, b1⟩
  have H1 : Hid (Bs w1 (.slice a1 rec1.l.length c1) rec1.l ∧ Below w.heap.size w w1) := ⟨bs1, b1⟩
  clear b1 bs1
  obtain ⟨G1, hG1, hGL, hGE⟩ := rv_letter rec1.x rec1.nm (.slice a1 rec1.l.length c1)
  obtain ⟨D1, hD1, hDL, hDE⟩ := sv_letter sg1 h1
  rw [hG1, hD1]
  have HB1 : Hid (∀ w', Below w.heap.size w w' → Bs w' (.slice a1 rec1.l.length c1) rec1.l → Calls Tryz.prog 6 #[.agg G1.toArray] w' fun e w'' => BP 0 sg1 w' e w'') := fun w' hb' hd => by
    have e := HBR.out rec1 _ w' hb' hd (by decide) first_fit
    rw [hG1, first_begin] at e
    exact e
  have HB2 : Hid (∀ w', Below w.heap.size w w' → Bs w' (.slice a1 rec1.l.length c1) rec1.l → Calls Tryz.prog 7 #[.agg G1.toArray] w' fun e w'' => BP 0 sg1 w' e w'') := fun w' hb' hd => by
    have e := HBX.out rec1 _ w' hb' hd (by decide) first_fit
    rw [hG1, first_begin] at e
    exact e
  have HGL : Hid _ := hGL
  have HDL : Hid _ := hDL
  have HG1 : Hid (∀ v ∈ G1, v.oneCell' = true) := by show ∀ v ∈ G1, _; rw [hGE]; exact rcE_one _ _ _ rfl
  have HD1 : Hid (∀ v ∈ D1, v.oneCell' = true) := by show ∀ v ∈ D1, _; rw [hDE]; exact scl_one _ _
  have HGZ : Hid (G1.length = ZR.length) := by show _ = _; rw [hGE, HZRL.out]; rfl
  have HDZ : Hid (D1.length = Z.length) := by show _ = _; rw [hDE, HZL.out]; rfl
  have HT1 : Hid (((w1.alloc (.cells ZR.toArray 26)).alloc (.cells Z.toArray 29)).there w1.heap.size 0 G1.toArray.size) := there_of (lb_new2 w1 ZR Z _ _).1 (by simpa using HGZ.out)
  have HT2 : Hid ((((w1.alloc (.cells ZR.toArray 26)).alloc (.cells Z.toArray 29)).setCells w1.heap.size 0 G1).there (w1.heap.size + 1) 0 D1.toArray.size) := there_of ((lb_new2 w1 ZR Z _ _).2.1.others _ _ _ (by omega)) (by simpa using HDZ.out)
  have H2 : Hid (∃ W2, W2 = (((w1.alloc (.cells ZR.toArray 26)).alloc (.cells Z.toArray 29)).setCells w1.heap.size 0 G1).setCells (w1.heap.size + 1) 0 D1 ∧ LB W2 w1.heap.size 26 G1 ∧ Bs W2 (.slice a1 rec1.l.length c1) rec1.l ∧ Below w.heap.size w W2) := by
    obtain ⟨q1, q2, q3⟩ := two_boxes w1 26 29 ZR Z G1 D1 HGZ.out HDZ.out
    exact ⟨_, rfl, q1, H1.out.1.kept q3, andThen H1.out.2 q3⟩
  clear hG1 hGL hGE hD1 hDL hDE H1
  go_wp2_with (first | (refine wpList_alloc_R HZR.out rfl rfl ?_) | (refine wpList_alloc_Z HZ.out rfl rfl ?_; (try simp only [heap_one])) | (refine wpList_store_mid rfl 26 (.tmp 5) (.tmp 19) rfl w1.heap.size 0 G1.toArray rfl rfl HT1.out (by simpa using HGL.out) (all_oneCell_toArray HG1.out) ?_; (rw [List.toList_toArray])) | (refine wpList_store_mid rfl 29 (.tmp 6) (.tmp 20) rfl (w1.heap.size + 1) 0 D1.toArray rfl rfl HT2.out (by simpa using HDL.out) (all_oneCell_toArray HD1.out) ?_; (obtain ⟨W2, hW2, hq⟩ := H2.out); (have H3 : Hid _ := hq); (rw [List.toList_toArray, ← hW2]); (clear hW2 hq H2 HT1 HT2)) | (refine wpList_load_mid rfl 26 _ rfl w1.heap.size 0 rfl G1 _ H3.out.1.range Tryz.underlying26 rfl HGL.out ?_) | fail)
  generalize w1.heap.size = p5 at *
  refine (HB1.out _ H3.out.2.2 H3.out.2.1).mono ?_
  rintro e w3 ⟨h3, rfl, at3, b3⟩
  clear HG1 HD1 HGZ HDZ HDL HB1
  obtain ⟨D3, hD3, hL3, hE3⟩ := sv_letter sg1 h3
  rw [hD3]
  have HL3 : Hid _ := hL3
  have HE3 : Hid (D3 = scl sg1 h3) := hE3
  have H13 : Hid (∀ v ∈ D3, v.oneCell' = true) := by show ∀ v ∈ D3, _; rw [hE3]; exact scl_one _ _
  have HZ3 : Hid (D3.length = Z.length) := by show _ = _; rw [hE3, HZL.out]; rfl
  have HT3 : Hid ((w3.alloc (.cells Z.toArray 29)).there w3.heap.size 0 D3.toArray.size) := there_of (lb_new w3 Z _) (by simpa using HZ3.out)
  have H5 : Hid (∃ W4, W4 = (w3.alloc (.cells Z.toArray 29)).setCells w3.heap.size 0 D3 ∧ LB W4 w3.heap.size 29 D3 ∧ SgO 0 W4 sg1 h3 ∧ LB W4 p5 26 G1 ∧ Bs W4 (.slice a1 rec1.l.length c1) rec1.l ∧ Below w.heap.size w W4 ∧ w.heap.size ≤ w3.heap.size) := by
    obtain ⟨q1, q3⟩ := one_box w3 29 Z D3 HZ3.out
    have q4 := andThen H3.out.2.2 b3
    exact ⟨_, rfl, q1, at3.kept q3, (H3.out.1.kept b3).kept q3, (H3.out.2.1.kept b3).kept q3, andThen q4 q3, q4.size⟩
  clear hD3 hL3 hE3 H3 at3 b3
  go_wp2_with (first | (refine wpList_alloc_Z HZ.out rfl rfl ?_) | (refine wpList_store_mid rfl 29 (.tmp 7) (.tmp 24) rfl w3.heap.size 0 D3.toArray rfl rfl HT3.out (by simpa using HL3.out) (all_oneCell_toArray H13.out) ?_; (obtain ⟨W4, hW4, hq⟩ := H5.out); (have H6 : Hid _ := hq); (rw [List.toList_toArray, ← hW4]); (clear hW4 hq H5 HT3)) | (refine wpList_load_mid rfl 26 _ rfl p5 0 rfl G1 _ H6.out.2.2.1.range Tryz.underlying26 rfl HGL.out ?_) | fail)
  generalize w3.heap.size = a at *
  refine (HB2.out _ H6.out.2.2.2.2.1 H6.out.2.2.2.1).mono ?_
  rintro e w5 ⟨h5, rfl, at5, b5⟩
  clear HB2 HGL
  obtain ⟨D5, hD5, hL5, hE5⟩ := sv_letter sg1 h5
  rw [hD5]
  have HL5 : Hid _ := hL5
  have HE5 : Hid (D5 = scl sg1 h5) := hE5
  have H15 : Hid (∀ v ∈ D5, v.oneCell' = true) := by show ∀ v ∈ D5, _; rw [hE5]; exact scl_one _ _
  have HZ5 : Hid (D5.length = Z.length) := by show _ = _; rw [hE5, HZL.out]; rfl
  have HT5 : Hid ((w5.alloc (.cells Z.toArray 29)).there w5.heap.size 0 D5.toArray.size) := there_of (lb_new w5 Z _) (by simpa using HZ5.out)
  have H7 : Hid (∃ W6, W6 = (w5.alloc (.cells Z.toArray 29)).setCells w5.heap.size 0 D5 ∧ RW w a w5.heap.size sg1 h3 h5 W6 ∧ w.heap.size ≤ a ∧ w.heap.size ≤ w5.heap.size ∧ a ≠ w5.heap.size) := by
    obtain ⟨q1, q3⟩ := one_box w5 29 Z D5 HZ5.out
    have q4 := andThen H6.out.2.2.2.2.1 b5
    exact ⟨_, rfl, ⟨by rw [← HE3.out]; exact (H6.out.1.kept b5).kept q3, by rw [← HE5.out]; exact q1, (H6.out.2.1.kept b5).kept q3, at5.kept q3, andThen q4 q3⟩, H6.out.2.2.2.2.2, q4.size, Nat.ne_of_lt (H6.out.1.kept b5).lt⟩
  have HS1 : Hid (∀ w', SgO 0 w' sg1 h3 → SgO 0 w' sg1 h5 → Calls Tryz.prog 9 #[.agg D3.toArray, .agg D5.toArray] w' fun e w'' => e = .returned (.bool true) ∧ Below w'.heap.size w' w'') := fun w' q1 q2 => by
    have e := HSM.out sg1 h3 h5 w' q1 q2
    rw [hD5, show sv sg1 h3 = .agg D3.toArray by rw [HE3.out]; rfl] at e
    exact e
  clear hD5 hL5 hE5 H6 at5 b5
  go_wp2_with (first | (refine wpList_alloc_Z HZ.out rfl rfl ?_) | (refine wpList_store_mid rfl 29 (.tmp 9) (.tmp 29) rfl w5.heap.size 0 D5.toArray rfl rfl HT5.out (by simpa using HL5.out) (all_oneCell_toArray H15.out) ?_; (obtain ⟨W6, hW6, hq⟩ := H7.out); (have H8 : Hid _ := hq); (rw [List.toList_toArray, ← hW6]); (clear hW6 hq H7 HT5)) | fail)
  generalize w5.heap.size = b at *
  refine (snum_any 0 _).mono ?_
  rintro e _ ⟨rfl, rfl⟩
  have HR1 : Hid (LB W6 a 29 D3 ∧ LB W6 b 29 D5) := ⟨by rw [HE3.out]; exact H8.out.1.1, by rw [HE5.out]; exact H8.out.1.2.1⟩
  go_wp2_with (first | (refine wpList_load_midG rfl 29 _ rfl a 0 rfl D3 _ HR1.out.1.range Tryz.underlying29 rfl HL3.out ?_) | (refine wpList_load_midG rfl 29 _ rfl b 0 rfl D5 _ HR1.out.2.range Tryz.underlying29 rfl HL5.out ?_) | fail)
  refine (HS1.out _ H8.out.1.2.2.1 H8.out.1.2.2.2.1).mono ?_
  rintro e w7 ⟨rfl, b7⟩
  have H9 : Hid (RW w a b sg1 h3 h5 w7) := H8.out.1.kept b7
  have HSL : Hid (w.heap.size ≤ a ∧ w.heap.size ≤ b ∧ a ≠ b) := H8.out.2
  clear b7 H8 HR1 HS1 HL3 HL5 HE3 HE5 H13 H15 HZ3 HZ5
  go_wp2
  go_loopw [11] (fun i wr => ∃ (n : Nat) (S' : Sg) (h' h2' : SH), i = .int .i64 (n : Int) ∧ n ≤ rs.length ∧ GoodS S' ∧ RW w a b S' h' h2' wr) (fun i _ => rs.length - (intOf i).toNat)
  case atStart => exact ⟨0, sg1, h3, h5, rfl, Nat.zero_le _, ⟨sg1_good.1, by decide, by decide, by decide⟩, H9.out⟩
  case round =>
    obtain ⟨n, S', h', h2', rfl, hn, hS', hw⟩ := hrel
    have HW : Hid (RW w a b S' h' h2' wr) := hw
    have HS' : Hid _ := hS'
    clear hw hS' H9
    by_cases hlt : n < rs.length
    · obtain ⟨r, hr⟩ : ∃ r, rs[n]? = some r := ⟨rs[n], List.getElem?_eq_getElem hlt⟩
      obtain ⟨q, off, d, e2, hrg, hbs⟩ := HRA.out n r hr
      subst e2
      have HRG : Hid _ := HGE.out r (List.mem_of_getElem? hr)
      obtain ⟨E, hE, hEL, hEE⟩ := rv_letter r.x r.nm d
      have hrg2 : w.rangeAt q (off + n * 12) E := by rw [hEE]; exact hrg
      have HEL : Hid _ := hEL
      have HXK : Hid (∀ w', Below w.heap.size w w' → w'.rangeAt q (off + n * 12) E ∧ Bs w' d r.l) := fun w' hb => ⟨fun j v hv => by rw [hb.cell (World.block_lt_of_cell? w _ (hrg2 j v hv))]; exact hrg2 j v hv, hbs.kept hb⟩
      have HEE : Hid (E = rcE r.x r.nm d) := hEE
      obtain ⟨z, hz⟩ : ∃ z, (if r.x.k = 1 then (beginP r).1 else (applyP S' r).1) = z := ⟨_, rfl⟩
      obtain ⟨S2, hS2⟩ : ∃ S2, (if r.x.k = 1 then (beginP r).2 else (applyP S' r).2) = S2 := ⟨_, rfl⟩
      obtain ⟨D', hD', hL', hE'⟩ := sv_letter S' h'
      obtain ⟨F', hF', hM', hG'⟩ := sv_letter S' h2'
      have HL' : Hid _ := hL'
      have HE' : Hid (D' = scl S' h') := hE'
      have HM' : Hid _ := hM'
      have HG' : Hid (F' = scl S' h2') := hG'
      have HGD : Hid (z = 0 → GoodS S2) := fun h0 => by
        by_cases hk : r.x.k = 1
        · rw [if_pos hk] at hz hS2
          rw [← hS2]
          exact begin_fine r hbs.good HRG.out.2.1 (by rw [hz]; exact h0)
        · rw [if_neg hk] at hz hS2
          rw [← hS2]
          exact apply_fine S' r hbs.good HRG.out.2.1 HS'.out hk (by rw [hz]; exact h0)
      have HB1 : Hid (r.x.k = 1 → ∀ w', Below w.heap.size w w' → Bs w' d r.l → Calls Tryz.prog 6 #[.agg E.toArray] w' fun e w'' => BP z S2 w' e w'') := fun hk w' hb' hd => by
        have e := HBR.out r d w' hb' hd HRG.out.1 HRG.out.2.1
        rw [if_pos hk] at hz hS2
        rw [hE, hz, hS2] at e
        exact e
      have HB2 : Hid (r.x.k = 1 → ∀ w', Below w.heap.size w w' → Bs w' d r.l → Calls Tryz.prog 7 #[.agg E.toArray] w' fun e w'' => BP z S2 w' e w'') := fun hk w' hb' hd => by
        have e := HBX.out r d w' hb' hd HRG.out.1 HRG.out.2.1
        rw [if_pos hk] at hz hS2
        rw [hE, hz, hS2] at e
        exact e
      have HP1 : Hid (r.x.k ≠ 1 → ∀ w', Below w.heap.size w w' → SgO 0 w' S' h' → Bs w' d r.l → Calls Tryz.prog 10 #[.agg D'.toArray, .agg E.toArray] w' fun e w'' => BP z S2 w' e w'') := fun hk w' hb' k' hd => by
        have e := HAP.out S' h' r d w' hb' k' HS'.out hd HRG.out.1 HRG.out.2.1
        rw [if_neg hk] at hz hS2
        rw [hE, hD', hz, hS2] at e
        exact e
      have HP2 : Hid (r.x.k ≠ 1 → ∀ w', Below w.heap.size w w' → SgO 0 w' S' h2' → Bs w' d r.l → Calls Tryz.prog 11 #[.agg F'.toArray, .agg E.toArray] w' fun e w'' => BP z S2 w' e w'') := fun hk w' hb' k' hd => by
        have e := HAX.out S' h2' r d w' hb' k' HS'.out hd HRG.out.1 HRG.out.2.1
        rw [if_neg hk] at hz hS2
        rw [hE, hF', hz, hS2] at e
        exact e
      have HI : Hid (∃ W1, W1 = (wr.alloc (.cells Z.toArray 29)).alloc (.cells Z.toArray 29) ∧ LB W1 wr.heap.size 29 Z ∧ LB W1 (wr.heap.size + 1) 29 Z ∧ RW w a b S' h' h2' W1) := by
        obtain ⟨q1, q2, q3⟩ := lb_new2 wr Z Z 29 29
        exact ⟨_, rfl, q1, q2, HW.out.kept q3⟩
      have HGU : Hid (a < wr.heap.size ∧ b < wr.heap.size) := ⟨HW.out.1.lt, HW.out.2.1.lt⟩
      clear hz hS2 hE hEL hEE hrg hrg2 hbs hD' hL' hE' hF' hM' hG'
      go_upto_if 52 with (first | (refine wpList_alloc_Z HZ.out rfl rfl ?_; (try simp only [heap_one]); (obtain ⟨W1, hW1, hq⟩ := HI.out); (rw [← hW1]); (have HI1 : Hid _ := hq); (have rk : W1.cell? ⟨q, off + n * 12 + 1, none⟩ = some (.int .i64 r.x.k) := (HXK.out _ hq.2.2.2.2.2.2).1 1 _ (by rw [HEE.out]; rfl)); (clear hW1 hq HI HW)) | (refine wpList_alloc_Z HZ.out rfl rfl ?_) | fail)
      generalize hu : wr.heap.size = gu at *
      have HGV : Hid (a ≠ gu ∧ b ≠ gu ∧ a ≠ gu + 1 ∧ b ≠ gu + 1 ∧ w.heap.size ≤ gu) := ⟨Nat.ne_of_lt HGU.out.1, Nat.ne_of_lt HGU.out.2, by have := HGU.out.1; omega, by have := HGU.out.2; omega, by have := HGU.out.1; have := HSL.out.1; omega⟩
      clear HGU hu
      go_cut [14, 15] from 41 to 132 (fun x y wx => x = .int .i64 z ∧ y = .int .i64 z ∧ ∃ k1 k2, LB wx gu 29 (scl S2 k1) ∧ LB wx (gu + 1) 29 (scl S2 k2) ∧ SgO 0 wx S2 k1 ∧ SgO 0 wx S2 k2 ∧ RW w a b S' h' h2' wx)
      case first =>
        by_cases hk : r.x.k = 1
        · rw [hk]
          have HC1 : Hid _ := HB1.out hk
          have HC2 : Hid _ := HB2.out hk
          go_wp2_with (first | (refine wpList_load_mid rfl 26 _ rfl q (off + n * 12) rfl E _ (HXK.out _ HI1.out.2.2.2.2.2.2).1 Tryz.underlying26 rfl HEL.out ?_) | fail)
          refine (HC1.out _ HI1.out.2.2.2.2.2.2 (HXK.out _ HI1.out.2.2.2.2.2.2).2).mono ?_
          rintro e x1 ⟨k1, rfl, o1, y1⟩
          obtain ⟨D1, hD1, hL1, hE1⟩ := sv_letter S2 k1
          rw [hD1]
          have HL1 : Hid _ := hL1
          have HE1 : Hid (D1 = scl S2 k1) := hE1
          have H11 : Hid (∀ v ∈ D1, v.oneCell' = true) := by show ∀ v ∈ D1, _; rw [hE1]; exact scl_one _ _
          have HZ1 : Hid (D1.length = Z.length) := by show _ = _; rw [hE1, HZL.out]; rfl
          have HT1 : Hid (x1.there gu 0 D1.toArray.size) := there_of (HI1.out.1.kept y1) (by simpa using HZ1.out)
          have HI2 : Hid (∃ X1, X1 = x1.setCells gu 0 D1 ∧ LB X1 gu 29 (scl S2 k1) ∧ LB X1 (gu + 1) 29 Z ∧ SgO 0 X1 S2 k1 ∧ RW w a b S' h' h2' X1) := by
            have q1 := HI1.out.1.kept y1
            exact ⟨_, rfl, by rw [← HE1.out]; exact q1.sets D1 HZ1.out, (HI1.out.2.1.kept y1).others _ _ _ (by omega), sgo_oth o1 q1 (Oth.sets _ _ _ _), (HI1.out.2.2.kept y1).put q1 HGV.out.1 HGV.out.2.1 HGV.out.2.2.2.2 D1⟩
          clear hD1 hL1 hE1 o1 y1 HI1 rk HC1
          go_wp2_with (first | (refine wpList_store_mid rfl 29 (.tmp 12) (.tmp 59) rfl gu 0 D1.toArray rfl rfl HT1.out (by simpa using HL1.out) (all_oneCell_toArray H11.out) ?_; (obtain ⟨X1, hX1, hq⟩ := HI2.out); (have HI3 : Hid _ := hq); (rw [List.toList_toArray, ← hX1]); (clear hX1 hq HI2 HT1)) | (refine wpList_load_mid rfl 26 _ rfl q (off + n * 12) rfl E _ (HXK.out _ HI3.out.2.2.2.2.2.2.2).1 Tryz.underlying26 rfl HEL.out ?_) | fail)
          refine (HC2.out _ HI3.out.2.2.2.2.2.2.2 (HXK.out _ HI3.out.2.2.2.2.2.2.2).2).mono ?_
          rintro e x2 ⟨k2, rfl, o2, y2⟩
          obtain ⟨D2, hD2, hL2, hE2⟩ := sv_letter S2 k2
          rw [hD2]
          have HL2 : Hid _ := hL2
          have HE2 : Hid (D2 = scl S2 k2) := hE2
          have H12 : Hid (∀ v ∈ D2, v.oneCell' = true) := by show ∀ v ∈ D2, _; rw [hE2]; exact scl_one _ _
          have HZ2 : Hid (D2.length = Z.length) := by show _ = _; rw [hE2, HZL.out]; rfl
          have HT2 : Hid (x2.there (gu + 1) 0 D2.toArray.size) := there_of (HI3.out.2.1.kept y2) (by simpa using HZ2.out)
          have HI4 : Hid (∃ X2, X2 = x2.setCells (gu + 1) 0 D2 ∧ LB X2 gu 29 (scl S2 k1) ∧ LB X2 (gu + 1) 29 (scl S2 k2) ∧ SgO 0 X2 S2 k1 ∧ SgO 0 X2 S2 k2 ∧ RW w a b S' h' h2' X2) := by
            have q1 := HI3.out.2.1.kept y2
            exact ⟨_, rfl, (HI3.out.1.kept y2).others _ _ _ (by omega), by rw [← HE2.out]; exact q1.sets D2 HZ2.out, sgo_oth (HI3.out.2.2.1.kept y2) q1 (Oth.sets _ _ _ _), sgo_oth o2 q1 (Oth.sets _ _ _ _), (HI3.out.2.2.2.kept y2).put q1 HGV.out.2.2.1 HGV.out.2.2.2.1 (by have := HGV.out.2.2.2.2; omega) D2⟩
          clear hD2 hL2 hE2 o2 y2 HI3 HC2
          go_wp2_with (first | (refine wpList_store_mid rfl 29 (.tmp 13) (.tmp 67) rfl (gu + 1) 0 D2.toArray rfl rfl HT2.out (by simpa using HL2.out) (all_oneCell_toArray H12.out) ?_; (obtain ⟨X2, hX2, hq⟩ := HI4.out); (have HI5 : Hid _ := hq); (rw [List.toList_toArray, ← hX2]); (clear hX2 hq HI4 HT2)) | fail)
          go_meet
          exact ⟨rfl, rfl, k1, k2, HI5.out⟩
        · have rk1 : (r.x.k == 1) = false := by simpa using hk
          have HC1 : Hid _ := HP1.out hk
          have HC2 : Hid _ := HP2.out hk
          go_wp2
          clear rk rk1
          have H0 : Hid (LB W1.drew gu 29 Z ∧ LB W1.drew (gu + 1) 29 Z ∧ RW w a b S' h' h2' W1.drew) := ⟨HI1.out.1.kept (Below.drew (Below.refl _ _)), HI1.out.2.1.kept (Below.drew (Below.refl _ _)), HI1.out.2.2.kept (Below.drew (Below.refl _ _))⟩
          refine wp_region_held_drew (S := fun w' : World => w'.rangeAt a 0 D' ∧ w'.rangeAt q (off + n * 12) E) (by kernel_rfl) ?_ (fun hH => ?_)
          · exact ⟨by rw [HE'.out]; exact H0.out.2.2.1.range, (HXK.out _ H0.out.2.2.2.2.2.2).1⟩
          clear HI1 
          generalize W1.drew = V1 at *
          refine zql 0 rfl (yieldsIf_load_mid (by rfl) _ _ rfl _ _ rfl D' _ (fun w' hSw => hSw.1) Tryz.underlying29 rfl HL'.out) hH ?_
          simp only [Act.put, zq1, zq2, zq3, zq4, zq5]
          refine zqk 1 rfl hH ?_
          simp only [Act.put, zq1, zq2, zq3, zq4, zq5, zq6]
          refine zqk 2 rfl hH ?_
          simp only [Act.put, zq1, zq2, zq3, zq4, zq5, zq6]
          refine zqk 3 rfl hH ?_
          simp only [Act.put, zq1, zq2, zq3, zq4, zq5, zq6]
          refine zql 4 rfl (yieldsIf_load_mid (by rfl) _ _ rfl _ _ rfl E _ (fun w' hSw => hSw.2) Tryz.underlying26 rfl HEL.out) hH ?_
          simp only [Act.put, zq1, zq2, zq3, zq4, zq5, zq6]
          refine zqr 5 rfl (fun K hK => ?_)
          go_simp
          refine (HC1.out _ H0.out.2.2.2.2.2.2 H0.out.2.2.2.2.1 (HXK.out _ H0.out.2.2.2.2.2.2).2).mono ?_
          rintro e x1 ⟨k1, rfl, o1, y1⟩
          obtain ⟨D1, hD1, hL1, hE1⟩ := sv_letter S2 k1
          rw [hD1]
          have HL1 : Hid _ := hL1
          have HE1 : Hid (D1 = scl S2 k1) := hE1
          have H11 : Hid (∀ v ∈ D1, v.oneCell' = true) := by show ∀ v ∈ D1, _; rw [hE1]; exact scl_one _ _
          have HZ1 : Hid (D1.length = Z.length) := by show _ = _; rw [hE1, HZL.out]; rfl
          have HT1 : Hid (x1.there gu 0 D1.toArray.size) := there_of (H0.out.1.kept y1) (by simpa using HZ1.out)
          have HI2 : Hid (∃ X1, X1 = x1.setCells gu 0 D1 ∧ LB X1 gu 29 (scl S2 k1) ∧ LB X1 (gu + 1) 29 Z ∧ SgO 0 X1 S2 k1 ∧ RW w a b S' h' h2' X1) := by
            have q1 := H0.out.1.kept y1
            exact ⟨_, rfl, by rw [← HE1.out]; exact q1.sets D1 HZ1.out, (H0.out.2.1.kept y1).others _ _ _ (by omega), sgo_oth o1 q1 (Oth.sets _ _ _ _), (H0.out.2.2.kept y1).put q1 HGV.out.1 HGV.out.2.1 HGV.out.2.2.2.2 D1⟩
          have HY : Hid (RW w a b S' h' h2' x1) := H0.out.2.2.kept y1
          clear hD1 hL1 hE1 o1 y1
          refine hK.out _ _ ?_ (fun hH2 => ?_)
          · exact ⟨by rw [HE'.out]; exact HY.out.1.range, (HXK.out _ HY.out.2.2.2.2).1⟩
          clear hK K hH
          have hH := hH2
          clear hH2
          refine zqk 6 rfl hH ?_
          simp only [Act.put, zq1, zq2, zq3, zq4, zq5, zq6]
          refine zqk 7 rfl hH ?_
          simp only [Act.put, zq1, zq2, zq3, zq4, zq5, zq6]
          refine zqk 8 rfl hH ?_
          simp only [Act.put, zq1, zq2, zq3, zq4, zq5, zq6]
          refine zqr 9 rfl (fun K hK => ?_)
          refine step_store rfl 29 (.tmp 12) (.tmp 76) rfl gu 0 D1.toArray rfl rfl HT1.out (by simpa using HL1.out) (all_oneCell_toArray H11.out) ?_
          rw [List.toList_toArray]
          obtain ⟨X1, hX1, hq⟩ := HI2.out
          rw [← hX1]
          have HI3 : Hid _ := hq
          clear hX1 hq HI2
          refine hK.out _ _ ?_ (fun hH2 => ?_)
          · exact ⟨by rw [HE'.out]; exact HI3.out.2.2.2.1.range, (HXK.out _ HI3.out.2.2.2.2.2.2.2).1⟩
          clear hK K hH
          have hH := hH2
          clear hH2
          simp only [Act.put, zq4, zq5, zq6]
          refine zqk 10 rfl hH ?_
          simp only [Act.put, zq1, zq2, zq3, zq4, zq5, zq6]
          refine wpAnyH_done (by kernel_rfl) ?_ _
          clear hH H0 HY
          go_wp2_with fail
          have H0 : Hid (LB X1.drew gu 29 (scl S2 k1) ∧ LB X1.drew (gu + 1) 29 Z ∧ SgO 0 X1.drew S2 k1 ∧ RW w a b S' h' h2' X1.drew) := ⟨HI3.out.1.kept (Below.drew (Below.refl _ _)), HI3.out.2.1.kept (Below.drew (Below.refl _ _)), HI3.out.2.2.1.kept (Below.drew (Below.refl _ _)), HI3.out.2.2.2.kept (Below.drew (Below.refl _ _))⟩
          refine wp_region_held_drew (S := fun w' : World => w'.rangeAt b 0 F' ∧ w'.rangeAt q (off + n * 12) E) (by kernel_rfl) ?_ (fun hH => ?_)
          · exact ⟨by rw [HG'.out]; exact H0.out.2.2.2.2.1.range, (HXK.out _ H0.out.2.2.2.2.2.2.2).1⟩
          clear HI3 HT1 H11 HL1 HC1
          generalize X1.drew = V2 at *
          refine zql 0 rfl (yieldsIf_load_mid (by rfl) _ _ rfl _ _ rfl F' _ (fun w' hSw => hSw.1) Tryz.underlying29 rfl HM'.out) hH ?_
          simp only [Act.put, zq1, zq2, zq3, zq4, zq5]
          refine zqk 1 rfl hH ?_
          simp only [Act.put, zq1, zq2, zq3, zq4, zq5, zq6]
          refine zqk 2 rfl hH ?_
          simp only [Act.put, zq1, zq2, zq3, zq4, zq5, zq6]
          refine zqk 3 rfl hH ?_
          simp only [Act.put, zq1, zq2, zq3, zq4, zq5, zq6]
          refine zql 4 rfl (yieldsIf_load_mid (by rfl) _ _ rfl _ _ rfl E _ (fun w' hSw => hSw.2) Tryz.underlying26 rfl HEL.out) hH ?_
          simp only [Act.put, zq1, zq2, zq3, zq4, zq5, zq6]
          refine zqr 5 rfl (fun K hK => ?_)
          go_simp
          refine (HC2.out _ H0.out.2.2.2.2.2.2.2 H0.out.2.2.2.2.2.2.1 (HXK.out _ H0.out.2.2.2.2.2.2.2).2).mono ?_
          rintro e x2 ⟨k2, rfl, o2, y2⟩
          obtain ⟨D2, hD2, hL2, hE2⟩ := sv_letter S2 k2
          rw [hD2]
          have HL2 : Hid _ := hL2
          have HE2 : Hid (D2 = scl S2 k2) := hE2
          have H12 : Hid (∀ v ∈ D2, v.oneCell' = true) := by show ∀ v ∈ D2, _; rw [hE2]; exact scl_one _ _
          have HZ2 : Hid (D2.length = Z.length) := by show _ = _; rw [hE2, HZL.out]; rfl
          have HT2 : Hid (x2.there (gu + 1) 0 D2.toArray.size) := there_of (H0.out.2.1.kept y2) (by simpa using HZ2.out)
          have HI4 : Hid (∃ X2, X2 = x2.setCells (gu + 1) 0 D2 ∧ LB X2 gu 29 (scl S2 k1) ∧ LB X2 (gu + 1) 29 (scl S2 k2) ∧ SgO 0 X2 S2 k1 ∧ SgO 0 X2 S2 k2 ∧ RW w a b S' h' h2' X2) := by
            have q1 := H0.out.2.1.kept y2
            exact ⟨_, rfl, (H0.out.1.kept y2).others _ _ _ (by omega), by rw [← HE2.out]; exact q1.sets D2 HZ2.out, sgo_oth (H0.out.2.2.1.kept y2) q1 (Oth.sets _ _ _ _), sgo_oth o2 q1 (Oth.sets _ _ _ _), (H0.out.2.2.2.kept y2).put q1 HGV.out.2.2.1 HGV.out.2.2.2.1 (by have := HGV.out.2.2.2.2; omega) D2⟩
          have HY : Hid (RW w a b S' h' h2' x2) := H0.out.2.2.2.kept y2
          clear hD2 hL2 hE2 o2 y2
          refine hK.out _ _ ?_ (fun hH2 => ?_)
          · exact ⟨by rw [HG'.out]; exact HY.out.2.1.range, (HXK.out _ HY.out.2.2.2.2).1⟩
          clear hK K hH
          have hH := hH2
          clear hH2
          refine zqk 6 rfl hH ?_
          simp only [Act.put, zq1, zq2, zq3, zq4, zq5, zq6]
          refine zqk 7 rfl hH ?_
          simp only [Act.put, zq1, zq2, zq3, zq4, zq5, zq6]
          refine zqk 8 rfl hH ?_
          simp only [Act.put, zq1, zq2, zq3, zq4, zq5, zq6]
          refine zqr 9 rfl (fun K hK => ?_)
          refine step_store rfl 29 (.tmp 13) (.tmp 85) rfl (gu + 1) 0 D2.toArray rfl rfl HT2.out (by simpa using HL2.out) (all_oneCell_toArray H12.out) ?_
          rw [List.toList_toArray]
          obtain ⟨X2, hX2, hq⟩ := HI4.out
          rw [← hX2]
          have HI5 : Hid _ := hq
          clear hX2 hq HI4
          refine hK.out _ _ ?_ (fun hH2 => ?_)
          · exact ⟨by rw [HG'.out]; exact HI5.out.2.2.2.2.2.1.range, (HXK.out _ HI5.out.2.2.2.2.2.2.2.2).1⟩
          clear hK K hH
          have hH := hH2
          clear hH2
          simp only [Act.put, zq4, zq5, zq6]
          refine zqk 10 rfl hH ?_
          simp only [Act.put, zq1, zq2, zq3, zq4, zq5, zq6]
          refine wpAnyH_done (by kernel_rfl) ?_ _
          clear hH H0 HY
          go_wp2_with fail
          go_meet
          exact ⟨rfl, rfl, k1, k2, HI5.out⟩
      case rest =>
        obtain ⟨rfl, rfl, k1, k2, hq⟩ := hcut
        have HQ : Hid (LB wc gu 29 (scl S2 k1) ∧ LB wc (gu + 1) 29 (scl S2 k2) ∧ SgO 0 wc S2 k1 ∧ SgO 0 wc S2 k2 ∧ RW w a b S' h' h2' wc) := hq
        clear hq HI1 rk HB1 HB2 HP1 HP2 HEL HEE HXK HRG
        obtain ⟨D1, hD1, hL1, hE1⟩ := sv_letter S2 k1
        obtain ⟨D2, hD2, hL2, hE2⟩ := sv_letter S2 k2
        have HL1 : Hid _ := hL1
        have HL2 : Hid _ := hL2
        have HE1 : Hid (D1 = scl S2 k1) := hE1
        have HE2 : Hid (D2 = scl S2 k2) := hE2
        have H11 : Hid (∀ v ∈ D1, v.oneCell' = true) := by show ∀ v ∈ D1, _; rw [hE1]; exact scl_one _ _
        have H12 : Hid (∀ v ∈ D2, v.oneCell' = true) := by show ∀ v ∈ D2, _; rw [hE2]; exact scl_one _ _
        have HS2 : Hid (∀ w', SgO 0 w' S2 k1 → SgO 0 w' S2 k2 → Calls Tryz.prog 9 #[.agg D1.toArray, .agg D2.toArray] w' fun e w'' => e = .returned (.bool true) ∧ Below w'.heap.size w' w'') := fun w' q1 q2 => by
          have e := HSM.out S2 k1 k2 w' q1 q2
          rw [hD1, hD2] at e
          exact e
        have HQ1 : Hid (LB wc gu 29 D1 ∧ LB wc (gu + 1) 29 D2) := ⟨by rw [HE1.out]; exact HQ.out.1, by rw [HE2.out]; exact HQ.out.2.1⟩
        clear hD1 hD2 hL1 hL2 hE1 hE2
        have yz : (z == z) = true := by simp
        have yn : (z != z) = false := by simp
        go_wp2_with fail
        refine (snum_any z _).mono ?_
        rintro e _ ⟨rfl, rfl⟩
        go_wp2_with (first | (refine wpList_load_midG rfl 29 _ rfl gu 0 rfl D1 _ HQ1.out.1.range Tryz.underlying29 rfl HL1.out ?_) | (refine wpList_load_midG rfl 29 _ rfl (gu + 1) 0 rfl D2 _ HQ1.out.2.range Tryz.underlying29 rfl HL2.out ?_) | fail)
        refine (HS2.out _ HQ.out.2.2.1 HQ.out.2.2.2.1).mono ?_
        rintro e x3 ⟨rfl, y3⟩
        have H3 : Hid (LB x3 gu 29 D1 ∧ LB x3 (gu + 1) 29 D2 ∧ SgO 0 x3 S2 k1 ∧ SgO 0 x3 S2 k2 ∧ RW w a b S' h' h2' x3) := ⟨HQ1.out.1.kept y3, HQ1.out.2.kept y3, HQ.out.2.2.1.kept y3, HQ.out.2.2.2.1.kept y3, HQ.out.2.2.2.2.kept y3⟩
        clear y3 HQ HQ1 HS2 yz yn
        go_upto_if 98 with fail
        go_cut [15] from 41 to 132 (fun _ wx => ∃ S3 h3 h4, GoodS S3 ∧ RW w a b S3 h3 h4 wx)
        case first =>
          cases hz0 : (z == 0) with
          | true =>
            have HG2 : Hid (GoodS S2) := HGD.out (by simpa using hz0)
            have HDA : Hid (D1.length = (scl S' h').length) := by show _ = _; rw [HE1.out]; rfl
            have HDB : Hid (D2.length = (scl S' h2').length) := by show _ = _; rw [HE2.out]; rfl
            have HTA : Hid (x3.there a 0 D1.toArray.size) := there_of H3.out.2.2.2.2.1 (by simpa using HDA.out)
            have HIA1 : Hid (∃ X4, X4 = x3.setCells a 0 D1 ∧ LB X4 a 29 D1 ∧ LB X4 (gu + 1) 29 D2 ∧ LB X4 b 29 (scl S' h2') ∧ SgO 0 X4 S2 k1 ∧ SgO 0 X4 S2 k2 ∧ Below w.heap.size w X4) := ⟨_, rfl, H3.out.2.2.2.2.1.sets D1 HDA.out, H3.out.2.1.others _ _ _ (Ne.symm HGV.out.2.2.1), H3.out.2.2.2.2.2.1.others _ _ _ (Ne.symm HSL.out.2.2), sgo_oth H3.out.2.2.1 H3.out.2.2.2.2.1 (Oth.sets _ _ _ _), sgo_oth H3.out.2.2.2.1 H3.out.2.2.2.2.1 (Oth.sets _ _ _ _), below_cells HSL.out.1 _ 0 _ H3.out.2.2.2.2.2.2.2.2⟩
            go_wp2_with (first | (refine wpList_load_mid rfl 29 _ rfl gu 0 rfl D1 _ H3.out.1.range Tryz.underlying29 rfl HL1.out ?_) | (refine wpList_store_mid rfl 29 (.tmp 7) (.tmp 99) rfl a 0 D1.toArray rfl rfl HTA.out (by simpa using HL1.out) (all_oneCell_toArray H11.out) ?_; (obtain ⟨X4, hX4, hq⟩ := HIA1.out); (have H4 : Hid _ := hq); (rw [List.toList_toArray, ← hX4]); (clear hX4 hq HIA1 HTA); (have HTB : Hid (X4.there b 0 D2.toArray.size) := there_of H4.out.2.2.1 (by simpa using HDB.out)); (have HIB1 : Hid (∃ X5, X5 = X4.setCells b 0 D2 ∧ RW w a b S2 k1 k2 X5) := ⟨_, rfl, ⟨by rw [← HE1.out]; exact H4.out.1.others _ _ _ HSL.out.2.2, by rw [← HE2.out]; exact H4.out.2.2.1.sets D2 HDB.out, sgo_oth H4.out.2.2.2.1 H4.out.2.2.1 (Oth.sets _ _ _ _), sgo_oth H4.out.2.2.2.2.1 H4.out.2.2.1 (Oth.sets _ _ _ _), below_cells HSL.out.2.1 _ 0 _ H4.out.2.2.2.2.2⟩⟩)) | (refine wpList_load_mid rfl 29 _ rfl (gu + 1) 0 rfl D2 _ H4.out.2.1.range Tryz.underlying29 rfl HL2.out ?_) | (refine wpList_store_mid rfl 29 (.tmp 9) (.tmp 100) rfl b 0 D2.toArray rfl rfl HTB.out (by simpa using HL2.out) (all_oneCell_toArray H12.out) ?_; (obtain ⟨X5, hX5, hq⟩ := HIB1.out); (have H5 : Hid _ := hq); (rw [List.toList_toArray, ← hX5]); (clear hX5 hq HIB1 HTB)) | fail)
            go_meet
            exact ⟨S2, k1, k2, HG2.out, H5.out⟩
          | false =>
            go_wp2
            go_meet
            exact ⟨S', h', h2', HS'.out, H3.out.2.2.2.2⟩
        case rest =>
          obtain ⟨S3, h3, h4, hG3, hq⟩ := hcut
          have HG3 : Hid (GoodS S3) := hG3
          have H4 : Hid (RW w a b S3 h3 h4 wc) := hq
          clear hq hG3 H3 HL1 HL2 HE1 HE2 H11 H12 HGD HGV HL' HE' HM' HG' HS'
          by_cases hlm : n < m
          · obtain ⟨qa, offa, za, ea, hca⟩ := HIA.out n hlm
            subst ea
            have ca : wc.cell? ⟨qa, offa + n, none⟩ = some (.int .i64 za) := by rw [H4.out.2.2.2.2.cell (World.block_lt_of_cell? w _ hca)]; exact hca
            cases hz1 : (za == 1) with
            | true =>
              obtain ⟨D3, hD3, hL3, hE3⟩ := sv_letter S3 h3
              obtain ⟨D4, hD4, hL4, hE4⟩ := sv_letter S3 h4
              have HL3 : Hid _ := hL3
              have HL4 : Hid _ := hL4
              have HLN : Hid (D3.length = 16) := by show _ = _; rw [hE3]; rfl
              obtain ⟨L3, hLL3⟩ : ∃ L, (.int .i64 3 :: (D3 ++ zrl) : List Value) = L := ⟨_, rfl⟩
              have HO3 : Hid ((.int .i64 3 :: (D3 ++ zrl) : List Value) = L3) := hLL3
              have HK3 : Hid (∀ w', Below w.heap.size w w' → SgO 0 w' S3 h3 → Calls Tryz.prog 12 #[.agg L3.toArray] w' fun e w'' => e = .returned (.bool true) ∧ Below w'.heap.size w' w'') := fun w' hb' k' => by
                have e := HQ3.out S3 h3 w' hb' k' HG3.out
                rw [← hE3, hLL3] at e
                exact e
              obtain ⟨L4, hLL4⟩ : ∃ L, (.int .i64 4 :: (D3 ++ zrl) : List Value) = L := ⟨_, rfl⟩
              have HO4 : Hid ((.int .i64 4 :: (D3 ++ zrl) : List Value) = L4) := hLL4
              have HK4 : Hid (∀ w', Below w.heap.size w w' → SgO 0 w' S3 h3 → Calls Tryz.prog 12 #[.agg L4.toArray] w' fun e w'' => e = .returned (.bool true) ∧ Below w'.heap.size w' w'') := fun w' hb' k' => by
                have e := HQ4.out S3 h3 w' hb' k' HG3.out
                rw [← hE3, hLL4] at e
                exact e
              obtain ⟨L5, hLL5⟩ : ∃ L, (.int .i64 5 :: (D3 ++ zrl) : List Value) = L := ⟨_, rfl⟩
              have HO5 : Hid ((.int .i64 5 :: (D3 ++ zrl) : List Value) = L5) := hLL5
              have HK5 : Hid (∀ w', Below w.heap.size w w' → SgO 0 w' S3 h3 → Calls Tryz.prog 12 #[.agg L5.toArray] w' fun e w'' => e = .returned (.bool true) ∧ Below w'.heap.size w' w'') := fun w' hb' k' => by
                have e := HQ5.out S3 h3 w' hb' k' HG3.out
                rw [← hE3, hLL5] at e
                exact e
              have HS3 : Hid (∀ w', SgO 0 w' S3 h3 → SgO 0 w' S3 h4 → Calls Tryz.prog 9 #[.agg D3.toArray, .agg D4.toArray] w' fun e w'' => e = .returned (.bool true) ∧ Below w'.heap.size w' w'') := fun w' q1 q2 => by
                have e := HSM.out S3 h3 h4 w' q1 q2
                rw [hD3, hD4] at e
                exact e
              have HE3 : Hid (D3 = scl S3 h3) := hE3
              have HE4 : Hid (D4 = scl S3 h4) := hE4
              have HRD : Hid (∀ wx, RW w a b S3 h3 h4 wx → wx.rangeAt a 0 D3 ∧ wx.rangeAt b 0 D4) := fun wx k => ⟨by rw [HE3.out]; exact k.1.range, by rw [HE4.out]; exact k.2.1.range⟩
              clear hD3 hL3 hE3 hD4 hL4 hE4 hLL3 hLL4 hLL5
              go_wp2_with (first | (refine wpList_load_mid rfl 29 _ rfl a 0 rfl D3 _ (HRD.out _ H4.out).1 Tryz.underlying29 rfl HL3.out ?_) | (refine wpList_load_midG rfl 29 _ rfl a 0 rfl D3 _ (HRD.out _ H4.out).1 Tryz.underlying29 rfl HL3.out ?_) | (refine wpList_build_op HO3.out HLN.out rfl 112 rfl rfl ?_) | fail)
              refine (HK3.out _ H4.out.2.2.2.2 H4.out.2.2.1).mono ?_
              rintro e y3 ⟨rfl, c3⟩
              have H53 : Hid (RW w a b S3 h3 h4 y3) := H4.out.kept c3
              clear c3 H4 ca
              go_wp2_with (first | (refine wpList_load_mid rfl 29 _ rfl a 0 rfl D3 _ (HRD.out _ H53.out).1 Tryz.underlying29 rfl HL3.out ?_) | (refine wpList_load_midG rfl 29 _ rfl a 0 rfl D3 _ (HRD.out _ H53.out).1 Tryz.underlying29 rfl HL3.out ?_) | (refine wpList_build_op HO4.out HLN.out rfl 116 rfl rfl ?_) | fail)
              refine (HK4.out _ H53.out.2.2.2.2 H53.out.2.2.1).mono ?_
              rintro e y4 ⟨rfl, c4⟩
              have H54 : Hid (RW w a b S3 h3 h4 y4) := H53.out.kept c4
              clear c4 H53
              go_wp2_with (first | (refine wpList_load_mid rfl 29 _ rfl a 0 rfl D3 _ (HRD.out _ H54.out).1 Tryz.underlying29 rfl HL3.out ?_) | (refine wpList_load_midG rfl 29 _ rfl a 0 rfl D3 _ (HRD.out _ H54.out).1 Tryz.underlying29 rfl HL3.out ?_) | (refine wpList_build_op HO5.out HLN.out rfl 121 rfl rfl ?_) | fail)
              refine (HK5.out _ H54.out.2.2.2.2 H54.out.2.2.1).mono ?_
              rintro e y5 ⟨rfl, c5⟩
              have H55 : Hid (RW w a b S3 h3 h4 y5) := H54.out.kept c5
              clear c5 H54
              go_wp2_with (first | (refine wpList_load_mid rfl 29 _ rfl a 0 rfl D3 _ (HRD.out _ H55.out).1 Tryz.underlying29 rfl HL3.out ?_) | (refine wpList_load_midG rfl 29 _ rfl a 0 rfl D3 _ (HRD.out _ H55.out).1 Tryz.underlying29 rfl HL3.out ?_) | (refine wpList_load_midG rfl 29 _ rfl b 0 rfl D4 _ (HRD.out _ H55.out).2 Tryz.underlying29 rfl HL4.out ?_) | fail)
              refine (HS3.out _ H55.out.2.2.1 H55.out.2.2.2.1).mono ?_
              rintro e y6 ⟨rfl, c6⟩
              have H6 : Hid (RW w a b S3 h3 h4 y6) := H55.out.kept c6
              clear c6 H55
              go_wp2
              go_roundw
              case rel => exact ⟨n + 1, S3, h3, h4, by go_num, by omega, HG3.out, H6.out⟩
              case measure => simp [intOf]; omega
            | false =>
              go_wp2
              go_roundw
              case rel => exact ⟨n + 1, S3, h3, h4, by go_num, by omega, HG3.out, H4.out⟩
              case measure => simp [intOf]; omega
          · go_wp2
            go_roundw
            case rel => exact ⟨n + 1, S3, h3, h4, by go_num, by omega, HG3.out, H4.out⟩
            case measure => simp [intOf]; omega
    · obtain rfl : n = rs.length := by omega
      go_wp2
      go_ret
      exact ⟨rfl, HW.out.2.2.2.2⟩
end Go.Proofs.YtdhpfplmgeljaaaGreatDoor
