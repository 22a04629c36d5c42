import Derived.Test.YtabdfafffjgfiaaGreatDoorADJ
import Derived.Test.YtabdfafffjgfiaaGreatDoorAE4
set_option maxRecDepth 100000
set_option maxHeartbeats 16000000
namespace Go.Proofs.YtabdfafffjgfiaaGreatDoor
open Go Go.RowKit
open Wb

theorem rxsized_any (S : Sg) (h : SH) (w : World) (hT : Text.TabP 5 .i64 Text.Tx.lets w) (hnm : S.nm.size ≤ 2000000) : Calls Tryz.prog 94 #[sv S h] w fun e w' => ∃ b, e = .returned (.bool b) ∧ (b = true → (0 ≤ S.x.tr ∧ S.x.tr ≤ 1000) ∧ (1 ≤ S.x.ph ∧ S.x.ph ≤ 4) ∧ S.outs.length ≤ 32 ∧ S.und.length ≤ 32) ∧ Below w.heap.size w w' := by
 obtain ⟨er, HNA⟩ : ∃ er, Hid (∀ w', Below w.heap.size w w' → Calls Tryz.prog 112 #[.string S.nm] w' fun e w'' => ∃ z, e = .returned (.tuple #[.int .i64 er, .int .i64 z]) ∧ Below w'.heap.size w' w'') := ⟨_, fun w' hb => (Text.rname_any S.nm w' hnm (hT.kept hb)).mono fun e w'' ⟨h1, h2⟩ => ⟨_, h1, h2⟩⟩
 obtain ⟨D, hD, hL, hE⟩ := sv_letter S h
 rw [hD]
 have HE : Hid (D = scl S h) := hE
 have HX1 : Hid ((w.alloc (.cells D.toArray 25)).rangeAt w.heap.size 0 D ∧ Below w.heap.size w (w.alloc (.cells D.toArray 25))) := boxed w D _
 clear hD hL hE hT
 have c1 := range_cell HX1.out.1 1 (.string S.nm) (by rw [HE.out]; rfl)
 go_enter Tryz.func94, Tryz.ntmps94
 go_wp2_with fail
 refine (HNA.out _ HX1.out.2).mono ?_
 rintro e w1 ⟨z, rfl, b1⟩
 have H1 : Hid (w1.rangeAt w.heap.size 0 D ∧ Below w.heap.size w w1) := ⟨range_kept HX1.out.1 b1, andThen HX1.out.2 b1⟩
 clear b1 HX1 c1
 cases d0 : (er != 0) with
 | true =>
  go_wp2
  go_ret
  exact ⟨false, rfl, fun h2 => (by cases h2), H1.out.2⟩
 | false =>
 have c0 := range_cell H1.out.1 0 (.int .i64 S.x.id) (by rw [HE.out]; rfl)
 cases d1 : decide (S.x.id < 1) with
 | true =>
  go_wp2
  go_ret
  exact ⟨false, rfl, fun h2 => (by cases h2), H1.out.2⟩
 | false =>
 have c2 := range_cell H1.out.1 2 (.int .i64 S.x.cnt) (by rw [HE.out]; rfl)
 cases d2 : decide (S.x.cnt < 1) with
 | true =>
  go_wp2
  go_ret
  exact ⟨false, rfl, fun h2 => (by cases h2), H1.out.2⟩
 | false =>
 cases d3 : decide (32 < S.x.cnt) with
 | true =>
  go_wp2
  go_ret
  exact ⟨false, rfl, fun h2 => (by cases h2), H1.out.2⟩
 | false =>
 have c10 := range_cell H1.out.1 10 (.int .i64 S.x.tr) (by rw [HE.out]; rfl)
 cases d4 : decide (S.x.tr < 0) with
 | true =>
  go_wp2
  go_ret
  exact ⟨false, rfl, fun h2 => (by cases h2), H1.out.2⟩
 | false =>
 cases d5 : decide (1000 < S.x.tr) with
 | true =>
  go_wp2
  go_ret
  exact ⟨false, rfl, fun h2 => (by cases h2), H1.out.2⟩
 | false =>
 have c7 := range_cell H1.out.1 7 (.int .i64 S.x.ph) (by rw [HE.out]; rfl)
 cases d6 : decide (1 ≤ S.x.ph) with
 | false =>
  go_wp2
  go_ret
  exact ⟨false, rfl, fun h2 => (by cases h2), H1.out.2⟩
 | true =>
 cases d7 : decide (S.x.ph ≤ 4) with
 | false =>
  go_wp2
  go_ret
  exact ⟨false, rfl, fun h2 => (by cases h2), H1.out.2⟩
 | true =>
 have c11 := range_cell H1.out.1 11 (.slice h.ao S.outs.length h.co) (by rw [HE.out]; rfl)
 cases d8 : decide ((S.outs.length : Int) ≤ 32) with
 | false =>
  go_wp2
  go_ret
  exact ⟨false, rfl, fun h2 => (by cases h2), H1.out.2⟩
 | true =>
 have c12 := range_cell H1.out.1 12 (.slice h.au S.und.length h.cu) (by rw [HE.out]; rfl)
 cases d9 : decide ((S.und.length : Int) ≤ 32) with
 | false =>
  go_wp2
  go_ret
  exact ⟨false, rfl, fun h2 => (by cases h2), H1.out.2⟩
 | true =>
 cases d10 : decide (0 < S.x.tr) with
 | true =>
  go_wp2
  go_ret
  exact ⟨true, rfl, fun _ => ⟨by simp at d4 d5; omega, by simp at d6 d7; omega, by simp at d8; omega, by simp at d9; omega⟩, H1.out.2⟩
 | false =>
 obtain ⟨f1, hf1⟩ : ∃ f1, S.x.fl = f1 := ⟨_, rfl⟩
 have c9 := range_cell H1.out.1 9 (.bool S.x.fl) (by rw [HE.out]; rfl)
 rw [hf1] at c9
 cases f1 with
 | true =>
  go_wp2
  go_ret
  exact ⟨false, rfl, fun h2 => (by cases h2), H1.out.2⟩
 | false =>
  go_wp2
  go_ret
  exact ⟨true, rfl, fun _ => ⟨by simp at d4 d5; omega, by simp at d6 d7; omega, by simp at d8; omega, by simp at d9; omega⟩, H1.out.2⟩
theorem rxcheck_bad (S : Sg) (h : SH) (w : World) (k : SgAt w S h) (hT : Tabs w) (hF : Fits S) (hc : chkS S = false) :
  Calls Tryz.prog 77 #[sv S h] w fun e w' => e = .returned (.int .i64 100) ∧ Below w.heap.size w w' := by
 have HSZ0 : ∀ w', Below w.heap.size w w' → Calls Tryz.prog 94 #[sv S h] w' fun e w'' => ∃ b, e = .returned (.bool b) ∧ (b = true → (0 ≤ S.x.tr ∧ S.x.tr ≤ 1000) ∧ (1 ≤ S.x.ph ∧ S.x.ph ≤ 4) ∧ S.outs.length ≤ 32 ∧ S.und.length ≤ 32) ∧ Below w'.heap.size w' w'' := fun w' hb => rxsized_any S h w' (hT.kept hb).rlets (by have := hF.nm; omega)
 have HTO0 : ((0 ≤ S.x.tr ∧ S.x.tr ≤ 1000) ∧ (1 ≤ S.x.ph ∧ S.x.ph ≤ 4) ∧ S.outs.length ≤ 32 ∧ S.und.length ≤ 32) → ∀ w', Below w.heap.size w w' → Calls Tryz.prog 83 #[sv S h] w' fun e w'' => ∃ v ps, e = .returned v ∧ OutT w'.heap.size w'' v ps ∧ 1 ≤ ps.length ∧ ps.length ≤ 3000 ∧ AllF ps ∧ Below w'.heap.size w' w'' := fun hh w' hb => rxtold_gen S h w' (k.kept hb) hF hh.1 hh.2.1 hh.2.2.1 hh.2.2.2
 have HSM0 : ∀ (Q : Sg) (hq : SH) (w' : World), chkS Q = true → Below w.heap.size w w' → SgO 0 w' Q hq → Calls Tryz.prog 25 #[sv Q hq, sv S h] w' fun e w'' => e = .returned (.bool false) ∧ Below w'.heap.size w' w'' := fun Q hq w' hQ hb k' => rxsame_no Q S hq h w' k'.at (k.kept hb) (by rintro rfl; rw [hc] at hQ; cases hQ)
 have HTB : Hid (∀ w', Below w.heap.size w w' → Tabs w') := fun w' hb => hT.kept hb
 obtain ⟨Z, hZ⟩ : ∃ Z, Z = zcl := ⟨_, rfl⟩
 have HZ : Hid (Z = zcl) := hZ
 have HZL : Hid (Z.length = 16) := by show _ = _; rw [hZ]; rfl
 obtain ⟨D, hD, hL, hE⟩ := sv_letter S h
 rw [hD] at HSZ0 HTO0 ⊢
 have HSZ : Hid _ := HSZ0
 have HTO : Hid _ := HTO0
 have HSM : Hid (∀ (Q : Sg) (hq : SH) (DQ : List Value) (w' : World), sv Q hq = .agg DQ.toArray → chkS Q = true → Below w.heap.size w w' → SgO 0 w' Q hq → Calls Tryz.prog 25 #[.agg DQ.toArray, .agg D.toArray] w' fun e w'' => e = .returned (.bool false) ∧ Below w'.heap.size w' w'') := fun Q hq DQ w' e1 hQ hb k' => by
  have e := HSM0 Q hq w' hQ hb k'
  rw [e1, hD] at e
  exact e
 have HL : Hid _ := hL
 have HE : Hid (D = scl S h) := hE
 have HX1 : Hid (LB (w.alloc (.cells D.toArray 25)) w.heap.size 25 D ∧ Below w.heap.size w (w.alloc (.cells D.toArray 25))) := ⟨lb_new w D _, up0 _ _⟩
 clear hD hL hE hZ HSZ0 HTO0 HSM0 k hT hc hF
 go_enter Tryz.func77, Tryz.ntmps77
 go_wp2_with (first | (refine wpList_load_mid rfl 25 _ rfl w.heap.size 0 rfl D _ HX1.out.1.range Tryz.underlying25 rfl HL.out ?_) | fail)
 refine (HSZ.out _ HX1.out.2).mono ?_
 rintro e w1 ⟨bz, rfl, hbz, b1⟩
 have H1 : Hid (LB w1 w.heap.size 25 D ∧ Below w.heap.size w w1) := ⟨HX1.out.1.kept b1, andThen HX1.out.2 b1⟩
 clear b1 HX1 HSZ
 cases bz with
 | false =>
  go_wp2
  go_ret
  exact ⟨rfl, H1.out.2⟩
 | true =>
 have HTO1 : Hid _ := HTO.out (hbz rfl)
 clear hbz HTO
 go_wp2_with (first | (refine wpList_load_mid rfl 25 _ rfl w.heap.size 0 rfl D _ H1.out.1.range Tryz.underlying25 rfl HL.out ?_) | fail)
 refine (HTO1.out _ H1.out.2).mono ?_
 rintro e w5 ⟨v5, ps, rfl, ho, hps, hpb, hm, b5⟩
 obtain ⟨ao, cap5, rfl, hk5⟩ := ho.at
 obtain ⟨g5, rfl, _, _⟩ := hk5 0 hps
 have HPS : Hid (AllF ps) := hm
 have H8 : Hid (LB w5 w.heap.size 25 D ∧ Below w.heap.size w w5 ∧ OutT 0 w5 (.slice (some ⟨g5, 0, none⟩) ps.length cap5) ps) := ⟨H1.out.1.kept b5, andThen H1.out.2 b5, ho.weak (Nat.zero_le _)⟩
 clear b5 H1 ho hm hk5 HTO1
 have HAT : Hid (∀ wr, OutT 0 wr (.slice (some ⟨g5, 0, none⟩) ps.length cap5) ps → ∀ k (hk : k < ps.length), wr.rangeAt g5 (k * 12) (rcl ps[k]) ∧ Bs wr ps[k].2 ps[k].1.l) := fun wr ho k hk => by
  obtain ⟨ao, cap, e, h9⟩ := ho.at
  obtain ⟨g9, rfl, q1, q2⟩ := h9 k hk
  simp only [Value.slice.injEq, Option.some.injEq, Addr.mk.injEq] at e
  obtain ⟨⟨rfl, _⟩, _⟩ := e
  exact ⟨q1, q2⟩
 have hfr0 := HPS.out _ (List.getElem_mem hps)
 obtain ⟨r0, d0, hrd⟩ : ∃ r0 d0, ps[0] = (r0, d0) := ⟨_, _, rfl⟩
 have hat0 := HAT.out _ H8.out.2.2 0 hps
 rw [hrd] at hat0 hfr0
 have hfr0 : FineR r0 := hfr0
 obtain ⟨R0, hR0, hR0L, hR0E⟩ := rv_letter r0.x r0.nm d0
 have HR0L : Hid _ := hR0L
 have HR0 : Hid (w5.rangeAt g5 0 R0 ∧ Bs w5 d0 r0.l) := ⟨by rw [hR0E]; have e := hat0.1; rw [Nat.zero_mul] at e; exact e, hat0.2⟩
 obtain ⟨z0, hz0⟩ : ∃ z0, (beginP r0).1 = z0 := ⟨_, rfl⟩
 obtain ⟨Q0, hQ0⟩ : ∃ Q0, (beginP r0).2 = Q0 := ⟨_, rfl⟩
 have HQ0 : Hid (z0 = 0 → chkS Q0 = true) := fun e0 => by
  have e := (begin_good r0 hat0.2.good hfr0.2.1 (by rw [hz0]; exact e0)).1
  rw [hQ0] at e
  exact e
 have HBE : Hid (∀ w', Below w.heap.size w w' → Bs w' d0 r0.l → Calls Tryz.prog 55 #[.agg R0.toArray] w' fun e w'' => ∃ h', e = .returned (.tuple #[sv Q0 h', .int .i64 z0]) ∧ SgOwn w.heap.size w'' Q0 h' ∧ Below w'.heap.size w' w'') := fun w' hb' hd => by
  have e := rxbegin_any r0 d0 w' hd (HTB.out w' hb') hfr0.2.2.1 hfr0.2.1
  rw [hR0] at e
  refine e.mono fun e w'' ⟨h9, q1, q2, q3⟩ => ⟨h9, ?_, ?_, q3⟩
  ·rw [← hz0, ← hQ0]
   exact q1
  ·rw [← hQ0]
   exact q2.weak hb'.size
 clear hrd hat0 hR0 hR0L hR0E hfr0 hz0 hQ0
 go_wp2_with (first | (refine wpList_load_mid rfl 37 _ rfl g5 0 rfl R0 _ HR0.out.1 Tryz.underlying37 rfl HR0L.out ?_) | fail)
 refine (HBE.out _ H8.out.2.1 HR0.out.2).mono ?_
 rintro e x1 ⟨h9, rfl, o9, b9⟩
 obtain ⟨D9, hD9, hL9, hE9⟩ := sv_letter Q0 h9
 rw [hD9]
 have HL9 : Hid _ := hL9
 have H19 : Hid (∀ v ∈ D9, v.oneCell' = true) := by show ∀ v ∈ D9, _; rw [hE9]; exact scl_one _ _
 have HZ9 : Hid (D9.length = Z.length) := by show _ = _; rw [hE9, HZL.out]; rfl
 have HT9 : Hid ((x1.alloc (.cells Z.toArray 25)).there x1.heap.size 0 D9.toArray.size) := there_of (lb_new x1 Z _) (by simpa using HZ9.out)
 have H9 : Hid (∃ X2, X2 = (x1.alloc (.cells Z.toArray 25)).setCells x1.heap.size 0 D9 ∧ LY w (.slice (some ⟨g5, 0, none⟩) ps.length cap5) ps D x1.heap.size Q0 h9 X2) := by
  obtain ⟨q1, q2⟩ := one_boxR x1 25 Z D9 HZ9.out
  exact ⟨_, rfl, ⟨by rw [← hE9]; exact q1, (H8.out.2.2.kept b9).kept q2, (H8.out.1.kept b9).kept q2, andThen (andThen H8.out.2.1 b9) q2, (H8.out.1.kept b9).lt⟩, o9.kept q2⟩
 clear hD9 hL9 hE9 o9 b9 H8 HR0 HBE
 go_wp2_with (first | (refine wpList_alloc_Z HZ.out rfl rfl ?_) | (refine wpList_store_mid rfl 25 (.tmp 5) (.tmp 21) rfl x1.heap.size 0 D9.toArray rfl rfl HT9.out (by simpa using HL9.out) (all_oneCell_toArray H19.out) ?_; (obtain ⟨X2, hX2, hq⟩ := H9.out); (have HA : Hid (LY w (.slice (some ⟨g5, 0, none⟩) ps.length cap5) ps D x1.heap.size Q0 h9 X2) := hq); (rw [List.toList_toArray, ← hX2]); (clear hX2 hq H9 HT9)) | fail)
 clear HL9 H19 HZ9
 generalize x1.heap.size = q at HA ⊢
 go_loopw [6, 7] (fun f i wr => ∃ (n : Nat) (z : Int) (Q : Sg) (hq : SH), f = .int .i64 z ∧ i = .int .i64 (n : Int) ∧ 1 ≤ n ∧ n ≤ ps.length ∧ (z = 0 → chkS Q = true) ∧ LY w (.slice (some ⟨g5, 0, none⟩) ps.length cap5) ps D q Q hq wr) (fun _ i _ => ps.length - (intOf i).toNat)
 case atStart => exact ⟨1, z0, Q0, h9, rfl, rfl, Nat.le_refl _, hps, HQ0.out, HA.out⟩
 case round =>
  obtain ⟨n, z, Q, hq, rfl, rfl, hn1, hn, hQ, hw⟩ := hrel
  have HW : Hid (LY w (.slice (some ⟨g5, 0, none⟩) ps.length cap5) ps D q Q hq wr) := hw
  have HQZ : Hid (z = 0 → chkS Q = true) := hQ
  clear hw hQ HA HQ0
  obtain ⟨DQ, hDQ, hDQL, hDQE⟩ := sv_letter Q hq
  cases hz : (z == 0) with
  | false =>
   have hz2 : (z != 0) = true := by simpa using hz
   have hbel := HW.out.1.2.2.2.1
   clear HW hDQ hDQL hDQE HAT HPS HSM
   by_cases hlt : n < ps.length
   ·go_wp2
    go_ret
    exact ⟨rfl, hbel⟩
   ·obtain rfl : n = ps.length := by omega
    go_wp2
    go_ret
    exact ⟨rfl, hbel⟩
  | true =>
  obtain rfl : z = 0 := by simpa using hz
  have HQ : Hid (chkS Q = true) := HQZ.out rfl
  clear hz HQZ
  by_cases hlt : n < ps.length
  ·have hfr := HPS.out _ (List.getElem_mem hlt)
   obtain ⟨r1, d1, hrd⟩ : ∃ r1 d1, ps[n] = (r1, d1) := ⟨_, _, rfl⟩
   rw [hrd] at hfr
   have hfr : FineR r1 := hfr
   obtain ⟨R1, hR1, hR1L, hR1E⟩ := rv_letter r1.x r1.nm d1
   have HR1L : Hid _ := hR1L
   have HDQL : Hid _ := hDQL
   have HDQE : Hid (DQ = scl Q hq) := hDQE
   have HRW : Hid (∀ wx, LYb w (.slice (some ⟨g5, 0, none⟩) ps.length cap5) ps D q Q hq wx → wx.rangeAt g5 (n * 12) R1 ∧ Bs wx d1 r1.l) := fun wx k => by
    have e := HAT.out wx k.2.1 n hlt
    rw [hrd] at e
    rw [hR1E]
    exact e
   obtain ⟨Q2, hQ2⟩ : ∃ Q2, deedS Q r1 = Q2 := ⟨_, rfl⟩
   obtain ⟨c, hcc⟩ : ∃ c, chk r1.x r1.nm r1.l = c := ⟨_, rfl⟩
   obtain ⟨y, hyy⟩ : ∃ y, refP Q.x r1.x = y := ⟨_, rfl⟩
   have HV3R : Hid (c = 0 → V3 r1) := fun e0 => (v3_iff r1 hfr.1).1 (by rw [hcc]; exact e0)
   have HCK : Hid (∀ w', Below w.heap.size w w' → Bs w' d1 r1.l → Calls Tryz.prog 75 #[.agg R1.toArray] w' fun e w'' => e = .returned (.int .i64 c) ∧ Below w'.heap.size w' w'') := fun w' hb' hd => by
    have e := refcheck_any r1.x r1.nm d1 r1.l w' hd (HTB.out w' hb').rlets (HTB.out w' hb').rows hfr.2.1.c (by have := hfr.2.2.1; omega)
    rw [hcc, hR1] at e
    exact e
   have HRF1 : Hid (c = 0 → ∀ w', Calls Tryz.prog 95 #[.agg DQ.toArray, .agg R1.toArray] w' fun e w'' => e = .returned (.int .i64 y) ∧ Below w'.heap.size w' w'') := fun e0 w' => by
    have e := rref_any Q hq r1 d1 w' HQ.out (HV3R.out e0)
    rw [hyy, hDQ, hR1] at e
    exact e
   have HLQ1 : Hid (c = 0 → y = 0 → ∀ w', LY w (.slice (some ⟨g5, 0, none⟩) ps.length cap5) ps D q Q hq w' → Bs w' d1 r1.l → Calls Tryz.prog 96 #[.agg DQ.toArray, .agg R1.toArray] w' fun e w'' => LiPost w.heap.size Q2 w' e w'') := fun e0 e1 w' k' hd => by
    have e := rxlight_any Q hq r1 d1 w' w.heap.size k'.2 k'.1.2.2.2.1.size hd HQ.out (HV3R.out e0) (by rw [hyy]; exact e1)
    rw [hDQ, hR1, hQ2] at e
    exact e
   have HQ21 : Hid (c = 0 → y = 0 → chkS Q2 = true) := fun e0 e1 => by
    rw [← hQ2]
    exact chkS_deed Q r1 HQ.out (HV3R.out e0) (by rw [hyy]; exact e1)
   have HRWw : Hid _ := HRW.out _ HW.out.1
   clear hrd hfr hR1 hR1L hR1E hDQ hDQL hDQE hQ2 hcc hyy
   go_wp2_with (first | (refine wpList_load_mid rfl 37 _ rfl g5 (n * 12) rfl R1 _ HRWw.out.1 Tryz.underlying37 rfl HR1L.out ?_) | fail)
   refine (HCK.out _ HW.out.1.2.2.2.1 HRWw.out.2).mono ?_
   rintro e y1 ⟨rfl, b1⟩
   have HY1 : Hid (LY w (.slice (some ⟨g5, 0, none⟩) ps.length cap5) ps D q Q hq y1) := HW.out.kept b1
   clear b1 HW HRWw HCK
   cases hc0 : (c == 0) with
   | false =>
    have hcn : c ≠ 0 := by simpa using hc0
    clear HRF1 HLQ1 HQ21 HV3R HRW
    go_wp2
    go_roundw
    case rel => exact ⟨n + 1, c, Q, hq, rfl, by go_num, by omega, by omega, fun e0 => absurd e0 hcn, HY1.out⟩
    case measure => simp [intOf]; omega
   | true =>
   have hcz : c = 0 := by simpa using hc0
   have HRF : Hid _ := HRF1.out hcz
   have HLQ2 : Hid _ := HLQ1.out hcz
   have HQ22 : Hid _ := HQ21.out hcz
   clear HRF1 HLQ1 HQ21 HV3R hcz
   go_wp2
   have HV : Hid (LY w (.slice (some ⟨g5, 0, none⟩) ps.length cap5) ps D q Q hq y1.drew) := HY1.out.kept (Below.drew (Below.refl _ _))
   have HVR : Hid (y1.drew.rangeAt q 0 DQ ∧ y1.drew.rangeAt g5 (n * 12) R1) := ⟨by rw [HDQE.out]; exact HV.out.1.1.range, (HRW.out _ HV.out.1).1⟩
   clear HY1
   refine wp_region_held_drew (S := fun w' : World => w'.rangeAt q 0 DQ ∧ w'.rangeAt g5 (n * 12) R1) (by kernel_rfl) HVR.out (fun hH => ?_)
   generalize y1.drew = V1 at *
   refine zql 0 rfl (yieldsIf_load_mid (by rfl) _ _ rfl _ _ rfl DQ _ (fun w' hSw => hSw.1) Tryz.underlying25 rfl HDQL.out) hH ?_
   simp only [zq]
   refine zqk 1 rfl hH ?_
   simp only [zq]
   refine zqk 2 rfl hH ?_
   simp only [zq]
   refine zqk 3 rfl hH ?_
   simp only [zq]
   refine zql 4 rfl (yieldsIf_load_mid (by rfl) _ _ rfl _ _ rfl R1 _ (fun w' hSw => hSw.2) Tryz.underlying37 rfl HR1L.out) hH ?_
   simp only [zq]
   refine zqr 5 rfl (fun K hK => ?_)
   go_simp
   refine (HRF.out _).mono ?_
   rintro e y2 ⟨rfl, b2⟩
   have HV2 : Hid (LY w (.slice (some ⟨g5, 0, none⟩) ps.length cap5) ps D q Q hq y2) := HV.out.kept b2
   refine hK.out _ _ ⟨by rw [HDQE.out]; exact HV2.out.1.1.range, (HRW.out _ HV2.out.1).1⟩ (fun hH2 => ?_)
   clear hK K hH
   have hH := hH2
   clear hH2
   clear b2
   refine zqk 6 rfl hH ?_
   simp only [zq]
   refine wpAnyH_done (by kernel_rfl) ?_ _
   clear hH HV HVR HRF hc0
   cases hy0 : (y == 0) with
   | false =>
    have hyn : y ≠ 0 := by simpa using hy0
    clear HLQ2 HQ22 HRW
    go_wp2
    go_roundw
    case rel => exact ⟨n + 1, y, Q, hq, rfl, by go_num, by omega, by omega, fun e0 => absurd e0 hyn, HV2.out⟩
    case measure => simp [intOf]; omega
   | true =>
   obtain rfl : y = 0 := by simpa using hy0
   have HLQ : Hid _ := HLQ2.out rfl
   have HQ2 : Hid _ := HQ22.out rfl
   clear HLQ2 HQ22 hy0
   go_wp2
   have HV3 : Hid (LY w (.slice (some ⟨g5, 0, none⟩) ps.length cap5) ps D q Q hq y2.drew) := HV2.out.kept (Below.drew (Below.refl _ _))
   have HVR3 : Hid (y2.drew.rangeAt g5 (n * 12) R1 ∧ Bs y2.drew d1 r1.l) := HRW.out _ HV3.out.1
   clear HV2
   refine wp_region_held_drew (S := fun w' : World => w'.rangeAt g5 (n * 12) R1) (by kernel_rfl) HVR3.out.1 (fun hH => ?_)
   generalize y2.drew = V2 at *
   refine zqk 1 rfl hH ?_
   simp only [zq]
   refine zqk 2 rfl hH ?_
   simp only [zq]
   refine zqk 3 rfl hH ?_
   simp only [zq]
   refine zql 4 rfl (yieldsIf_load_mid (by rfl) _ _ rfl _ _ rfl R1 _ (fun w' hSw => hSw) Tryz.underlying37 rfl HR1L.out) hH ?_
   simp only [zq]
   refine zqr 0 rfl (fun K hK => ?_)
   refine step_load rfl 25 _ rfl q 0 rfl DQ _ (by rw [HDQE.out]; exact HV3.out.1.1.range) Tryz.underlying25 rfl HDQL.out ?_
   refine hK.out _ _ HVR3.out.1 (fun hH2 => ?_)
   clear hK K hH
   have hH := hH2
   clear hH2
   simp only [zq]
   refine zqr 5 rfl (fun K hK => ?_)
   go_simp
   refine (HLQ.out _ HV3.out HVR3.out.2).mono ?_
   rintro e x2 ⟨h2, rfl, o2, b2, f2⟩
   have HV4 : Hid (LYb w (.slice (some ⟨g5, 0, none⟩) ps.length cap5) ps D q Q hq x2) := HV3.out.1.light b2 f2
   have HP : Hid (LY w (.slice (some ⟨g5, 0, none⟩) ps.length cap5) ps D q Q2 h2 (x2.setCells q 0 (scl Q2 h2))) := HV4.out.put o2
   have HPR : Hid ((x2.setCells q 0 (scl Q2 h2)).rangeAt g5 (n * 12) R1) := by
    obtain ⟨q1, _⟩ := HRW.out _ HV4.out
    intro j u hu
    have hne : g5 ≠ q := by
     rintro rfl
     obtain ⟨cs, z, h8⟩ := rrow_typed HV4.out.2.1.1 g5 rfl
     rw [HV4.out.1] at h8
     simp at h8
    have h9 := q1 j u hu
    rw [← h9]
    exact World.cell?_of_block (cells_other q _ 0 x2 g5 hne)
   obtain ⟨D2, hD2, hL2, hE2⟩ := sv_letter Q2 h2
   rw [hD2]
   have HL2x : Hid _ := hL2
   have HE2x : Hid (D2 = scl Q2 h2) := hE2
   have H12 : Hid (∀ v ∈ D2, v.oneCell' = true) := by show ∀ v ∈ D2, _; rw [hE2]; exact scl_one _ _
   have HT2 : Hid (x2.there q 0 D2.toArray.size) := there_of HV4.out.1 (by rw [hE2]; rfl)
   clear hD2 hL2 hE2 o2
   refine hK.out _ _ (HRW.out _ HV4.out).1 (fun hH2 => ?_)
   clear hK K hH
   have hH := hH2
   clear hH2
   clear b2 f2
   refine zqr 6 rfl (fun K hK => ?_)
   refine step_storeX rfl 25 (.tmp 5) (.tmp 54) rfl q 0 D2.toArray rfl rfl HT2.out (by simpa using HL2x.out) (all_oneCell_toArray H12.out) ?_
   rw [List.toList_toArray, HE2x.out]
   refine hK.out _ _ HPR.out (fun hH2 => ?_)
   clear hK K hH
   have hH := hH2
   clear hH2
   simp only [Act.put, zq4, zq5, zq6]
   refine wpAnyH_done (by kernel_rfl) ?_ _
   clear hH HV3 HVR3 HV4 HLQ HRW HT2 HPR
   go_wp2
   go_roundw
   case rel => exact ⟨n + 1, 0, Q2, h2, rfl, by go_num, by omega, by omega, fun _ => HQ2.out, HP.out⟩
   case measure => simp [intOf]; omega
  ·obtain rfl : n = ps.length := by omega
   have HSMq : Hid (∀ w', Below w.heap.size w w' → SgO 0 w' Q hq → Calls Tryz.prog 25 #[.agg DQ.toArray, .agg D.toArray] w' fun e w'' => e = .returned (.bool false) ∧ Below w'.heap.size w' w'') := fun w' hb' k' => HSM.out Q hq DQ w' hDQ HQ.out hb' k'
   have HDQw : Hid (wr.rangeAt q 0 DQ) := by show wr.rangeAt q 0 DQ; rw [hDQE]; exact HW.out.1.1.range
   have HDQL : Hid _ := hDQL
   clear HPS HAT hDQ hDQL hDQE
   go_wp2_with (first | (refine wpList_load_mid rfl 25 _ rfl q 0 rfl DQ _ HDQw.out Tryz.underlying25 rfl HDQL.out ?_) | (refine wpList_load_mid rfl 25 _ rfl w.heap.size 0 rfl D _ HW.out.1.2.2.1.range Tryz.underlying25 rfl HL.out ?_) | fail)
   refine (HSMq.out _ HW.out.1.2.2.2.1 HW.out.at).mono ?_
   rintro e y1 ⟨rfl, b1⟩
   have H7 : Hid (Below w.heap.size w y1) := andThen HW.out.1.2.2.2.1 b1
   clear b1
   go_wp2
   go_ret
   exact ⟨rfl, H7.out⟩
end Go.Proofs.YtabdfafffjgfiaaGreatDoor
