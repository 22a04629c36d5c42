import Derived.Test.YtgjlkkikgkbamaaGreatDoorQD3
import Derived.Test.YtgjlkkikgkbamaaGreatDoorQD6
import Derived.Test.YtgjlkkikgkbamaaGreatDoorQSM
import Derived.Test.YtgjlkkikgkbamaaGreatDoorQSY
import Derived.Test.YtgjlkkikgkbamaaGreatDoorQSI
/-
  The reference's saga: Check, of a saga that can be.
-/
namespace Go.Proofs.YtgjlkkikgkbamaaGreatDoor
open Go Go.RowKit
open Wb

theorem step_load {P : Program} {ops : Array Oper} {o : Oper} {a : Act} {w : World} {K : Act → World → Prop} {Q : Exit → Act → World → Prop} {E : Prop} (hgd : o.guard = none) (ty : TypeId) (x : Operand) (ho : o.op = .load ty x)
    (b f : Nat) (hx : a.eval x = .pointer (some ⟨b, f, none⟩)) (cs : List Value) (d : TypeDesc) (hc : w.rangeAt b f cs) (hu : P.underlying ty = some d) (hd : d.isRow = true) (hi : (P.info? ty).map (·.size) = some cs.length)
    (h : K (a.put o.dst (.agg cs.toArray)) w) : if Region.wanted o (yielded ops a.tmps) = true then Oper.wp P o a w K Q else E := by
  rw [if_pos (by simp [Region.wanted, hgd])]
  exact wp_load_mid ty x ho b f hx cs d hc hu hd hi h
theorem OutT.at {B : Nat} {w : World} {v : Value} {ps : List (Rec × Value)} (h : OutT B w v ps) : ∃ ao cap, v = .slice ao ps.length cap ∧ ∀ k (hk : k < ps.length), ∃ g, ao = some ⟨g, 0, none⟩ ∧ w.rangeAt g (k * 12) (rcl ps[k]) ∧ Bs w ps[k].2 ps[k].1.l := by
  have h0 := h.1
  rcases h.1.2 with ⟨rfl, h1⟩ | ⟨g, cap, cur, rfl, hb, hg, h1, h2, h3, h4⟩
  · exact ⟨none, 0, by rw [h1], fun k hk => by omega⟩
  · refine ⟨some ⟨g, 0, none⟩, cap, rfl, fun k hk => ⟨g, rfl, fun j u hu => ?_, (h.2 _ (List.getElem_mem hk)).bs⟩⟩
    have hj : j < 12 := (List.getElem?_eq_some_iff.1 hu).1
    have hl := rcls_len ps
    rw [← hu, ← rcls_get ps k hk j hj]
    exact World.ownsRow.cellAt h0 (k * 12 + j) (by rw [Nat.mul_comm]; omega)
theorem v3_stB (S : Sg) (h : chkS S = true) : V3 (stB S) ∧ (stB S).x.fit := by
  obtain ⟨⟨b1, b2, b3, b4, b5, b6, b7, b8, b9, b10, b11⟩, h1⟩ := (chkS_iff S).1 h
  have hv : V3 (stB S) := ⟨b2.1, b5.1, b5.2, .inl ⟨rfl, rfl, rfl, rfl, rfl, b3.1, b3.2, b4.1, b4.2, by show lab S.nm = 0; unfold lab; rw [if_pos b1], b8⟩⟩
  exact ⟨hv, fit_v3 _ hv b2.2⟩
theorem begin_stB (S : Sg) (h : chkS S = true) : beginP (stB S) = (0, stO S S.x.beg 0) := by
  unfold beginP
  rw [up_v3 _ (v3_stB S h).1 rfl, if_neg (by simp), if_neg (by simp [stB])]
  simp [stO, stB]
theorem story_rec {S : Sg} {ps : List (Rec × Value)} (hm : ps.map Prod.fst = storyP S) (n : Nat) (hn : n < ps.length) : (storyP S).drop n = ps[n].1 :: (storyP S).drop (n + 1) := by
  have h1 : n < (storyP S).length := by rw [← hm]; simpa using hn
  rw [List.drop_eq_getElem_cons h1]
  congr 1
  simp [← hm]
theorem OutT.weak {B B2 : Nat} {w : World} {v : Value} {ps : List (Rec × Value)} (h : OutT B2 w v ps) (hB : B ≤ B2) : OutT B w v ps := by
  refine ⟨⟨h.1.1, ?_⟩, fun p hp => own_weak (h.2 p hp) hB⟩
  rcases h.1.2 with h1 | ⟨g, cap, cur, e, hb, rest⟩
  · exact .inl h1
  · exact .inr ⟨g, cap, cur, e, Nat.le_trans hB hb, rest⟩
theorem sgo_oth {B : Nat} {w w' : World} {S : Sg} {h : SH} {g : Nat} {C : List Value} (k : SgO B w S h) (L : LB w g 25 C) (ho : Oth g w w') : SgO B w' S h := k.oth L (by decide) (by decide) ho
/-- what the loop over the story holds -/
def LX (w : World) (v : Value) (ps : List (Rec × Value)) (D : List Value) (q : Nat) (Q : Sg) (hq : SH) (wr : World) : Prop := LB wr q 25 (scl Q hq) ∧ SgO 0 wr Q hq ∧ OutT 0 wr v ps ∧ LB wr w.heap.size 25 D ∧ Below w.heap.size w wr ∧ w.heap.size < q
theorem LX.kept {w wr wr' : World} {v : Value} {ps : List (Rec × Value)} {D : List Value} {q : Nat} {Q : Sg} {hq : SH} (k : LX w v ps D q Q hq wr) (b : Below wr.heap.size wr wr') : LX w v ps D q Q hq wr' := ⟨k.1.kept b, k.2.1.kept b, k.2.2.1.kept b, k.2.2.2.1.kept b, andThen k.2.2.2.2.1 b, k.2.2.2.2.2⟩
theorem LX.put {w wr : World} {v : Value} {ps : List (Rec × Value)} {D : List Value} {q : Nat} {Q Q2 : Sg} {hq h2 : SH} (k : LX w v ps D q Q hq wr) (o : SgO 0 wr Q2 h2) : LX w v ps D q Q2 h2 (wr.setCells q 0 (scl Q2 h2)) :=
  ⟨k.1.sets _ rfl, sgo_oth o k.1 (Oth.sets _ _ _ _), k.2.2.1.but k.1 (by decide) (by decide) (Oth.sets _ _ _ _), k.2.2.2.1.others _ _ _ (by have := k.2.2.2.2.2; omega), below_cells (by have := k.2.2.2.2.2; omega) _ 0 _ k.2.2.2.2.1, k.2.2.2.2.2⟩
theorem play_step (Q S : Sg) (r : Rec) (rs : List Rec) (hc : chkS Q = true) (hl : Leads Q (r :: rs) S) : V3 r ∧ r.x.v = 3 ∧ refP Q.x r.x = 0 ∧ chkS (deedS Q r) = true ∧ r.nm.size ≤ 1048576 ∧ r.x.fit ∧ Leads (deedS Q r) rs S := by
  obtain ⟨hv, h3, h0, h4⟩ := hl
  have hz := ref_zero h0
  obtain ⟨⟨_, b2, _⟩, _⟩ := (chkS_iff Q).1 hc
  refine ⟨hv, h3, h0, chkS_deed Q r hc hv h0, ?_, fit_v3 r hv (by rw [hz.1]; exact b2.2), h4⟩
  have hn := hv
  obtain ⟨_, _, _, h1 | h1 | h1 | h1 | h1⟩ := hn
  · exact absurd h1.1 hz.2.1
  · rw [h1.2.2.2.2.2.2.2.2.2.1]; decide
  · rw [h1.2.2.2.2.2.2.2.2.1]; decide
  · rw [h1.2.2.2.2.2.2.2.2.2.2.1]; decide
  · rw [h1.2.2.2.2.2.2.2.2.1]; decide
set_option maxRecDepth 100000 in
set_option maxHeartbeats 8000000 in
theorem rxcheck_gen (S : Sg) (h : SH) (w : World) (k : SgAt w S h) (hT : Tabs w) (hnm : S.nm.size ≤ 1048576) (hc : chkS S = true) (hfc : -9223372036854775808 ≤ S.x.fc ∧ S.x.fc ≤ 9223372036854775807)
    (hTold : ∀ w', Below w.heap.size w w' → Calls Tryz.prog 58 #[sv S h] w' fun e w'' => ∃ v ps, e = .returned v ∧ OutT w'.heap.size w'' v ps ∧ ps.map Prod.fst = storyP S ∧ Below w'.heap.size w' w'')
    (hLi : ∀ (Q : Sg) (hq : SH) (r : Rec) (d : Value) (w' : World), r ∈ storyT S → SgO 0 w' Q hq → Bs w' d r.l → Calls Tryz.prog 62 #[sv Q hq, rv r.x r.nm d] w' fun e w'' => ∃ h2, e = .returned (sv (deedS Q r) h2) ∧ SgO 0 w'' (deedS Q r) h2 ∧ Below w'.heap.size w' w'')
    (hlen : (storyP S).length ≤ 3000) :
    Calls Tryz.prog 43 #[sv S h] w fun e w' => e = .returned (.int .i64 0) ∧ Below w.heap.size w w' := by
  have HSZ0 : ∀ w', Below w.heap.size w w' → Calls Tryz.prog 57 #[sv S h] w' fun e w'' => e = .returned (.bool true) ∧ Below w'.heap.size w' w'' := fun w' hb => rxsized_ok S h w' (hT.kept hb).rlets (by omega) hc
  have HTO0 := hTold
  have HSM0 : ∀ (hq : SH) (w' : World), Below w.heap.size w w' → SgO 0 w' S hq → Calls Tryz.prog 9 #[sv S hq, sv S h] w' fun e w'' => e = .returned (.bool true) ∧ Below w'.heap.size w' w'' := fun hq w' hb k' => same_any S hq h w' k'.at (k.kept hb)
  have HLI : Hid _ := hLi
  have HTB : Hid (∀ w', Below w.heap.size w w' → Tabs w') := fun w' hb => hT.kept hb
  have HOK : Hid (ok S.inp) := k.inp.good
  have HQ0 : Hid (beginP (stB S) = (0, stO S S.x.beg 0) ∧ Leads (stO S S.x.beg 0) (storyT S) S ∧ chkS (stO S S.x.beg 0) = true) := by
    have e1 := begin_stB S hc
    have e2 := begin_good (stB S) HOK.out (v3_stB S hc).2 (by rw [e1])
    rw [e1] at e2
    exact ⟨e1, story_leads S hc hfc, e2.1⟩
  have HBE0 : Hid (∀ (d0 : Value) (w' : World), Below w.heap.size w w' → Bs w' d0 (stB S).l → Calls Tryz.prog 59 #[rv (stB S).x (stB S).nm d0] w' fun e w'' => ∃ h', e = .returned (.tuple #[sv (stO S S.x.beg 0) h', .int .i64 0]) ∧ SgO 0 w'' (stO S S.x.beg 0) h' ∧ Below w'.heap.size w' w'') := fun d0 w' hb' hd => by
    have e := rxbegin_ok (stB S) d0 w' hd (HTB.out w' hb') hnm (v3_stB S hc).2 (v3_stB S hc).1 rfl rfl
    rw [HQ0.out.1] at e
    exact e.mono fun e w'' ⟨h9, q1, q2, q3⟩ => ⟨h9, q1, q2.weak (Nat.zero_le _), q3⟩
  obtain ⟨Z, hZ⟩ : ∃ Z, Z = zcl := ⟨_, rfl⟩
  have HZ : Hid (Z = zcl) := hZ
  have HZL : Hid (Z.length = 16) := by show _ = _; rw [hZ]; rfl
  obtain ⟨D, hD, hL, hE⟩ := sv_letter S h
  rw [hD] at HSZ0 HTO0 ⊢
  have HSZ : Hid _ := HSZ0
  have HTO : Hid _ := HTO0
  have HSM : Hid (∀ (hq : SH) (DQ : List Value) (w' : World), sv S hq = .agg DQ.toArray → Below w.heap.size w w' → SgO 0 w' S hq → Calls Tryz.prog 9 #[.agg DQ.toArray, .agg D.toArray] w' fun e w'' => e = .returned (.bool true) ∧ Below w'.heap.size w' w'') := fun hq DQ w' e1 hb k' => by
    have e := HSM0 hq w' hb k'
    rw [e1, hD] at e
    exact e
  have HL : Hid _ := hL
  have HE : Hid (D = scl S h) := hE
  have HX1 : Hid (LB (w.alloc (.cells D.toArray 25)) w.heap.size 25 D ∧ Below w.heap.size w (w.alloc (.cells D.toArray 25))) := ⟨lb_new w D _, up0 _ _⟩
  clear hD hL hE hZ HSZ0 HTO0 HSM0 hTold hLi k hT hnm
  go_enter Tryz.func43, Tryz.ntmps43
  go_wp2_with (first | (refine wpList_load_mid rfl 25 _ rfl w.heap.size 0 rfl D _ HX1.out.1.range Tryz.underlying25 rfl HL.out ?_) | fail)
  refine (HSZ.out _ HX1.out.2).mono ?_
  rintro e w1 ⟨rfl, b1⟩
  have H1 : Hid (LB w1 w.heap.size 25 D ∧ Below w.heap.size w w1) := ⟨HX1.out.1.kept b1, andThen HX1.out.2 b1⟩
  clear b1 HX1 HSZ
  go_wp2_with (first | (refine wpList_load_mid rfl 25 _ rfl w.heap.size 0 rfl D _ H1.out.1.range Tryz.underlying25 rfl HL.out ?_) | fail)
  refine (HTO.out _ H1.out.2).mono ?_
  rintro e w5 ⟨v5, ps, rfl, ho, hm, b5⟩
  have hpl : ps.length = (storyP S).length := by rw [← hm]; simp
  have hps : 0 < ps.length := by rw [hpl]; exact Nat.succ_pos _
  have hpb : ps.length ≤ 3000 := by omega
  obtain ⟨ao, cap5, rfl, hk5⟩ := ho.at
  obtain ⟨g5, rfl, _, _⟩ := hk5 0 hps
  have HPS : Hid (ps.map Prod.fst = storyP S) := hm
  have H8 : Hid (LB w5 w.heap.size 25 D ∧ Below w.heap.size w w5 ∧ OutT 0 w5 (.slice (some ⟨g5, 0, none⟩) ps.length cap5) ps) := ⟨H1.out.1.kept b5, andThen H1.out.2 b5, ho.weak (Nat.zero_le _)⟩
  clear b5 H1 ho hm hk5 hpl HTO hlen
  have HAT : Hid (∀ wr, OutT 0 wr (.slice (some ⟨g5, 0, none⟩) ps.length cap5) ps → ∀ k (hk : k < ps.length), wr.rangeAt g5 (k * 12) (rcl ps[k]) ∧ Bs wr ps[k].2 ps[k].1.l) := fun wr ho k hk => by
    obtain ⟨ao, cap, e, h9⟩ := ho.at
    obtain ⟨g9, rfl, q1, q2⟩ := h9 k hk
    simp only [Value.slice.injEq, Option.some.injEq, Addr.mk.injEq] at e
    obtain ⟨⟨rfl, _⟩, _⟩ := e
    exact ⟨q1, q2⟩
  have hp0 : ps[0].1 = stB S := by have e := story_rec HPS.out 0 hps; simp [storyP] at e; exact e.symm
  obtain ⟨r0, d0, hrd⟩ : ∃ r0 d0, ps[0] = (r0, d0) := ⟨_, _, rfl⟩
  rw [hrd] at hp0
  obtain rfl : r0 = stB S := hp0
  have hat0 := HAT.out _ H8.out.2.2 0 hps
  rw [hrd] at hat0
  obtain ⟨R0, hR0, hR0L, hR0E⟩ := rv_letter (stB S).x (stB S).nm d0
  have HR0L : Hid _ := hR0L
  have HR0 : Hid (w5.rangeAt g5 0 R0 ∧ Bs w5 d0 (stB S).l) := ⟨by rw [hR0E]; have e := hat0.1; rw [Nat.zero_mul] at e; exact e, hat0.2⟩
  have HBE : Hid (∀ w', Below w.heap.size w w' → Bs w' d0 (stB S).l → Calls Tryz.prog 59 #[.agg R0.toArray] w' fun e w'' => ∃ h', e = .returned (.tuple #[sv (stO S S.x.beg 0) h', .int .i64 0]) ∧ SgO 0 w'' (stO S S.x.beg 0) h' ∧ Below w'.heap.size w' w'') := fun w' hb' hd => by
    have e := HBE0.out d0 w' hb' hd
    rw [hR0] at e
    exact e
  clear hrd hat0 hR0 hR0L hR0E HBE0
  obtain ⟨Q0, hQ0⟩ : ∃ Q0, stO S S.x.beg 0 = Q0 := ⟨_, rfl⟩
  rw [hQ0] at HBE HQ0
  clear hQ0
  go_wp2_with (first | (refine wpList_load_mid rfl 27 _ rfl g5 0 rfl R0 _ HR0.out.1 Tryz.underlying27 rfl HR0L.out ?_) | fail)
  refine (HBE.out _ H8.out.2.1 HR0.out.2).mono ?_
  rintro e x1 ⟨h9, rfl, o9, b9⟩
  obtain ⟨D9, hD9, hL9, hE9⟩ := sv_letter Q0 h9
  rw [hD9]
  have HL9 : Hid _ := hL9
  have H19 : Hid (∀ v ∈ D9, v.oneCell' = true) := by show ∀ v ∈ D9, _; rw [hE9]; exact scl_one _ _
  have HZ9 : Hid (D9.length = Z.length) := by show _ = _; rw [hE9, HZL.out]; rfl
  have HT9 : Hid ((x1.alloc (.cells Z.toArray 25)).there x1.heap.size 0 D9.toArray.size) := there_of (lb_new x1 Z _) (by simpa using HZ9.out)
  have H9 : Hid (∃ X2, X2 = (x1.alloc (.cells Z.toArray 25)).setCells x1.heap.size 0 D9 ∧ LX w (.slice (some ⟨g5, 0, none⟩) ps.length cap5) ps D x1.heap.size Q0 h9 X2) := by
    obtain ⟨q1, q2⟩ := one_boxR x1 25 Z D9 HZ9.out
    exact ⟨_, rfl, by rw [← hE9]; exact q1, o9.kept q2, (H8.out.2.2.kept b9).kept q2, (H8.out.1.kept b9).kept q2, andThen (andThen H8.out.2.1 b9) q2, (H8.out.1.kept b9).lt⟩
  clear hD9 hL9 hE9 o9 b9 H8 HR0 HBE
  go_wp2_with (first | (refine wpList_alloc_Z HZ.out rfl rfl ?_) | (refine wpList_store_mid rfl 25 (.tmp 5) (.tmp 21) rfl x1.heap.size 0 D9.toArray rfl rfl HT9.out (by simpa using HL9.out) (all_oneCell_toArray H19.out) ?_; (obtain ⟨X2, hX2, hq⟩ := H9.out); (have HA : Hid (LX w (.slice (some ⟨g5, 0, none⟩) ps.length cap5) ps D x1.heap.size Q0 h9 X2) := hq); (rw [List.toList_toArray, ← hX2]); (clear hX2 hq H9 HT9)) | fail)
  clear HL9 H19 HZ9
  generalize x1.heap.size = q at HA ⊢
  go_loopw [6, 7] (fun f i wr => ∃ (n : Nat) (Q : Sg) (hq : SH), f = .int .i64 0 ∧ i = .int .i64 (n : Int) ∧ 1 ≤ n ∧ n ≤ ps.length ∧ chkS Q = true ∧ Leads Q ((storyP S).drop n) S ∧ LX w (.slice (some ⟨g5, 0, none⟩) ps.length cap5) ps D q Q hq wr) (fun _ i _ => ps.length - (intOf i).toNat)
  case atStart => exact ⟨1, Q0, h9, rfl, rfl, Nat.le_refl _, hps, HQ0.out.2.2, HQ0.out.2.1, HA.out⟩
  case round =>
    obtain ⟨n, Q, hq, rfl, rfl, hn1, hn, hQ, hle, hw⟩ := hrel
    have HW : Hid (LX w (.slice (some ⟨g5, 0, none⟩) ps.length cap5) ps D q Q hq wr) := hw
    have HQ : Hid (chkS Q = true) := hQ
    have HLE : Hid (Leads Q ((storyP S).drop n) S) := hle
    clear hw hQ hle HA HQ0
    obtain ⟨DQ, hDQ, hDQL, hDQE⟩ := sv_letter Q hq
    by_cases hlt : n < ps.length
    · obtain ⟨r1, d1, hrd⟩ : ∃ r1 d1, ps[n] = (r1, d1) := ⟨_, _, rfl⟩
      have hdr := story_rec HPS.out n hlt
      rw [hrd] at hdr
      have hmem : r1 ∈ storyT S := by
        have h1 : r1 ∈ (storyP S).drop n := by rw [hdr]; exact List.mem_cons_self
        have h2 : (storyP S).drop n = (storyT S).drop (n - 1) := by
          obtain ⟨m, rfl⟩ : ∃ m, n = m + 1 := ⟨n - 1, by omega⟩
          rfl
        rw [h2] at h1
        exact List.mem_of_mem_drop h1
      have hst := play_step Q S r1 _ HQ.out (by have e := HLE.out; rw [hdr] at e; exact e)
      obtain ⟨R1, hR1, hR1L, hR1E⟩ := rv_letter r1.x r1.nm d1
      have HR1L : Hid _ := hR1L
      have HDQL : Hid _ := hDQL
      have HDQE : Hid (DQ = scl Q hq) := hDQE
      have HRW : Hid (∀ wx, LX w (.slice (some ⟨g5, 0, none⟩) ps.length cap5) ps D q Q hq wx → wx.rangeAt g5 (n * 12) R1 ∧ Bs wx d1 r1.l) := fun wx k => by
        have e := HAT.out wx k.2.2.1 n hlt
        rw [hrd] at e
        rw [hR1E]
        exact e
      obtain ⟨Q2, hQ2⟩ : ∃ Q2, deedS Q r1 = Q2 := ⟨_, rfl⟩
      have HCK : Hid (∀ w', Below w.heap.size w w' → Bs w' d1 r1.l → Calls Tryz.prog 60 #[.agg R1.toArray] w' fun e w'' => e = .returned (.int .i64 0) ∧ Below w'.heap.size w' w'') := fun w' hb' hd => by
        have e := refcheck_any r1.x r1.nm d1 r1.l w' hd (HTB.out w' hb').rlets (HTB.out w' hb').rows hst.2.2.2.2.2.1.c (by have := hst.2.2.2.2.1; omega)
        rw [(v3_iff r1 hst.2.1).2 hst.1, hR1] at e
        exact e
      have HRF : Hid (∀ w', Calls Tryz.prog 61 #[.agg DQ.toArray, .agg R1.toArray] w' fun e w'' => e = .returned (.int .i64 0) ∧ Below w'.heap.size w' w'') := fun w' => by
        have e := rref_any Q hq r1 d1 w' HQ.out hst.1
        rw [hst.2.2.1, hDQ, hR1] at e
        exact e
      have HLQ : Hid (∀ w', SgO 0 w' Q hq → Bs w' d1 r1.l → Calls Tryz.prog 62 #[.agg DQ.toArray, .agg R1.toArray] w' fun e w'' => ∃ h2, e = .returned (sv Q2 h2) ∧ SgO 0 w'' Q2 h2 ∧ Below w'.heap.size w' w'') := fun w' k' hd => by
        have e := HLI.out Q hq r1 d1 w' hmem k' hd
        rw [hDQ, hR1, hQ2] at e
        exact e
      have HQ2 : Hid (chkS Q2 = true ∧ Leads Q2 ((storyP S).drop (n + 1)) S) := by
        rw [← hQ2]
        exact ⟨hst.2.2.2.1, hst.2.2.2.2.2.2⟩
      have HRWw : Hid _ := HRW.out _ HW.out
      clear hrd hdr hst hmem hR1 hR1L hR1E hDQ hDQL hDQE hQ2
      go_wp2_with (first | (refine wpList_load_mid rfl 27 _ rfl g5 (n * 12) rfl R1 _ HRWw.out.1 Tryz.underlying27 rfl HR1L.out ?_) | fail)
      refine (HCK.out _ HW.out.2.2.2.2.1 HRWw.out.2).mono ?_
      rintro e y1 ⟨rfl, b1⟩
      have HY1 : Hid (LX w (.slice (some ⟨g5, 0, none⟩) ps.length cap5) ps D q Q hq y1) := HW.out.kept b1
      clear b1 HW HRWw HCK
      go_wp2
      have HV : Hid (LX w (.slice (some ⟨g5, 0, none⟩) ps.length cap5) ps D q Q hq y1.drew) := HY1.out.kept (Below.drew (Below.refl _ _))
      have HVR : Hid (y1.drew.rangeAt q 0 DQ ∧ y1.drew.rangeAt g5 (n * 12) R1) := ⟨by rw [HDQE.out]; exact HV.out.1.range, (HRW.out _ HV.out).1⟩
      clear HY1
      refine wp_region_held_drew (S := fun w' : World => w'.rangeAt q 0 DQ ∧ w'.rangeAt g5 (n * 12) R1) (by kernel_rfl) HVR.out (fun hH => ?_)
      generalize y1.drew = V1 at *
      refine wpAnyH_take (i := 0) rfl (by kernel_rfl) (by kernel_rfl) (by kernel_rfl) (fun _ _ _ h => h) (yieldsIf_load_mid (by rfl) _ _ rfl _ _ rfl DQ _ (fun w' hSw => hSw.1) Tryz.underlying25 rfl HDQL.out) hH ?_
      simp only [Act.put, List.setIfInBounds_toArray, List.set_cons_zero, List.set_cons_succ, List.getElem_toArray, List.getElem_cons_zero]
      refine wpAnyH_take (i := 1) (v := ?v1) rfl (by kernel_rfl) (by kernel_rfl) (by kernel_rfl) (fun _ _ _ h => h) (Or.inl ⟨by rfl, ?hy1⟩) hH ?rest1
      case hy1 => intro w' hSw; (try dsimp only at hSw); go_simp; all_goals rfl
      simp only [Act.put, List.setIfInBounds_toArray, List.set_cons_zero, List.set_cons_succ, List.getElem_toArray, List.getElem_cons_zero, List.getElem_cons_succ]
      refine wpAnyH_take (i := 2) (v := ?v2) rfl (by kernel_rfl) (by kernel_rfl) (by kernel_rfl) (fun _ _ _ h => h) (Or.inl ⟨by rfl, ?hy2⟩) hH ?rest2
      case hy2 => intro w' hSw; (try dsimp only at hSw); go_simp; all_goals rfl
      simp only [Act.put, List.setIfInBounds_toArray, List.set_cons_zero, List.set_cons_succ, List.getElem_toArray, List.getElem_cons_zero, List.getElem_cons_succ]
      refine wpAnyH_take (i := 3) (v := ?v3) rfl (by kernel_rfl) (by kernel_rfl) (by kernel_rfl) (fun _ _ _ h => h) (Or.inl ⟨by rfl, ?hy3⟩) hH ?rest3
      case hy3 => intro w' hSw; (try dsimp only at hSw); go_simp; all_goals rfl
      simp only [Act.put, List.setIfInBounds_toArray, List.set_cons_zero, List.set_cons_succ, List.getElem_toArray, List.getElem_cons_zero, List.getElem_cons_succ]
      refine wpAnyH_take (i := 4) rfl (by kernel_rfl) (by kernel_rfl) (by kernel_rfl) (fun _ _ _ h => h) (yieldsIf_load_mid (by rfl) _ _ rfl _ _ rfl R1 _ (fun w' hSw => hSw.2) Tryz.underlying27 rfl HR1L.out) hH ?_
      simp only [Act.put, List.setIfInBounds_toArray, List.set_cons_zero, List.set_cons_succ, List.getElem_toArray, List.getElem_cons_zero, List.getElem_cons_succ]
      refine wpAnyH_ready (rs := [5]) (by kernel_rfl) (by simp) ?_
      refine AllReadyH.cons rfl (fun K hK => ?_) AllReadyH.nil
      go_simp
      refine (HRF.out _).mono ?_
      rintro e y2 ⟨rfl, b2⟩
      have HV2 : Hid (LX w (.slice (some ⟨g5, 0, none⟩) ps.length cap5) ps D q Q hq y2) := HV.out.kept b2
      refine hK.out _ _ ⟨by rw [HDQE.out]; exact HV2.out.1.range, (HRW.out _ HV2.out).1⟩ (fun hH2 => ?_)
      clear hK K hH
      have hH := hH2
      clear hH2
      clear b2
      refine wpAnyH_take (i := 6) (v := ?v4) rfl (by kernel_rfl) (by kernel_rfl) (by kernel_rfl) (fun _ _ _ h => h) (Or.inl ⟨by rfl, ?hy4⟩) hH ?rest4
      case hy4 => intro w' hSw; (try dsimp only at hSw); go_simp; all_goals rfl
      simp only [Act.put, List.setIfInBounds_toArray, List.set_cons_zero, List.set_cons_succ, List.getElem_toArray, List.getElem_cons_zero, List.getElem_cons_succ]
      refine wpAnyH_done (by kernel_rfl) ?_ _
      clear hH HV HVR HRF
      go_wp2
      have HV3 : Hid (LX w (.slice (some ⟨g5, 0, none⟩) ps.length cap5) ps D q Q hq y2.drew) := HV2.out.kept (Below.drew (Below.refl _ _))
      have HVR3 : Hid (y2.drew.rangeAt g5 (n * 12) R1 ∧ Bs y2.drew d1 r1.l) := HRW.out _ HV3.out
      clear HV2
      refine wp_region_held_drew (S := fun w' : World => w'.rangeAt g5 (n * 12) R1) (by kernel_rfl) HVR3.out.1 (fun hH => ?_)
      generalize y2.drew = V2 at *
      refine wpAnyH_take (i := 1) (v := ?v5) rfl (by kernel_rfl) (by kernel_rfl) (by kernel_rfl) (fun _ _ _ h => h) (Or.inl ⟨by rfl, ?hy5⟩) hH ?rest5
      case hy5 => intro w' hSw; (try dsimp only at hSw); go_simp; all_goals rfl
      simp only [Act.put, List.setIfInBounds_toArray, List.set_cons_zero, List.set_cons_succ, List.getElem_toArray, List.getElem_cons_zero, List.getElem_cons_succ]
      refine wpAnyH_take (i := 2) (v := ?v6) rfl (by kernel_rfl) (by kernel_rfl) (by kernel_rfl) (fun _ _ _ h => h) (Or.inl ⟨by rfl, ?hy6⟩) hH ?rest6
      case hy6 => intro w' hSw; (try dsimp only at hSw); go_simp; all_goals rfl
      simp only [Act.put, List.setIfInBounds_toArray, List.set_cons_zero, List.set_cons_succ, List.getElem_toArray, List.getElem_cons_zero, List.getElem_cons_succ]
      refine wpAnyH_take (i := 3) (v := ?v7) rfl (by kernel_rfl) (by kernel_rfl) (by kernel_rfl) (fun _ _ _ h => h) (Or.inl ⟨by rfl, ?hy7⟩) hH ?rest7
      case hy7 => intro w' hSw; (try dsimp only at hSw); go_simp; all_goals rfl
      simp only [Act.put, List.setIfInBounds_toArray, List.set_cons_zero, List.set_cons_succ, List.getElem_toArray, List.getElem_cons_zero, List.getElem_cons_succ]
      refine wpAnyH_take (i := 4) rfl (by kernel_rfl) (by kernel_rfl) (by kernel_rfl) (fun _ _ _ h => h) (yieldsIf_load_mid (by rfl) _ _ rfl _ _ rfl R1 _ (fun w' hSw => hSw) Tryz.underlying27 rfl HR1L.out) hH ?_
      simp only [Act.put, List.setIfInBounds_toArray, List.set_cons_zero, List.set_cons_succ, List.getElem_toArray, List.getElem_cons_zero, List.getElem_cons_succ]
      refine wpAnyH_ready (rs := [0]) (by kernel_rfl) (by simp) ?_
      refine AllReadyH.cons rfl (fun K hK => ?_) AllReadyH.nil
      refine step_load rfl 25 _ rfl q 0 rfl DQ _ (by rw [HDQE.out]; exact HV3.out.1.range) Tryz.underlying25 rfl HDQL.out ?_
      refine hK.out _ _ HVR3.out.1 (fun hH2 => ?_)
      clear hK K hH
      have hH := hH2
      clear hH2
      simp only [Act.put, List.setIfInBounds_toArray, List.set_cons_zero, List.set_cons_succ, List.getElem_toArray, List.getElem_cons_zero]
      refine wpAnyH_ready (rs := [5]) (by kernel_rfl) (by simp) ?_
      refine AllReadyH.cons rfl (fun K hK => ?_) AllReadyH.nil
      go_simp
      refine (HLQ.out _ HV3.out.2.1 HVR3.out.2).mono ?_
      rintro e x2 ⟨h2, rfl, o2, b2⟩
      have HV4 : Hid (LX w (.slice (some ⟨g5, 0, none⟩) ps.length cap5) ps D q Q hq x2) := HV3.out.kept b2
      have HP : Hid (LX w (.slice (some ⟨g5, 0, none⟩) ps.length cap5) ps D q Q2 h2 (x2.setCells q 0 (scl Q2 h2))) := HV4.out.put o2
      have HPR : Hid ((x2.setCells q 0 (scl Q2 h2)).rangeAt g5 (n * 12) R1) := by
        obtain ⟨q1, _⟩ := HRW.out _ HV4.out
        intro j u hu
        have hne : g5 ≠ q := by
          rintro rfl
          obtain ⟨cs, z, h8⟩ := rrow_typed HV4.out.2.2.1.1 g5 rfl
          rw [HV4.out.1] at h8
          simp at h8
        have h9 := q1 j u hu
        rw [← h9]
        exact World.cell?_of_block (cells_other q _ 0 x2 g5 hne)
      obtain ⟨D2, hD2, hL2, hE2⟩ := sv_letter Q2 h2
      rw [hD2]
      have HL2x : Hid _ := hL2
      have HE2x : Hid (D2 = scl Q2 h2) := hE2
      have H12 : Hid (∀ v ∈ D2, v.oneCell' = true) := by show ∀ v ∈ D2, _; rw [hE2]; exact scl_one _ _
      have HT2 : Hid (x2.there q 0 D2.toArray.size) := there_of HV4.out.1 (by rw [hE2]; rfl)
      clear hD2 hL2 hE2 o2
      refine hK.out _ _ (HRW.out _ HV4.out).1 (fun hH2 => ?_)
      clear hK K hH
      have hH := hH2
      clear hH2
      clear b2
      refine wpAnyH_ready (rs := [6]) (by kernel_rfl) (by simp) ?_
      refine AllReadyH.cons rfl (fun K hK => ?_) AllReadyH.nil
      refine step_storeX rfl 25 (.tmp 5) (.tmp 54) rfl q 0 D2.toArray rfl rfl HT2.out (by simpa using HL2x.out) (all_oneCell_toArray H12.out) ?_
      rw [List.toList_toArray, HE2x.out]
      refine hK.out _ _ HPR.out (fun hH2 => ?_)
      clear hK K hH
      have hH := hH2
      clear hH2
      simp only [Act.put, List.getElem_toArray, List.getElem_cons_zero, List.getElem_cons_succ]
      refine wpAnyH_done (by kernel_rfl) ?_ _
      clear hH HV3 HVR3 HV4 HLQ HRW HT2 HPR
      go_wp2
      go_roundw
      case rel => exact ⟨n + 1, Q2, h2, rfl, by go_num, by omega, by omega, HQ2.out.1, HQ2.out.2, HP.out⟩
      case measure => simp [intOf]; omega
    · obtain rfl : n = ps.length := by omega
      have hend : (storyP S).drop ps.length = [] := by rw [← HPS.out]; simp
      have hQS : Q = S := by have e := HLE.out; rw [hend] at e; exact e
      subst hQS
      have HSMq : Hid (∀ w', Below w.heap.size w w' → SgO 0 w' Q hq → Calls Tryz.prog 9 #[.agg DQ.toArray, .agg D.toArray] w' fun e w'' => e = .returned (.bool true) ∧ Below w'.heap.size w' w'') := fun w' hb' k' => HSM.out hq DQ w' hDQ hb' k'
      have HDQw : Hid (wr.rangeAt q 0 DQ) := by show wr.rangeAt q 0 DQ; rw [hDQE]; exact HW.out.1.range
      have HDQL : Hid _ := hDQL
      clear HLE hend HPS HAT hDQ hDQL hDQE
      go_wp2_with (first | (refine wpList_load_mid rfl 25 _ rfl q 0 rfl DQ _ HDQw.out Tryz.underlying25 rfl HDQL.out ?_) | (refine wpList_load_mid rfl 25 _ rfl w.heap.size 0 rfl D _ HW.out.2.2.2.1.range Tryz.underlying25 rfl HL.out ?_) | fail)
      refine (HSMq.out _ HW.out.2.2.2.2.1 HW.out.2.1).mono ?_
      rintro e y1 ⟨rfl, b1⟩
      have H7 : Hid (Below w.heap.size w y1) := andThen HW.out.2.2.2.2.1 b1
      clear b1
      go_wp2
      go_ret
      exact ⟨rfl, H7.out⟩
end Go.Proofs.YtgjlkkikgkbamaaGreatDoor

/-
  The reference's saga: step, Apply of a record that is refused.
-/
namespace Go.Proofs.YtgjlkkikgkbamaaGreatDoor
open Go Go.RowKit
open Wb

set_option maxRecDepth 100000 in
set_option maxHeartbeats 4000000 in
theorem rxstep_err (S : Sg) (h : SH) (r : Rec) (d : Value) (w : World) (hb : Bs w d r.l) (hT : Tabs w) (hc : chkS S = true) (hnm : r.nm.size ≤ 1048576) (hf : r.x.fit) (hv : V3 r) (h3 : r.x.v = 3) (h0 : refP S.x r.x ≠ 0) : Calls Tryz.prog 44 #[sv S h, rv r.x r.nm d] w fun e w' => ∃ hz, e = .returned (.tuple #[sv zSg hz, .int .i64 (refP S.x r.x)]) ∧ Below w.heap.size w w' := by
  have HCK0 : ∀ w', Below w.heap.size w w' → Calls Tryz.prog 60 #[rv r.x r.nm d] w' fun e w'' => e = .returned (.int .i64 0) ∧ Below w'.heap.size w' w'' := fun w' hb' => by
    have e := refcheck_any r.x r.nm d r.l w' (hb.kept hb') (hT.kept hb').rlets (hT.kept hb').rows hf.c (by omega)
    rw [(v3_iff r h3).2 hv] at e
    exact e
  have HTH0 : ∀ w', Below w.heap.size w w' → Calls Tryz.prog 63 #[rv r.x r.nm d] w' fun e w'' => ∃ ao, ∃ cap : Nat, e = .returned (rv r.x r.nm (.slice ao r.l.length cap)) ∧ Bs w'' (.slice ao r.l.length cap) r.l ∧ Below w'.heap.size w' w'' := fun w' hb' => by
    have e := rxthird_any r d w' (hb.kept hb') (hT.kept hb') hnm hf
    rw [up_v3 r hv h3] at e
    exact e
  obtain ⟨z, hz⟩ : ∃ z, refP S.x r.x = z := ⟨_, rfl⟩
  rw [hz] at h0 ⊢
  have HRF0 : ∀ (v : Value) (w' : World), Calls Tryz.prog 61 #[sv S h, rv r.x r.nm v] w' fun e w'' => e = .returned (.int .i64 z) ∧ Below w'.heap.size w' w'' := fun v w' => by
    have e := rref_any S h r v w' hc hv
    rw [hz] at e
    exact e
  have hz0 : (z != 0) = true := by rw [bne_iff_ne]; exact h0
  obtain ⟨ZR, hZR⟩ : ∃ ZR, ZR = zrl := ⟨_, rfl⟩
  have HZR : Hid (ZR = zrl) := hZR
  have HZRL : Hid (ZR.length = 12) := by show _ = _; rw [hZR]; rfl
  obtain ⟨Z, hZ⟩ : ∃ Z, Z = zcl := ⟨_, rfl⟩
  have HZ : Hid (Z = zcl) := hZ
  have HZL : Hid (Z.length = 16) := by show _ = _; rw [hZ]; rfl
  have HZI : Hid ((Tryz.prog.info? 25).map (·.size) = some Z.length) := by show _ = _; rw [hZ]; exact infoSaga
  have HZ1 : Hid (∀ v ∈ Z, v.oneCell' = true) := by show ∀ v ∈ Z, _; rw [hZ]; exact scl_one zSg ⟨none, 0, none, 0, none, 0, none, 0⟩
  obtain ⟨D, hD, hL, hE⟩ := sv_letter S h
  obtain ⟨E, hD2, hL2, hE2⟩ := rv_letter r.x r.nm d
  rw [hD] at HRF0
  rw [hD2] at HCK0 HTH0
  rw [hD, hD2]
  have HCK : Hid _ := HCK0
  have HTH : Hid _ := HTH0
  have HRF : Hid _ := HRF0
  have HL : Hid _ := hL
  have HL2 : Hid _ := hL2
  have HX : Hid (LB (((w.alloc (.cells D.toArray 25)).alloc (.cells E.toArray 27)).alloc (.cells Z.toArray 25)) w.heap.size 25 D ∧ LB (((w.alloc (.cells D.toArray 25)).alloc (.cells E.toArray 27)).alloc (.cells Z.toArray 25)) (w.heap.size + 1) 27 E ∧ LB (((w.alloc (.cells D.toArray 25)).alloc (.cells E.toArray 27)).alloc (.cells Z.toArray 25)) (w.heap.size + 2) 25 Z ∧ Below w.heap.size w (((w.alloc (.cells D.toArray 25)).alloc (.cells E.toArray 27)).alloc (.cells Z.toArray 25))) := lb_new3 w D E Z _ _ _
  clear hD hL hE hD2 hL2 hE2 HCK0 HTH0 HRF0 hZ hZR hb hT hc hnm hf hv h3 h0 hz
  go_enter Tryz.func44, Tryz.ntmps44
  go_wp2_with (first | (refine wpList_alloc_Z HZ.out rfl rfl ?_; (try simp only [heap_one])) | (refine wpList_load_mid rfl 27 _ rfl (w.heap.size + 1) 0 rfl E _ HX.out.2.1.range Tryz.underlying27 rfl HL2.out ?_) | fail)
  refine (HCK.out _ HX.out.2.2.2).mono ?_
  rintro e w1 ⟨rfl, b1⟩
  have H1 : Hid (LB w1 w.heap.size 25 D ∧ LB w1 (w.heap.size + 1) 27 E ∧ LB w1 (w.heap.size + 2) 25 Z ∧ Below w.heap.size w w1) := ⟨HX.out.1.kept b1, HX.out.2.1.kept b1, HX.out.2.2.1.kept b1, andThen HX.out.2.2.2 b1⟩
  clear b1 HX HCK
  go_wp2_with (first | (refine wpList_load_mid rfl 27 _ rfl (w.heap.size + 1) 0 rfl E _ H1.out.2.1.range Tryz.underlying27 rfl HL2.out ?_) | fail)
  refine (HTH.out _ H1.out.2.2.2).mono ?_
  rintro e w2 ⟨a3, c3, rfl, bs2, b2⟩
  obtain ⟨G, hG, hGL, hGE⟩ := rv_letter r.x r.nm (.slice a3 r.l.length c3)
  rw [hG]
  have HRG : Hid (∀ w', Calls Tryz.prog 61 #[.agg D.toArray, .agg G.toArray] w' fun e w'' => e = .returned (.int .i64 z) ∧ Below w'.heap.size w' w'') := fun w' => by
    have e := HRF.out (.slice a3 r.l.length c3) w'
    rw [hG] at e
    exact e
  have HGL : Hid _ := hGL
  have HG1 : Hid (∀ v ∈ G, v.oneCell' = true) := by show ∀ v ∈ G, _; rw [hGE]; exact rcE_one _ _ _ rfl
  have HGZ : Hid (G.length = ZR.length) := by show _ = _; rw [hGE, HZRL.out]; rfl
  have HTZ : Hid ((w2.alloc (.cells ZR.toArray 27)).there w2.heap.size 0 G.toArray.size) := there_of (lb_new w2 ZR _) (by simpa using HGZ.out)
  have H3 : Hid (∃ W3, W3 = (w2.alloc (.cells ZR.toArray 27)).setCells w2.heap.size 0 G ∧ LB W3 w.heap.size 25 D ∧ LB W3 (w.heap.size + 2) 25 Z ∧ LB W3 w2.heap.size 27 G ∧ Below w.heap.size w W3) := by
    obtain ⟨q1, q2⟩ := one_boxR w2 27 ZR G HGZ.out
    exact ⟨_, rfl, (H1.out.1.kept b2).kept q2, (H1.out.2.2.1.kept b2).kept q2, q1, andThen (andThen H1.out.2.2.2 b2) q2⟩
  clear hG hGL hGE b2 bs2 H1 HTH HRF HL2
  go_wp2_with (first | (refine wpList_alloc_R HZR.out rfl rfl ?_) | (refine wpList_store_mid rfl 27 (.tmp 7) (.tmp 15) rfl w2.heap.size 0 G.toArray rfl rfl HTZ.out (by simpa using HGL.out) (all_oneCell_toArray HG1.out) ?_; (obtain ⟨W3, hW3, hq⟩ := H3.out); (have H4 : Hid _ := hq); (rw [List.toList_toArray, ← hW3]); (clear hW3 hq H3 HTZ)) | (refine wpList_load_mid rfl 25 _ rfl w.heap.size 0 rfl D _ H4.out.1.range Tryz.underlying25 rfl HL.out ?_) | (refine wpList_load_mid rfl 27 _ rfl w2.heap.size 0 rfl G _ H4.out.2.2.1.range Tryz.underlying27 rfl HGL.out ?_) | fail)
  refine (HRG.out _).mono ?_
  rintro e w4 ⟨rfl, b4⟩
  have H5 : Hid (LB w4 (w.heap.size + 2) 25 Z ∧ Below w.heap.size w w4) := ⟨H4.out.2.1.kept b4, andThen H4.out.2.2.2 b4⟩
  clear b4 H4 HRG HGL HG1 HGZ
  go_wp2_with (first | (refine wpList_build_Z HZ.out rfl rfl ?_) | (refine wpList_store_mid rfl 25 (.tmp 4) (.tmp 21) rfl (w.heap.size + 2) 0 Z.toArray rfl rfl (there_of H5.out.1 (by simp)) (by simpa using HZI.out) (all_oneCell_toArray HZ1.out) ?_; (rw [List.toList_toArray])) | fail)
  have HR9 : Hid ((w4.setCells (w.heap.size + 2) 0 Z).rangeAt (w.heap.size + 2) 0 Z) := (H5.out.1.sets Z rfl).range
  refine bodyPost_ret (results_cell_slot (p := 4) (s := 5) (ty := 25) rfl _ (w4.setCells (w.heap.size + 2) 0 Z) (w.heap.size + 2) Z _ rfl HR9.out Tryz.underlying25 rfl HZI.out) rfl ?_
  exact ⟨⟨none, 0, none, 0, none, 0, none, 0⟩, by rw [HZ.out]; rfl, below_cells (by omega) _ 0 _ H5.out.2⟩
set_option maxRecDepth 100000 in
set_option maxHeartbeats 4000000 in
theorem rxapply_err (S : Sg) (h : SH) (r : Rec) (d : Value) (w : World) (hb : Bs w d r.l) (hT : Tabs w) (hc : chkS S = true) (hnm : r.nm.size ≤ 1048576) (hf : r.x.fit) (hv : V3 r) (h3 : r.x.v = 3) (h0 : refP S.x r.x ≠ 0)
    (hCK : ∀ w', Below w.heap.size w w' → Calls Tryz.prog 43 #[sv S h] w' fun e w'' => e = .returned (.int .i64 0) ∧ Below w'.heap.size w' w'') : Calls Tryz.prog 21 #[sv S h, rv r.x r.nm d] w fun e w' => ∃ hz, e = .returned (.tuple #[sv zSg hz, .int .i64 (refP S.x r.x)]) ∧ Below w.heap.size w w' := by
  have HST0 : ∀ w', Below w.heap.size w w' → Calls Tryz.prog 44 #[sv S h, rv r.x r.nm d] w' fun e w'' => ∃ hz, e = .returned (.tuple #[sv zSg hz, .int .i64 (refP S.x r.x)]) ∧ Below w'.heap.size w' w'' := fun w' hb' => rxstep_err S h r d w' (hb.kept hb') (hT.kept hb') hc hnm hf hv h3 h0
  have HCK0 := hCK
  obtain ⟨z, hz⟩ : ∃ z, refP S.x r.x = z := ⟨_, rfl⟩
  rw [hz] at HST0 ⊢
  obtain ⟨Z, hZ⟩ : ∃ Z, Z = zcl := ⟨_, rfl⟩
  have HZ : Hid (Z = zcl) := hZ
  have HZL : Hid (Z.length = 16) := by show _ = _; rw [hZ]; rfl
  have HZI : Hid ((Tryz.prog.info? 25).map (·.size) = some Z.length) := by show _ = _; rw [hZ]; exact infoSaga
  have HZ1 : Hid (∀ v ∈ Z, v.oneCell' = true) := by show ∀ v ∈ Z, _; rw [hZ]; exact scl_one zSg ⟨none, 0, none, 0, none, 0, none, 0⟩
  obtain ⟨D, hD, hL, hE⟩ := sv_letter S h
  obtain ⟨E, hD2, hL2, hE2⟩ := rv_letter r.x r.nm d
  rw [hD] at HCK0
  rw [hD, hD2] at HST0
  rw [hD, hD2]
  have HCK : Hid _ := HCK0
  have HST : Hid _ := HST0
  have HL : Hid _ := hL
  have HL2 : Hid _ := hL2
  have HX : Hid (LB (((w.alloc (.cells D.toArray 25)).alloc (.cells E.toArray 27)).alloc (.cells Z.toArray 25)) w.heap.size 25 D ∧ LB (((w.alloc (.cells D.toArray 25)).alloc (.cells E.toArray 27)).alloc (.cells Z.toArray 25)) (w.heap.size + 1) 27 E ∧ LB (((w.alloc (.cells D.toArray 25)).alloc (.cells E.toArray 27)).alloc (.cells Z.toArray 25)) (w.heap.size + 2) 25 Z ∧ Below w.heap.size w (((w.alloc (.cells D.toArray 25)).alloc (.cells E.toArray 27)).alloc (.cells Z.toArray 25))) := lb_new3 w D E Z _ _ _
  clear hD hL hE hD2 hL2 hE2 HCK0 HST0 hCK hZ hb hT hc hnm hf hv h3 h0 hz
  go_enter Tryz.func21, Tryz.ntmps21
  go_wp2_with (first | (refine wpList_alloc_Z HZ.out rfl rfl ?_; (try simp only [heap_one])) | (refine wpList_load_mid rfl 25 _ rfl w.heap.size 0 rfl D _ HX.out.1.range Tryz.underlying25 rfl HL.out ?_) | fail)
  refine (HCK.out _ HX.out.2.2.2).mono ?_
  rintro e w1 ⟨rfl, b1⟩
  have H1 : Hid (LB w1 w.heap.size 25 D ∧ LB w1 (w.heap.size + 1) 27 E ∧ LB w1 (w.heap.size + 2) 25 Z ∧ Below w.heap.size w w1) := ⟨HX.out.1.kept b1, HX.out.2.1.kept b1, HX.out.2.2.1.kept b1, andThen HX.out.2.2.2 b1⟩
  clear b1 HX HCK
  go_wp2_with (first | (refine wpList_load_mid rfl 25 _ rfl w.heap.size 0 rfl D _ H1.out.1.range Tryz.underlying25 rfl HL.out ?_) | (refine wpList_load_mid rfl 27 _ rfl (w.heap.size + 1) 0 rfl E _ H1.out.2.1.range Tryz.underlying27 rfl HL2.out ?_) | fail)
  refine (HST.out _ H1.out.2.2.2).mono ?_
  rintro e w2 ⟨h2, rfl, b2⟩
  obtain ⟨G, hG, hGL, hGE⟩ := sv_letter zSg h2
  rw [hG]
  have HGL : Hid _ := hGL
  have HG : Hid (sv zSg h2 = .agg G.toArray) := hG
  have HG1 : Hid (∀ v ∈ G, v.oneCell' = true) := by show ∀ v ∈ G, _; rw [hGE]; exact scl_one _ _
  have HGZ : Hid (G.length = Z.length) := by show _ = _; rw [hGE, HZL.out]; rfl
  have H5 : Hid (LB w2 (w.heap.size + 2) 25 Z ∧ Below w.heap.size w w2) := ⟨H1.out.2.2.1.kept b2, andThen H1.out.2.2.2 b2⟩
  clear hG hGL hGE b2 H1 HST
  go_wp2_with (first | (refine wpList_store_mid rfl 25 (.tmp 4) (.tmp 16) rfl (w.heap.size + 2) 0 G.toArray rfl rfl (there_of H5.out.1 (by simpa using HGZ.out)) (by simpa using HGL.out) (all_oneCell_toArray HG1.out) ?_; (rw [List.toList_toArray])) | fail)
  have HR9 : Hid ((w2.setCells (w.heap.size + 2) 0 G).rangeAt (w.heap.size + 2) 0 G) := (H5.out.1.sets G HGZ.out).range
  refine bodyPost_ret (results_cell_slot (p := 4) (s := 5) (ty := 25) rfl _ (w2.setCells (w.heap.size + 2) 0 G) (w.heap.size + 2) G _ rfl HR9.out Tryz.underlying25 rfl HGL.out) rfl ?_
  exact ⟨h2, by rw [HG.out]; rfl, below_cells (by omega) _ 0 _ H5.out.2⟩
end Go.Proofs.YtgjlkkikgkbamaaGreatDoor

/-
  SagaLifted: records with two faults at once.
-/
namespace Go.Proofs.YtgjlkkikgkbamaaGreatDoor
open Go Go.RowKit
open Wb

/-- an alloc of a saga as a step of a drawn region -/
theorem step_alloc_X {Z : List Value} (hZ : Z = zcl) {ops : Array Oper} {o : Oper} {a : Act} {w : World} {K : Act → World → Prop} {Q : Exit → Act → World → Prop} {E : Prop} (hgd : o.guard = none) (ho : o.op = .alloc 25)
    (h : K (a.put o.dst (.pointer (some ⟨w.heap.size, 0, none⟩))) (w.alloc (.cells Z.toArray 25))) : if Region.wanted o (yielded ops a.tmps) = true then Oper.wp Tryz.prog o a w K Q else E := by
  subst hZ
  rw [if_pos (by simp [Region.wanted, hgd])]
  obtain ⟨dst, op', ty, pos, after, guard⟩ := o
  simp only at ho hgd
  subst ho hgd
  unfold zcl at h
  go_simp
  exact h
/-- the first saga, its first step under way -/
def sgU : Sg := ⟨⟨7, 2, 1, 5, 5, 1, 0, true, 1, 0, 0⟩, buy, [105, 110], [], [], []⟩
theorem sgU_good : chkS sgU = true := by
  have hn : (Text.Tx.nmA buy).1 = 0 := by decide +kernel
  rw [chkS_iff]
  refine ⟨⟨hn, ?_⟩, .inl ?_⟩
  · simp [sgU, shortP]
  · simp [Gd1, sgU]
def bothR : List Rec := [⟨⟨3, 2, 7, 1, 3, 5, 0, 0, 0, 0⟩, ⟨#[]⟩, []⟩, ⟨⟨3, 2, 8, 1, 3, 5, 0, 0, 0, 0⟩, ⟨#[]⟩, []⟩, ⟨⟨3, 5, 7, 1, 3, 5, 0, 0, 0, 0⟩, ⟨#[]⟩, []⟩, ⟨⟨3, 4, 7, 1, 0, 5, 1, 0, 0, 0⟩, ⟨#[]⟩, []⟩, ⟨⟨3, 7, 7, 0, 0, 5, 0, 2, 0, 0⟩, ⟨#[]⟩, []⟩, ⟨⟨3, 3, 7, 1, 0, 5, 0, 0, 0, 0⟩, ⟨#[]⟩, []⟩]
def bothP : List (Rec × Value) := bothR.map fun r => (r, .slice none 0 0)
theorem both_v3 : ∀ r ∈ bothR, V3 r ∧ r.x.v = 3 ∧ r.nm = ⟨#[]⟩ ∧ r.l = [] ∧ refP sg1.x r.x ≠ 0 ∧ refP sgU.x r.x ≠ 0 ∧ r.x.s ≤ 8 := by
  intro r hr
  simp only [bothR, List.mem_cons, List.not_mem_nil, or_false] at hr
  rcases hr with rfl | rfl | rfl | rfl | rfl | rfl
  all_goals refine ⟨by simp [V3], rfl, rfl, rfl, by decide, by decide, by decide⟩
theorem apply_err (S : Sg) (r : Rec) (hc : chkS S = true) (hv : V3 r) (h3 : r.x.v = 3) (h0 : refP S.x r.x ≠ 0) : applyP S r = (refP S.x r.x, zSg) := by
  unfold applyP
  rw [up_v3 r hv h3, if_neg (by simp [hc]), if_neg (by simp), if_pos h0]
theorem rxcheck_1 (h : SH) (w : World) (k : SgAt w sg1 h) (hT : Tabs w) : Calls Tryz.prog 43 #[sv sg1 h] w fun e w' => e = .returned (.int .i64 0) ∧ Below w.heap.size w w' :=
  rxcheck_gen sg1 h w k hT (by decide) sg1_good.1 (by decide) (fun w' hb => rxtold_run sg1 h w' (k.inp.kept hb) (by decide) rfl rfl (by decide)) (fun Q hq r d w' hr => by cases hr) (by decide)
theorem rxcheck_U (h : SH) (w : World) (k : SgAt w sgU h) (hT : Tabs w) : Calls Tryz.prog 43 #[sv sgU h] w fun e w' => e = .returned (.int .i64 0) ∧ Below w.heap.size w w' :=
  rxcheck_gen sgU h w k hT (by decide) sgU_good (by decide) (fun w' hb => rxtold_run sgU h w' (k.inp.kept hb) (by decide) rfl rfl (by decide)) (fun Q hq r d w' hr ho _ => by
    have hs : storyT sgU = [stR sgU 2 0 1 0 0 []] := rfl
    rw [hs] at hr
    obtain rfl := List.mem_singleton.1 hr
    refine (rxlight_2 Q hq _ _ d w' rfl).mono ?_
    rintro e w'' ⟨rfl, b⟩
    have e9 : deedS Q (stR sgU 2 0 1 0 0 []) = { Q with x := { Q.x with la := (stR sgU 2 0 1 0 0 []).x.a, fl := true, tr := (stR sgU 2 0 1 0 0 []).x.t } } := by simp [deedS, stR]
    rw [e9]
    exact ⟨hq, rfl, ⟨(ho.kept b).inp, (ho.kept b).outs, (ho.kept b).und, (ho.kept b).fail⟩, b⟩) (by decide)
/-- what the loop holds -/
def BW (w : World) (b2 b3 g : Nat) (D1 DU : List Value) (h1 : SH) (W : World) : Prop := LB W b2 25 D1 ∧ LB W b3 25 DU ∧ LB W g 27 (bothP.flatMap rcl) ∧ SgAt W sg1 h1 ∧ Below w.heap.size w W
theorem BW.kept {w W W' : World} {b2 b3 g : Nat} {D1 DU : List Value} {h1 : SH} (k : BW w b2 b3 g D1 DU h1 W) (b : Below W.heap.size W W') : BW w b2 b3 g D1 DU h1 W' := ⟨k.1.kept b, k.2.1.kept b, k.2.2.1.kept b, k.2.2.2.1.kept b, andThen k.2.2.2.2 b⟩
theorem BW.range {w W : World} {b2 b3 g : Nat} {D1 DU : List Value} {h1 : SH} (k : BW w b2 b3 g D1 DU h1 W) (n : Nat) (r : Rec) (hr : bothR[n]? = some r) : W.rangeAt g (n * 12) (rcE r.x r.nm (.slice none 0 0)) := by
  obtain ⟨hn, e⟩ := List.getElem?_eq_some_iff.1 hr
  have hn2 : n < bothP.length := by simpa [bothP] using hn
  intro j u hu
  have hj : j < 12 := (List.getElem?_eq_some_iff.1 hu).1
  refine k.2.2.1.cell (n * 12 + j) u ?_
  rw [rcls_get bothP n hn2 j hj]
  have e2 : bothP[n] = (r, .slice none 0 0) := by simp [bothP, e]
  rw [e2]
  exact hu
theorem sgU_at {w : World} {h : SH} (k : SgAt w sg1 h) : SgAt w sgU h := ⟨k.inp, k.outs, k.und, k.fail⟩
end Go.Proofs.YtgjlkkikgkbamaaGreatDoor
