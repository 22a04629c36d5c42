import Derived.Test.YtabdfafffjgfiaaGreatDoorASM
set_option maxRecDepth 100000
set_option maxHeartbeats 16000000
namespace Go.Proofs.YtabdfafffjgfiaaGreatDoor
open Go Go.RowKit
open Wb

theorem lists_eqlen (v v2 : Value) (ls ls2 : List (List Nat)) (w : World) (k : Ps w v ls) (k2 : Ps w v2 ls2) (hl : ls2.length = ls.length) : Calls Tryz.prog 53 #[v, v2] w fun e w' => e = .returned (.bool (decide (ls = ls2))) ∧ Below w.heap.size w w' := by
 have HC : Hid (∀ w', Below w.heap.size w w' → Ps w' v ls ∧ Ps w' v2 ls2) := fun w' hb => ⟨k.kept hb, k2.kept hb⟩
 obtain ⟨ao, cap, rfl, hm, _⟩ := k.shape
 obtain ⟨ao2, cap2, rfl, _, _⟩ := k2.shape
 have HLE : Hid (ls2.length = ls.length) := hl
 rw [hl]
 have HP : Hid (∀ w', Below w.heap.size w w' → ∀ j (hj : j < ls.length), ∃ b off b2 off2 d d2, ao = some ⟨b, off, none⟩ ∧ ao2 = some ⟨b2, off2, none⟩ ∧ w'.cell? ⟨b, off + j, none⟩ = some d ∧ w'.cell? ⟨b2, off2 + j, none⟩ = some d2 ∧ Bs w' d ls[j] ∧ Bs w' d2 (ls2[j]'(by rw [hl]; exact hj))) := fun w' hb j hj => by
  have hne : ls ≠ [] := by rintro rfl; simp at hj
  have hne2 : ls2 ≠ [] := by rintro rfl; simp at hl; omega
  obtain ⟨a1, p1, e1, _, h1⟩ := (HC.out w' hb).1.shape
  obtain ⟨a2, p2, e2, _, h2⟩ := (HC.out w' hb).2.shape
  simp only [Value.slice.injEq] at e1 e2
  obtain ⟨rfl, _, rfl⟩ := e1
  obtain ⟨rfl, _, rfl⟩ := e2
  obtain ⟨b, off, r1, r2⟩ := h1 hne
  obtain ⟨b2, off2, s1, s2⟩ := h2 hne2
  obtain ⟨d, q1, q2⟩ := r2 j hj
  obtain ⟨d2, q3, q4⟩ := s2 j (by rw [hl]; exact hj)
  exact ⟨b, off, b2, off2, d, d2, r1, s1, q1, q3, q2, q4⟩
 have dl : ((ls.length : Int) != (ls.length : Int)) = false := by simp
 unfold maxLen at hm
 clear k k2 HC
 go_enter Tryz.func53, Tryz.ntmps53
 go_wp2
 clear dl
 go_loopw [5] (fun i wr => ∃ n : Nat, n ≤ ls.length ∧ i = .int .i64 (n : Int) ∧ (∀ j (hj : j < ls.length), j < n → ls[j] = ls2[j]'(by rw [hl]; exact hj)) ∧ Below w.heap.size w wr) (fun i _ => ls.length - (intOf i).toNat)
 case atStart => exact ⟨0, Nat.zero_le _, rfl, fun j _ h => absurd h (Nat.not_lt_zero _), Below.refl _ _⟩
 case round =>
  obtain ⟨n, hn, rfl, hsm, hb⟩ := hrel
  have HSM : Hid (∀ j (hj : j < ls.length), j < n → ls[j] = ls2[j]'(by rw [hl]; exact hj)) := hsm
  clear hsm
  by_cases hlt : n < ls.length
  ·obtain ⟨b, off, b2, off2, d, d2, rfl, rfl, q1, q3, q2, q4⟩ := HP.out _ (Below.drew hb) n hlt
   obtain ⟨l, hl1⟩ : ∃ l, ls[n] = l := ⟨_, rfl⟩
   obtain ⟨l2, hl2⟩ : ∃ l2, ls2[n]'(by rw [hl]; exact hlt) = l2 := ⟨_, rfl⟩
   rw [hl1] at q2
   rw [hl2] at q4
   have HLL : Hid (ls[n] = l ∧ ls2[n]'(by rw [hl]; exact hlt) = l2) := ⟨hl1, hl2⟩
   have HQ : Hid (Bs wr.drew d l ∧ Bs wr.drew d2 l2 ∧ Below w.heap.size w wr.drew) := ⟨q2, q4, Below.drew hb⟩
   have HS : Hid (wr.drew.cell? ⟨b, off + n, none⟩ = some d ∧ wr.drew.cell? ⟨b2, off2 + n, none⟩ = some d2) := ⟨q1, q3⟩
   have HRA : Hid (∀ w', Bs w' d l → Bs w' d2 l2 → Calls Tryz.prog 52 #[d, d2] w' fun e w'' => e = .returned (.bool (decide (l = l2))) ∧ Below w'.heap.size w' w'') := fun w' h1 h2 => ralike_any _ _ _ _ w' h1 h2
   obtain ⟨ax, cx, rfl, _⟩ := q2.shape
   obtain ⟨ay, cy, rfl, _⟩ := q4.shape
   clear q1 q2 q3 q4 hl1 hl2 hb HP
   go_wp2
   refine wp_region_held_drew (S := fun w' : World => w'.cell? ⟨b, off + n, none⟩ = some (.slice ax l.length cx) ∧ w'.cell? ⟨b2, off2 + n, none⟩ = some (.slice ay l2.length cy)) (by kernel_rfl) HS.out (fun hH => ?_)
   generalize wr.drew = V1 at *
   refine zqk 0 rfl hH ?_
   simp only [zq]
   refine zqk 1 rfl hH ?_
   simp only [zq]
   refine zqk 2 rfl hH ?_
   simp only [zq]
   refine zqk 3 rfl hH ?_
   simp only [zq]
   refine zqk 4 rfl hH ?_
   simp only [zq]
   refine zqk 5 rfl hH ?_
   simp only [zq]
   refine zqk 6 rfl hH ?_
   simp only [zq]
   refine zqk 7 rfl hH ?_
   simp only [zq]
   refine zqr 8 rfl (fun K hK => ?_)
   go_simp
   refine (HRA.out _ HQ.out.1 HQ.out.2.1).mono ?_
   rintro e w3 ⟨rfl, b3⟩
   have H3 : Hid (Below w.heap.size w w3) := andThen HQ.out.2.2 b3
   refine hK.out _ _ ⟨(b3.cell (World.block_lt_of_cell? _ _ HS.out.1)).trans HS.out.1, (b3.cell (World.block_lt_of_cell? _ _ HS.out.2)).trans HS.out.2⟩ (fun hH2 => ?_)
   clear hK K hH b3
   have hH := hH2
   clear hH2
   refine zqk 9 rfl hH ?_
   simp only [zq]
   refine wpAnyH_done (by kernel_rfl) ?_ _
   clear hH
   cases hde : decide (l = l2) with
   | true =>
    go_wp2
    go_roundw
    case rel =>
     refine ⟨n + 1, by omega, by go_num, fun j hj hjn => ?_, H3.out⟩
     by_cases hjn2 : j < n
     ·exact HSM.out j hj hjn2
     ·obtain rfl : j = n := by omega
      rw [HLL.out.1, HLL.out.2]
      exact of_decide_eq_true hde
    case measure => simp [intOf]; omega
   | false =>
    go_wp2
    go_ret
    refine ⟨?_, H3.out⟩
    have hne : ls ≠ ls2 := by
     rintro rfl
     have := HLL.out.1.symm.trans HLL.out.2
     exact absurd this (of_decide_eq_false hde)
    rw [decide_eq_false hne]
    rfl
  ·obtain rfl : n = ls.length := by omega
   go_wp2
   go_ret
   refine ⟨?_, hb⟩
   rw [decide_eq_true (List.ext_getElem hl.symm fun j h1 _ => HSM.out j h1 h1)]
   rfl

theorem lists_any (v v2 : Value) (ls ls2 : List (List Nat)) (w : World) (k : Ps w v ls) (k2 : Ps w v2 ls2) : Calls Tryz.prog 53 #[v, v2] w fun e w' => e = .returned (.bool (decide (ls = ls2))) ∧ Below w.heap.size w w' := by
 by_cases hl : ls2.length = ls.length
 ·exact lists_eqlen v v2 ls ls2 w k k2 hl
 ·have hne : ls ≠ ls2 := by
   rintro rfl
   exact hl rfl
  obtain ⟨ao, cap, rfl, hm, _⟩ := k.shape
  obtain ⟨ao2, cap2, rfl, hm2, _⟩ := k2.shape
  have d0 : ((ls.length : Int) != (ls2.length : Int)) = true := by simp; omega
  rw [decide_eq_false hne]
  clear k k2 hne
  go_enter Tryz.func53, Tryz.ntmps53
  go_wp2
  go_ret
  exact ⟨rfl, Below.refl _ _⟩
theorem bytes_toList {a b : ByteArray} (h : a.toList = b.toList) : a = b := by
 rw [ByteArray.toList_eq, ByteArray.toList_eq] at h
 exact ByteArray.ext (Array.toList_inj.1 h)
theorem sg_eq (S T : Sg) (d0 : (S.x.id != T.x.id) = false) (d1 : (!S.nm.toList == T.nm.toList) = false) (d2 : (S.x.cnt != T.x.cnt) = false) (d3 : (S.x.piv != T.x.piv) = false) (d4 : (S.x.beg != T.x.beg) = false) (d5 : (S.x.la != T.x.la) = false) (d7 : (S.x.ph != T.x.ph) = false) (d8 : (S.x.nx != T.x.nx) = false) (d9 : (S.x.fl != T.x.fl) = false) (d10 : (S.x.tr != T.x.tr) = false) (d13 : (S.x.fs != T.x.fs) = false) (d14 : (S.x.fc != T.x.fc) = false) (r0 : decide (S.inp = T.inp) = true) (r1 : decide (S.fail = T.fail) = true) (r2 : decide (S.outs = T.outs) = true) (r3 : decide (S.und = T.und) = true) : S = T := by
 obtain ⟨⟨a1, a2, a3, a4, a5, a6, a7, a8, a9, a10, a11⟩, b1, b2, b3, b4, b5⟩ := S
 obtain ⟨⟨c1, c2, c3, c4, c5, c6, c7, c8, c9, c10, c11⟩, e1, e2, e3, e4, e5⟩ := T
 have hn : b1 = e1 := by
  have h9 : b1.toList = e1.toList := by simpa using d1
  exact bytes_toList h9
 simp at d0 d2 d3 d4 d5 d7 d8 d9 d10 d13 d14 r0 r1 r2 r3
 subst hn
 simp [*]
theorem rxsame_no (S T : Sg) (h h2 : SH) (w : World) (k : SgAt w S h) (k2 : SgAt w T h2) (hne : S ≠ T) : Calls Tryz.prog 25 #[sv S h, sv T h2] w fun e w' => e = .returned (.bool false) ∧ Below w.heap.size w w' := by
 have HA : Hid (∀ w', Below w.heap.size w w' → Calls Tryz.prog 52 #[.slice h.ai S.inp.length h.ci, .slice h2.ai T.inp.length h2.ci] w' fun e w'' => e = .returned (.bool (decide (S.inp = T.inp))) ∧ Below w'.heap.size w' w'') := fun w' hb => ralike_any _ _ _ _ w' (k.inp.kept hb) (k2.inp.kept hb)
 have HF : Hid (∀ w', Below w.heap.size w w' → Calls Tryz.prog 52 #[.slice h.af S.fail.length h.cf, .slice h2.af T.fail.length h2.cf] w' fun e w'' => e = .returned (.bool (decide (S.fail = T.fail))) ∧ Below w'.heap.size w' w'') := fun w' hb => ralike_any _ _ _ _ w' (k.fail.kept hb) (k2.fail.kept hb)
 have HLO : Hid (∀ w', Below w.heap.size w w' → Calls Tryz.prog 53 #[.slice h.ao S.outs.length h.co, .slice h2.ao T.outs.length h2.co] w' fun e w'' => e = .returned (.bool (decide (S.outs = T.outs))) ∧ Below w'.heap.size w' w'') := fun w' hb => lists_any _ _ _ _ w' (k.outs.kept hb) (k2.outs.kept hb)
 have HLU : Hid (∀ w', Below w.heap.size w w' → Calls Tryz.prog 53 #[.slice h.au S.und.length h.cu, .slice h2.au T.und.length h2.cu] w' fun e w'' => e = .returned (.bool (decide (S.und = T.und))) ∧ Below w'.heap.size w' w'') := fun w' hb => lists_any _ _ _ _ w' (k.und.kept hb) (k2.und.kept hb)
 have HNE : Hid (S ≠ T) := hne
 clear k k2 hne
 obtain ⟨D, hD, hL, hE⟩ := sv_letter S h
 obtain ⟨E, hD2, hL2, hE2⟩ := sv_letter T h2
 rw [hD, hD2]
 have HE : Hid (D = scl S h) := hE
 have HE2 : Hid (E = scl T h2) := hE2
 have HX : Hid (LB ((w.alloc (.cells D.toArray 25)).alloc (.cells E.toArray 25)) w.heap.size 25 D ∧ LB ((w.alloc (.cells D.toArray 25)).alloc (.cells E.toArray 25)) (w.heap.size + 1) 25 E ∧ Below w.heap.size w ((w.alloc (.cells D.toArray 25)).alloc (.cells E.toArray 25))) := lb_new2 w D E _ _
 clear hD hL hE hD2 hL2 hE2
 go_enter Tryz.func25, Tryz.ntmps25
 have c0 := HX.out.1.cell 0 (.int .i64 S.x.id) (by rw [HE.out]; rfl)
 have e0 := HX.out.2.1.cell 0 (.int .i64 T.x.id) (by rw [HE2.out]; rfl)
 cases d0 : (S.x.id != T.x.id) with
 | true =>
  go_wp2
  go_ret
  exact ⟨rfl, HX.out.2.2⟩
 | false =>
 have c1 := HX.out.1.cell 1 (.string S.nm) (by rw [HE.out]; rfl)
 have e1 := HX.out.2.1.cell 1 (.string T.nm) (by rw [HE2.out]; rfl)
 cases d1 : (!S.nm.toList == T.nm.toList) with
 | true =>
  have d1b : (S.nm.toList == T.nm.toList) = false := by simpa using d1
  go_wp2
  go_ret
  exact ⟨rfl, HX.out.2.2⟩
 | false =>
 have d1b : (S.nm.toList == T.nm.toList) = true := by simpa using d1
 have c2 := HX.out.1.cell 2 (.int .i64 S.x.cnt) (by rw [HE.out]; rfl)
 have e2 := HX.out.2.1.cell 2 (.int .i64 T.x.cnt) (by rw [HE2.out]; rfl)
 cases d2 : (S.x.cnt != T.x.cnt) with
 | true =>
  go_wp2
  go_ret
  exact ⟨rfl, HX.out.2.2⟩
 | false =>
 have c3 := HX.out.1.cell 3 (.int .i64 S.x.piv) (by rw [HE.out]; rfl)
 have e3 := HX.out.2.1.cell 3 (.int .i64 T.x.piv) (by rw [HE2.out]; rfl)
 cases d3 : (S.x.piv != T.x.piv) with
 | true =>
  go_wp2
  go_ret
  exact ⟨rfl, HX.out.2.2⟩
 | false =>
 have c4 := HX.out.1.cell 4 (.int .i64 S.x.beg) (by rw [HE.out]; rfl)
 have e4 := HX.out.2.1.cell 4 (.int .i64 T.x.beg) (by rw [HE2.out]; rfl)
 cases d4 : (S.x.beg != T.x.beg) with
 | true =>
  go_wp2
  go_ret
  exact ⟨rfl, HX.out.2.2⟩
 | false =>
 have c5 := HX.out.1.cell 5 (.int .i64 S.x.la) (by rw [HE.out]; rfl)
 have e5 := HX.out.2.1.cell 5 (.int .i64 T.x.la) (by rw [HE2.out]; rfl)
 cases d5 : (S.x.la != T.x.la) with
 | true =>
  go_wp2
  go_ret
  exact ⟨rfl, HX.out.2.2⟩
 | false =>
 have c7 := HX.out.1.cell 7 (.int .i64 S.x.ph) (by rw [HE.out]; rfl)
 have e7 := HX.out.2.1.cell 7 (.int .i64 T.x.ph) (by rw [HE2.out]; rfl)
 cases d7 : (S.x.ph != T.x.ph) with
 | true =>
  go_wp2
  go_ret
  exact ⟨rfl, HX.out.2.2⟩
 | false =>
 have c8 := HX.out.1.cell 8 (.int .i64 S.x.nx) (by rw [HE.out]; rfl)
 have e8 := HX.out.2.1.cell 8 (.int .i64 T.x.nx) (by rw [HE2.out]; rfl)
 cases d8 : (S.x.nx != T.x.nx) with
 | true =>
  go_wp2
  go_ret
  exact ⟨rfl, HX.out.2.2⟩
 | false =>
 have c9 := HX.out.1.cell 9 (.bool S.x.fl) (by rw [HE.out]; rfl)
 have e9 := HX.out.2.1.cell 9 (.bool T.x.fl) (by rw [HE2.out]; rfl)
 obtain ⟨f1, hf1⟩ : ∃ f1, S.x.fl = f1 := ⟨_, rfl⟩
 obtain ⟨f2, hf2⟩ : ∃ f2, T.x.fl = f2 := ⟨_, rfl⟩
 rw [hf1] at c9
 rw [hf2] at e9
 cases d9 : (f1 != f2) with
 | true =>
  cases f1 <;> cases f2
  all_goals first | (exfalso; revert d9; decide) | skip
  all_goals
   go_wp2
   go_ret
   exact ⟨rfl, HX.out.2.2⟩
 | false =>
 obtain rfl : f1 = f2 := by revert d9; cases f1 <;> cases f2 <;> simp
 have c10 := HX.out.1.cell 10 (.int .i64 S.x.tr) (by rw [HE.out]; rfl)
 have e10 := HX.out.2.1.cell 10 (.int .i64 T.x.tr) (by rw [HE2.out]; rfl)
 cases d10 : (S.x.tr != T.x.tr) with
 | true =>
  go_wp2
  go_ret
  exact ⟨rfl, HX.out.2.2⟩
 | false =>
 have c13 := HX.out.1.cell 13 (.int .i64 S.x.fs) (by rw [HE.out]; rfl)
 have e13 := HX.out.2.1.cell 13 (.int .i64 T.x.fs) (by rw [HE2.out]; rfl)
 cases d13 : (S.x.fs != T.x.fs) with
 | true =>
  go_wp2
  go_ret
  exact ⟨rfl, HX.out.2.2⟩
 | false =>
 have c14 := HX.out.1.cell 14 (.int .i64 S.x.fc) (by rw [HE.out]; rfl)
 have e14 := HX.out.2.1.cell 14 (.int .i64 T.x.fc) (by rw [HE2.out]; rfl)
 cases d14 : (S.x.fc != T.x.fc) with
 | true =>
  go_wp2
  go_ret
  exact ⟨rfl, HX.out.2.2⟩
 | false =>
 have c6 := HX.out.1.cell 6 (.slice h.ai S.inp.length h.ci) (by rw [HE.out]; rfl)
 have e6 := HX.out.2.1.cell 6 (.slice h2.ai T.inp.length h2.ci) (by rw [HE2.out]; rfl)
 go_wp2_with fail
 refine (HA.out _ HX.out.2.2).mono ?_
 rintro e w1 ⟨rfl, b1⟩
 have H1 : Hid (LB w1 w.heap.size 25 D ∧ LB w1 (w.heap.size + 1) 25 E ∧ Below w.heap.size w w1) := ⟨HX.out.1.kept b1, HX.out.2.1.kept b1, andThen HX.out.2.2 b1⟩
 clear b1 HX HA c6 e6 c0 e0 c1 e1 c2 e2 c3 e3 c4 e4 c5 e5 c7 e7 c8 e8 c9 e9 c10 e10 c13 e13 c14 e14
 cases r0 : decide (S.inp = T.inp) with
 | false =>
  go_wp2_with fail
  go_ret
  exact ⟨rfl, H1.out.2.2⟩
 | true =>
 have c15 := H1.out.1.cell 15 (.slice h.af S.fail.length h.cf) (by rw [HE.out]; rfl)
 have e15 := H1.out.2.1.cell 15 (.slice h2.af T.fail.length h2.cf) (by rw [HE2.out]; rfl)
 go_wp2_with fail
 refine (HF.out _ H1.out.2.2).mono ?_
 rintro e w2 ⟨rfl, b2⟩
 have H2 : Hid (LB w2 w.heap.size 25 D ∧ LB w2 (w.heap.size + 1) 25 E ∧ Below w.heap.size w w2) := ⟨H1.out.1.kept b2, H1.out.2.1.kept b2, andThen H1.out.2.2 b2⟩
 clear b2 H1 HF c15 e15
 cases r1 : decide (S.fail = T.fail) with
 | false =>
  go_wp2_with fail
  go_ret
  exact ⟨rfl, H2.out.2.2⟩
 | true =>
 have c11 := H2.out.1.cell 11 (.slice h.ao S.outs.length h.co) (by rw [HE.out]; rfl)
 have e11 := H2.out.2.1.cell 11 (.slice h2.ao T.outs.length h2.co) (by rw [HE2.out]; rfl)
 go_wp2_with fail
 refine (HLO.out _ H2.out.2.2).mono ?_
 rintro e w3 ⟨rfl, b3⟩
 have H3 : Hid (LB w3 w.heap.size 25 D ∧ LB w3 (w.heap.size + 1) 25 E ∧ Below w.heap.size w w3) := ⟨H2.out.1.kept b3, H2.out.2.1.kept b3, andThen H2.out.2.2 b3⟩
 clear b3 H2 HLO c11 e11
 cases r2 : decide (S.outs = T.outs) with
 | false =>
  go_wp2_with fail
  go_ret
  exact ⟨rfl, H3.out.2.2⟩
 | true =>
 have c12 := H3.out.1.cell 12 (.slice h.au S.und.length h.cu) (by rw [HE.out]; rfl)
 have e12 := H3.out.2.1.cell 12 (.slice h2.au T.und.length h2.cu) (by rw [HE2.out]; rfl)
 go_wp2_with fail
 refine (HLU.out _ H3.out.2.2).mono ?_
 rintro e w4 ⟨rfl, b4⟩
 have H4 : Hid (LB w4 w.heap.size 25 D ∧ LB w4 (w.heap.size + 1) 25 E ∧ Below w.heap.size w w4) := ⟨H3.out.1.kept b4, H3.out.2.1.kept b4, andThen H3.out.2.2 b4⟩
 clear b4 H3 HLU c12 e12
 cases r3 : decide (S.und = T.und) with
 | false =>
  go_wp2_with fail
  go_ret
  exact ⟨rfl, H4.out.2.2⟩
 | true =>
 exact absurd (sg_eq S T d0 d1 d2 d3 d4 d5 d7 d8 (by rw [hf1, hf2]; exact d9) d10 d13 d14 r0 r1 r2 r3) HNE.out
end Go.Proofs.YtabdfafffjgfiaaGreatDoor
