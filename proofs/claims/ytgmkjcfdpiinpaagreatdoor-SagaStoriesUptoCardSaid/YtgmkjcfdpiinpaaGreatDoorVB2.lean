import Derived.Deep.CutRange
import Derived.Test.YtgmkjcfdpiinpaaGreatDoorVB1
set_option maxRecDepth 100000
set_option maxHeartbeats 8000000
namespace Go.Proofs.YtgmkjcfdpiinpaaGreatDoor
open Go Go.RowKit
open Wb

theorem tries_b (B t : Nat) (S : Sg) (h : SH) (rs : List Rec) (w : World) (k : TS B t S h rs w) (hB : B ≤ t) (hnx : 0 ≤ S.x.nx ∧ S.x.nx ≤ 32) (htr : 0 ≤ S.x.tr ∧ S.x.tr ≤ 1000) (hfw : S.x.fwd = false) (hn : rs.length ≤ 5000) :
  Calls Tryz.prog 83 #[.pointer (some ⟨t, 0, none⟩)] w fun e w' => TP B t S h (rs ++ trL S 5 S.x.turn 0 S.x.tr.toNat) w e w' := by
 obtain ⟨p, hp⟩ : ∃ p, S.x.turn = p := ⟨_, rfl⟩
 have HT1 : Hid (∀ (m : Int) (rs' : List Rec) (w' : World), TS B t S h rs' w' → rs'.length ≤ 10000 → Calls Tryz.prog 81 #[.pointer (some ⟨t, 0, none⟩), .agg #[.int .i64 0, .int .i64 5, .int .i64 0, .int .i64 p, .int .i64 m, .int .i64 0, .int .i64 0, .int .i64 0, .int .i64 0, .int .i64 0, .string ⟨#[]⟩, .slice none 0 0]] w' fun e w'' => TP B t S h (rs' ++ [stR S 5 p m 0 0 []]) w' e w'') := fun m rs' w' k' hn' => tell_T B t S h rs' ⟨⟨0, 5, 0, p, m, 0, 0, 0, 0, 0⟩, ⟨#[]⟩, []⟩ _ w' k' hB (Bs.nil _) (by simp) hn'
 have HT2 : Hid (∀ (rs' : List Rec) (w' : World), TS B t S h rs' w' → rs'.length ≤ 10000 → Calls Tryz.prog 81 #[.pointer (some ⟨t, 0, none⟩), .agg #[.int .i64 0, .int .i64 4, .int .i64 0, .int .i64 p, .int .i64 0, .int .i64 0, .int .i64 0, .int .i64 0, .int .i64 0, .int .i64 0, .string ⟨#[]⟩, .slice none 0 0]] w' fun e w'' => TP B t S h (rs' ++ [stR S 4 p 0 0 0 []]) w' e w'') := fun rs' w' k' hn' => tell_T B t S h rs' ⟨⟨0, 4, 0, p, 0, 0, 0, 0, 0, 0⟩, ⟨#[]⟩, []⟩ _ w' k' hB (Bs.nil _) (by simp) hn'
 have HTU0 : ∀ w', Calls Tryz.prog 95 #[sv S h] w' fun e w'' => e = .returned (.int .i64 p) ∧ Below w'.heap.size w' w'' := fun w' => by rw [← hp]; exact turn_any S h w' hnx
 have HFW0 : ∀ w', Calls Tryz.prog 51 #[sv S h] w' fun e w'' => e = .returned (.bool false) ∧ Below w'.heap.size w' w'' := fun w' => by rw [← hfw]; exact fwd_any S h w'
 obtain ⟨D, hD, hL, hE⟩ := sv_letter S h
 rw [hD] at HTU0 HFW0
 have HTU : Hid _ := HTU0
 have HFW : Hid _ := HFW0
 have HL : Hid _ := hL
 have HE : Hid (D = scl S h) := hE
 have HR : Hid (∀ rs' w', TS B t S h rs' w' → w'.rangeAt t 0 D) := fun rs' w' k' => by show w'.rangeAt t 0 D; rw [hE]; exact k'.range
 have H0 : Hid (TS B t S h rs w ∧ B ≤ w.heap.size) := ⟨k, by have := k.lt; omega⟩
 have HRw : Hid (w.rangeAt t 0 D) := HR.out _ _ k
 have hT : (S.x.tr.toNat : Int) = S.x.tr := by omega
 rw [hp]
 clear k hD hL hE hp hnx hfw HTU0 HFW0
 go_enter Tryz.func83, Tryz.ntmps83
 go_wp2_with (first | (refine wpList_load_mid rfl 31 _ rfl t 0 rfl D _ HRw.out Tryz.underlying31 rfl HL.out ?_) | fail)
 refine (HTU.out _).mono ?_
 rintro e w1 ⟨rfl, b1⟩
 have H1 : Hid (TS B t S h rs w1 ∧ Below w.heap.size w w1) := ⟨H0.out.1.kept b1, b1⟩
 have HR1 : Hid (w1.rangeAt t 0 D) := HR.out _ _ H1.out.1
 clear b1 HRw
 go_wp2_with (first | (refine wpList_load_mid rfl 31 _ rfl t 0 rfl D _ HR1.out Tryz.underlying31 rfl HL.out ?_) | fail)
 refine (HFW.out _).mono ?_
 rintro e w2 ⟨rfl, b2⟩
 have H2 : Hid (TS B t S h rs w2 ∧ Below w.heap.size w w2) := ⟨H1.out.1.kept b2, andThen H1.out.2 b2⟩
 clear b2 HR1 H1 HTU HFW
 go_wp2
 go_loopw [4] (fun i wr => ∃ (m : Nat) (cur : List Rec), i = .int .i64 ((m : Int) + 1) ∧ m ≤ S.x.tr.toNat ∧ TS B t S h cur wr ∧ cur ++ trL S 5 p m (S.x.tr.toNat - m) = rs ++ trL S 5 p 0 S.x.tr.toNat ∧ cur.length ≤ rs.length + 2 * m ∧ Below B w wr ∧ Fr t w wr) (fun i _ => S.x.tr.toNat + 1 - (intOf i).toNat)
 case atStart => exact ⟨0, rs, rfl, Nat.zero_le _, H2.out.1, by simp, by simp, H2.out.2.mono H0.out.2, Fr.below H2.out.2⟩
 case round =>
  obtain ⟨m, cur, rfl, hm, kc, he, hcl, bl, fr⟩ := hrel
  have HC : Hid (TS B t S h cur wr ∧ Below B w wr ∧ Fr t w wr) := ⟨kc, bl, fr⟩
  have HEQ : Hid (cur ++ trL S 5 p m (S.x.tr.toNat - m) = rs ++ trL S 5 p 0 S.x.tr.toNat) := he
  clear kc bl fr he H2
  have c10 := HC.out.1.cell 10 (.int .i64 S.x.tr) rfl
  by_cases hlt : m < S.x.tr.toNat
  ·obtain ⟨n, hnn⟩ : ∃ n, S.x.tr.toNat - m = n + 1 := ⟨S.x.tr.toNat - m - 1, by omega⟩
   have hn2 : S.x.tr.toNat - (m + 1) = n := by omega
   rw [hnn, trl_step] at HEQ
   have d1 : decide ((m : Int) + 1 ≤ S.x.tr) = true := by simp; omega
   go_wp2_with fail
   refine (HT1.out _ _ _ HC.out.1 (by omega)).mono ?_
   rintro e w3 ⟨rfl, k3, b3, f3⟩
   have H3 : Hid (TS B t S h (cur ++ [stR S 5 p ((m : Int) + 1) 0 0 []]) w3 ∧ Below B w w3 ∧ Fr t w w3) := ⟨k3, HC.out.2.1.trans b3, HC.out.2.2.trans f3⟩
   clear k3 b3 f3 HC c10 d1
   have c10 := H3.out.1.cell 10 (.int .i64 S.x.tr) rfl
   by_cases hn0 : n = 0
   ·have d2 : decide ((m : Int) + 1 < S.x.tr) = false := by simp; omega
    cases hfl : S.x.fl with
    | true =>
     have c9 := H3.out.1.cell 9 (.bool true) (by rw [← hfl]; rfl)
     rw [if_neg (by simp [hn0, hfl])] at HEQ
     go_wp2
     go_roundw
     case rel => exact ⟨m + 1, _, by go_num, by omega, H3.out.1, by rw [hn2, ← HEQ.out]; simp, by simp; omega, H3.out.2.1, H3.out.2.2⟩
     case measure => simp [intOf]; omega
    | false =>
     have c9 := H3.out.1.cell 9 (.bool false) (by rw [← hfl]; rfl)
     rw [if_pos (.inr hfl)] at HEQ
     go_wp2_with fail
     refine (HT2.out _ _ H3.out.1 (by simp; omega)).mono ?_
     rintro e w4 ⟨rfl, k4, b4, f4⟩
     have H4 : Hid (TS B t S h (cur ++ [stR S 5 p ((m : Int) + 1) 0 0 []] ++ [stR S 4 p 0 0 0 []]) w4 ∧ Below B w w4 ∧ Fr t w w4) := ⟨k4, H3.out.2.1.trans b4, H3.out.2.2.trans f4⟩
     clear k4 b4 f4 H3 c10 c9
     go_wp2
     go_roundw
     case rel => exact ⟨m + 1, _, by go_num, by omega, H4.out.1, by rw [hn2, ← HEQ.out]; simp, by simp; omega, H4.out.2.1, H4.out.2.2⟩
     case measure => simp [intOf]; omega
   ·have d2 : decide ((m : Int) + 1 < S.x.tr) = true := by simp; omega
    rw [if_pos (.inl hn0)] at HEQ
    go_wp2_with fail
    refine (HT2.out _ _ H3.out.1 (by simp; omega)).mono ?_
    rintro e w4 ⟨rfl, k4, b4, f4⟩
    have H4 : Hid (TS B t S h (cur ++ [stR S 5 p ((m : Int) + 1) 0 0 []] ++ [stR S 4 p 0 0 0 []]) w4 ∧ Below B w w4 ∧ Fr t w w4) := ⟨k4, H3.out.2.1.trans b4, H3.out.2.2.trans f4⟩
    clear k4 b4 f4 H3 c10
    go_wp2
    go_roundw
    case rel => exact ⟨m + 1, _, by go_num, by omega, H4.out.1, by rw [hn2, ← HEQ.out]; simp, by simp; omega, H4.out.2.1, H4.out.2.2⟩
    case measure => simp [intOf]; omega
  ·obtain rfl : m = S.x.tr.toNat := by omega
   have d1 : decide (((S.x.tr.toNat : Nat) : Int) + 1 ≤ S.x.tr) = false := by simp; omega
   have hfin : cur = rs ++ trL S 5 p 0 S.x.tr.toNat := by
    have := HEQ.out
    rw [Nat.sub_self] at this
    simpa [trL] using this
   go_wp2
   go_end0
   exact ⟨rfl, by rw [← hfin]; exact HC.out.1, HC.out.2.1, HC.out.2.2⟩
theorem tries_any (B t : Nat) (S : Sg) (h : SH) (rs : List Rec) (w : World) (k : TS B t S h rs w) (hB : B ≤ t) (hnx : 0 ≤ S.x.nx ∧ S.x.nx ≤ 32) (htr : 0 ≤ S.x.tr ∧ S.x.tr ≤ 1000) (hn : rs.length ≤ 5000) :
  Calls Tryz.prog 83 #[.pointer (some ⟨t, 0, none⟩)] w fun e w' => TP B t S h (rs ++ trL S (trK S) S.x.turn 0 S.x.tr.toNat) w e w' := by
 unfold trK
 cases hf : S.x.fwd with
 | true => exact tries_f B t S h rs w k hB hnx htr hf hn
 | false => exact tries_b B t S h rs w k hB hnx htr hf hn
theorem outL_lenC (S : Sg) : ∀ (r : List (List Nat)) (i : Nat), (outL S i r).length = 2 * r.length
 | [], _ => rfl
 | _ :: r, i => by simp only [outL, List.length_cons, outL_lenC S r (i + 1)]; omega
theorem undL_lenC (S : Sg) : ∀ (r : List (List Nat)) (p : Int), (undL S p r).length = 2 * r.length
 | [], _ => rfl
 | _ :: r, p => by simp only [undL, List.length_cons, undL_lenC S r (p - 1)]; omega
theorem trL_lenC (S : Sg) (kk p : Int) : ∀ (n m : Nat), (trL S kk p m n).length ≤ 2 * n
 | 0, _ => Nat.le_refl _
 | n + 1, m => by
  have := trL_lenC S kk p n (m + 1)
  rw [trl_step]
  split <;> (simp; omega)
theorem failL_lenC (S : Sg) : (failL S).length ≤ 2 + 2 * S.und.length := by
 unfold failL
 split
 ·simp
 ·simp [undL_lenC]; omega
theorem story_bnds (S : Sg) (h : chkS S = true) : S.outs.length ≤ 32 ∧ S.und.length ≤ 32 ∧ (0 ≤ S.x.nx ∧ S.x.nx ≤ 32) ∧ (0 ≤ S.x.tr ∧ S.x.tr ≤ 1000) ∧ (S.x.fwd = false → 0 ≤ S.x.fs ∧ S.x.fs ≤ 32) ∧ S.inp.length ≤ 16384 ∧ S.fail.length ≤ 16384 ∧ shortP S.outs = true ∧ shortP S.und = true := by
 obtain ⟨⟨b1, b2, b3, b4, b5, b6, b7, b8, b9, b10, b11⟩, h1⟩ := (chkS_iff S).1 h
 refine ⟨?_, ?_, ?_, b7, ?_, b8, b9, b10, b11⟩
 all_goals rcases h1 with ⟨g, c1, c2, c3, c4, c5, c6, c7, _⟩ | ⟨g, c1, c2, c3, c4, c5, c6, _⟩ | ⟨g, c1, c2, c3, c4, c5, c6, _⟩ | ⟨g, g0, c1, c2, c3, c4, c5, c6, _⟩
 all_goals first | omega | (rw [c4]; simp) | (intro hf; simp [SN.fwd, g] at hf) | (intro _; omega)
theorem infoTeller : (Tryz.prog.info? 95).map (·.size) = some 17 := by kernel_rfl
theorem wpList_alloc_T {Z : List Value} (hZ : Z = ztl) {ops : Array Oper} {rest : List Oper} {op : Oper} {a : Act} {w : World} {Q : Exit → Act → World → Prop} (hgd : op.guard = none) (ho : op.op = .alloc 95)
  (h : wpList Tryz.prog ops Q rest (a.put op.dst (.pointer (some ⟨w.heap.size, 0, none⟩))) (w.alloc (.cells Z.toArray 95))) : wpList Tryz.prog ops Q (op :: rest) a w := by
 subst hZ
 refine wpList_plain hgd fun K hK => ?_
 obtain ⟨dst, op', ty, pos, after, guard⟩ := op
 simp only at ho hgd
 subst ho hgd
 have hK2 := hK _ _ h
 clear hK h
 unfold ztl zcl at hK2
 go_simp
 exact hK2
theorem wpList_build_T {S : Sg} {h : SH} {D T : List Value} (hD : D = scl S h) (hT : T = D ++ [.slice none 0 0]) {ops : Array Oper} {rest : List Oper} {op : Oper} {a : Act} {w : World} {Q : Exit → Act → World → Prop} (hgd : op.guard = none) (n : Nat) (ho : op.op = .build 95 #[(0, .tmp n)]) (hx : a.tmps[n]?.getD undef = .agg D.toArray)
  (hh : wpList Tryz.prog ops Q rest (a.put op.dst (.agg T.toArray)) w) : wpList Tryz.prog ops Q (op :: rest) a w := by
 subst hT hD
 refine wpList_plain hgd fun K hK => ?_
 obtain ⟨dst, op', ty, pos, after, guard⟩ := op
 simp only at ho hgd
 subst ho hgd
 have hK2 := hK _ _ hh
 clear hK hh
 unfold scl at hK2 hx
 go_simp
 exact hK2
theorem story_bad (S : Sg) (h : SH) (w : World) (k : SgAt w S h) (hT : Text.TabP 3 .i32 Text.Tx.lets w) (hnm : S.nm.size ≤ 140737488355000) (hc : chkS S = false) : Calls Tryz.prog 41 #[sv S h] w fun e w' => e = .returned (.tuple #[.slice none 0 0, .int .i64 100]) ∧ Below w.heap.size w w' := by
 have HCK0 : ∀ w', Below w.heap.size w w' → Calls Tryz.prog 30 #[sv S h] w' fun e w'' => e = .returned (.int .i64 100) ∧ Below w'.heap.size w' w'' := fun w' hb => by
  have e := scheck_any S h w' (k.kept hb) (hT.kept hb) hnm
  rw [hc] at e
  exact e

 obtain ⟨D, hD, hL, hE⟩ := sv_letter S h
 rw [hD] at HCK0 ⊢
 have HCK : Hid _ := HCK0
 have HL : Hid _ := hL
 have HE : Hid (D = scl S h) := hE
 have HX : Hid (∀ t, (w.alloc (.cells D.toArray t)).rangeAt w.heap.size 0 D ∧ Below w.heap.size w (w.alloc (.cells D.toArray t))) := fun t => boxed w D t
 clear hD hL hE HCK0
 clear k hT hnm hc
 have HX1 : Hid _ := HX.out 31
 go_enter Tryz.func41, Tryz.ntmps41
 go_wp2_with (first | (refine wpList_load_mid rfl 31 _ rfl w.heap.size 0 rfl D _ HX1.out.1 Tryz.underlying31 rfl HL.out ?_) | fail)
 refine (HCK.out _ HX1.out.2).mono ?_
 rintro e w1 ⟨rfl, b1⟩
 have H1 : Hid (Below w.heap.size w w1) := andThen HX1.out.2 b1
 clear b1 HX1 HX
 go_wp2
 go_ret2
 exact ⟨rfl, H1.out⟩
theorem story_ok (S : Sg) (h : SH) (w : World) (k : SgAt w S h) (hT : Text.TabP 3 .i32 Text.Tx.lets w) (hnm : S.nm.size ≤ 140737488355000) (hc : chkS S = true) : Calls Tryz.prog 41 #[sv S h] w fun e w' => StPost S w e w' := by
 obtain ⟨q1, q2, q3, q4, q5, q6, q7, q8, q9⟩ := story_bnds S hc
 have HCK0 : ∀ w', Below w.heap.size w w' → Calls Tryz.prog 30 #[sv S h] w' fun e w'' => e = .returned (.int .i64 0) ∧ Below w'.heap.size w' w'' := fun w' hb => by
  have e := scheck_any S h w' (k.kept hb) (hT.kept hb) hnm
  rw [hc] at e
  exact e
 have HFW0 : ∀ w', Calls Tryz.prog 51 #[sv S h] w' fun e w'' => e = .returned (.bool S.x.fwd) ∧ Below w'.heap.size w' w'' := fun w' => fwd_any S h w'
 have HEN0 : ∀ w', Calls Tryz.prog 54 #[sv S h] w' fun e w'' => e = .returned (.bool S.x.ended) ∧ Below w'.heap.size w' w'' := fun w' => ended_any S h w'
 have HOC0 : ∀ w', Calls Tryz.prog 59 #[sv S h] w' fun e w'' => e = .returned (.int .i64 S.x.outcome) ∧ Below w'.heap.size w' w'' := fun w' => outcome_any S h w'
 obtain ⟨D, hD, hL, hE⟩ := sv_letter S h
 rw [hD] at HCK0 HFW0 HEN0 HOC0 ⊢
 have HCK : Hid _ := HCK0
 have HFW : Hid _ := HFW0
 have HEN : Hid _ := HEN0
 have HOC : Hid _ := HOC0
 have HL : Hid _ := hL
 have HE : Hid (D = scl S h) := hE
 have HX : Hid (∀ t, LB (w.alloc (.cells D.toArray t)) w.heap.size t D ∧ Below w.heap.size w (w.alloc (.cells D.toArray t))) := fun t => ⟨lb_new w D t, up0 _ _⟩
 have HU : Hid (∀ j (hj : j < S.outs.length), ∃ b off d, h.ao = some ⟨b, off, none⟩ ∧ (∀ w', Below w.heap.size w w' → w'.cell? ⟨b, off + j, none⟩ = some d ∧ Bs w' d S.outs[j]) ∧ S.outs[j].length ≤ 16384) := fun j hj => by
  obtain ⟨a1, p1, e1, _, h1⟩ := k.outs.shape
  simp only [Value.slice.injEq] at e1
  obtain ⟨rfl, _, rfl⟩ := e1
  obtain ⟨b, off, r1, r2⟩ := h1 (by intro e; rw [e] at hj; simp at hj)
  obtain ⟨d, q1, q2⟩ := r2 j hj
  exact ⟨b, off, d, r1, fun w' hb => ⟨(hb.cell (World.block_lt_of_cell? _ _ q1)).trans q1, q2.kept hb⟩, by simpa using List.all_eq_true.1 q8 _ (List.getElem_mem hj)⟩
 have HBG : Hid (∀ (t : Nat) (w' : World), w.heap.size ≤ t → TS w.heap.size t S h [] w' → Below w.heap.size w w' → Calls Tryz.prog 80 #[.pointer (some ⟨t, 0, none⟩)] w' fun e w'' => TP w.heap.size t S h [stB S] w' e w'') := fun t w' ht k' hb => tbegin_any _ t S h w' k' ht (k.inp.kept hb) q6
 have HTF : Hid (∀ (t : Nat) (rs : List Rec) (w' : World), w.heap.size ≤ t → TS w.heap.size t S h rs w' → Below w.heap.size w w' → S.x.fwd = false → rs.length ≤ 5000 → Calls Tryz.prog 82 #[.pointer (some ⟨t, 0, none⟩)] w' fun e w'' => TP w.heap.size t S h (rs ++ failL S) w' e w'') := fun t rs w' ht k' hb hf hn => tfail_any _ t S h rs w' k' ht w rfl k hb q7 q9 q2 (q5 hf) hf hn
 have HTR : Hid (∀ (t : Nat) (rs : List Rec) (w' : World), w.heap.size ≤ t → TS w.heap.size t S h rs w' → rs.length ≤ 5000 → Calls Tryz.prog 83 #[.pointer (some ⟨t, 0, none⟩)] w' fun e w'' => TP w.heap.size t S h (rs ++ trL S (trK S) S.x.turn 0 S.x.tr.toNat) w' e w'') := fun t rs w' ht k' hn => tries_any _ t S h rs w' k' ht q3 q4 hn
 have HT1 : Hid (∀ (t : Nat), w.heap.size ≤ t → ∀ (p : Int) (rs' : List Rec) (w' : World), TS w.heap.size t S h rs' w' → rs'.length ≤ 10000 → Calls Tryz.prog 81 #[.pointer (some ⟨t, 0, none⟩), .agg #[.int .i64 0, .int .i64 2, .int .i64 0, .int .i64 p, .int .i64 1, .int .i64 0, .int .i64 0, .int .i64 0, .int .i64 0, .int .i64 0, .string ⟨#[]⟩, .slice none 0 0]] w' fun e w'' => TP w.heap.size t S h (rs' ++ [stR S 2 p 1 0 0 []]) w' e w'') := fun t hB p rs' w' k' hn' => tell_T _ t S h rs' ⟨⟨0, 2, 0, p, 1, 0, 0, 0, 0, 0⟩, ⟨#[]⟩, []⟩ _ w' k' hB (Bs.nil _) (by simp) hn'
 have HT2 : Hid (∀ (t : Nat), w.heap.size ≤ t → ∀ (p : Int) (d : Value) (o : List Nat) (rs' : List Rec) (w' : World), TS w.heap.size t S h rs' w' → rs'.length ≤ 10000 → Bs w' (d) o → o.length ≤ 16384 → Calls Tryz.prog 81 #[.pointer (some ⟨t, 0, none⟩), .agg #[.int .i64 0, .int .i64 3, .int .i64 0, .int .i64 p, .int .i64 0, .int .i64 0, .int .i64 0, .int .i64 0, .int .i64 0, .int .i64 0, .string ⟨#[]⟩, d]] w' fun e w'' => TP w.heap.size t S h (rs' ++ [stR S 3 p 0 0 0 o]) w' e w'') := fun t hB p d o rs' w' k' hn' hb hl => tell_T _ t S h rs' ⟨⟨0, 3, 0, p, 0, 0, 0, 0, 0, 0⟩, ⟨#[]⟩, o⟩ _ w' k' hB hb hl hn'
 have HT3 : Hid (∀ (t : Nat), w.heap.size ≤ t → ∀ (c : Int) (rs' : List Rec) (w' : World), TS w.heap.size t S h rs' w' → rs'.length ≤ 10000 → Calls Tryz.prog 81 #[.pointer (some ⟨t, 0, none⟩), .agg #[.int .i64 0, .int .i64 7, .int .i64 0, .int .i64 0, .int .i64 0, .int .i64 0, .int .i64 0, .int .i64 c, .int .i64 0, .int .i64 0, .string ⟨#[]⟩, .slice none 0 0]] w' fun e w'' => TP w.heap.size t S h (rs' ++ [stR S 7 0 0 0 c []]) w' e w'') := fun t hB c rs' w' k' hn' => tell_T _ t S h rs' ⟨⟨0, 7, 0, 0, 0, 0, 0, c, 0, 0⟩, ⟨#[]⟩, []⟩ _ w' k' hB (Bs.nil _) (by simp) hn'
 have HLEN : Hid (S.outs.length ≤ 32 ∧ (failL S).length ≤ 66 ∧ (trL S (trK S) S.x.turn 0 S.x.tr.toNat).length ≤ 2000) := ⟨q1, by have := failL_lenC S; omega, by have := trL_lenC S (trK S) S.x.turn S.x.tr.toNat 0; omega⟩
 obtain ⟨Z, hZ⟩ : ∃ Z, Z = ztl := ⟨_, rfl⟩
 have HZ : Hid (Z = ztl) := hZ
 obtain ⟨TD, hTD⟩ : ∃ TD, TD = D ++ [.slice none 0 0] := ⟨_, rfl⟩
 have HTD : Hid (TD = D ++ [.slice none 0 0]) := hTD
 have HTL : Hid ((Tryz.prog.info? 95).map (·.size) = some TD.length) := by show _ = _; rw [hTD, hE]; exact infoTeller
 have HTZ : Hid (TD.length = Z.length) := by show _ = _; rw [hTD, hE, hZ]; rfl
 have HT1' : Hid (∀ v ∈ TD, v.oneCell' = true) := by
  show ∀ v ∈ TD, _
  rw [hTD, hE]
  intro v hv
  rcases List.mem_append.1 hv with hv | hv
  ·exact scl_one _ _ v hv
  ·obtain rfl := List.mem_singleton.1 hv; rfl
 clear k hT hnm hc hD hL hE hZ hTD HCK0 HFW0 HEN0 HOC0 q1 q2 q3 q4 q5 q6 q7 q8 q9
 have HX1 : Hid _ := HX.out 31
 go_enter Tryz.func41, Tryz.ntmps41
 go_wp2_with (first | (refine wpList_load_mid rfl 31 _ rfl w.heap.size 0 rfl D _ HX1.out.1.range Tryz.underlying31 rfl HL.out ?_) | fail)
 refine (HCK.out _ HX1.out.2).mono ?_
 rintro e w1 ⟨rfl, b1⟩
 have H1 : Hid (LB w1 w.heap.size 31 D ∧ Below w.heap.size w w1 ∧ w.heap.size ≤ w1.heap.size ∧ w.heap.size ≠ w1.heap.size) := ⟨HX1.out.1.kept b1, andThen HX1.out.2 b1, (andThen HX1.out.2 b1).size, Nat.ne_of_lt (HX1.out.1.kept b1).lt⟩
 clear b1 HX1 HX HCK
 have HTT : Hid ((w1.alloc (.cells Z.toArray 95)).there w1.heap.size 0 TD.toArray.size) := there_of (lb_new w1 Z _) (by simpa using HTZ.out)
 have H2 : Hid (∃ W2, W2 = (w1.alloc (.cells Z.toArray 95)).setCells w1.heap.size 0 TD ∧ LB W2 w.heap.size 31 D ∧ TS w.heap.size w1.heap.size S h [] W2 ∧ Below w.heap.size w W2) := by
  obtain ⟨q1, q2⟩ := box1 w1 95 Z TD HTZ.out
  exact ⟨_, rfl, H1.out.1.kept q2, ⟨.slice none 0 0, [], by rw [← HE.out, ← HTD.out]; exact q1, OutT.nil _ _, rfl⟩, andThen H1.out.2.1 q2⟩
 go_wp2_with (first | (refine wpList_load_mid rfl 31 _ rfl w.heap.size 0 rfl D _ H1.out.1.range Tryz.underlying31 rfl HL.out ?_) | (refine wpList_build_T HE.out HTD.out rfl 13 rfl rfl ?_) | (refine wpList_alloc_T HZ.out rfl rfl ?_) | (refine wpList_store_mid rfl 95 (.tmp 5) (.tmp 14) rfl w1.heap.size 0 TD.toArray rfl rfl HTT.out (by simpa using HTL.out) (all_oneCell_toArray HT1'.out) ?_; (obtain ⟨W2, hW2, hq⟩ := H2.out); (have H3 : Hid _ := hq); (rw [List.toList_toArray, ← hW2]); (clear hW2 hq H2 HTT)) | fail)
 refine (HBG.out _ _ H1.out.2.2.1 H3.out.2.1 H3.out.2.2).mono ?_
 rintro e w2 ⟨rfl, k2, b2, f2⟩
 have HN : Hid (w.heap.size ≤ w1.heap.size ∧ w.heap.size ≠ w1.heap.size) := H1.out.2.2
 have H4 : Hid (LB w2 w.heap.size 31 D ∧ TS w.heap.size w1.heap.size S h [stB S] w2 ∧ Below w.heap.size w w2) := ⟨f2 _ _ _ HN.out.2 (by decide) H3.out.1, k2, H3.out.2.2.trans b2⟩
 clear k2 b2 f2 H3 H1 HBG HTD HTL HTZ HT1' HZ
 generalize w1.heap.size = t at HN H4 ⊢
 have c11 := H4.out.1.cell 11 (.slice h.ao S.outs.length h.co) (by rw [HE.out]; rfl)
 go_wp2
 clear c11
 go_loopw [19] (fun i wr => ∃ (n : Nat) (cur : List Rec), i = .int .i64 (n : Int) ∧ n ≤ S.outs.length ∧ TS w.heap.size t S h cur wr ∧ cur ++ outL S n (S.outs.drop n) = stB S :: outL S 0 S.outs ∧ cur.length ≤ 1 + 2 * n ∧ LB wr w.heap.size 31 D ∧ Below w.heap.size w wr) (fun i _ => S.outs.length - (intOf i).toNat)
 case atStart => exact ⟨0, _, rfl, Nat.zero_le _, H4.out.2.1, by simp, by simp, H4.out.1, H4.out.2.2⟩
 case round =>
  obtain ⟨n, cur, rfl, hn2, kc, he, hcl, lb, bl⟩ := hrel
  have HR : Hid (TS w.heap.size t S h cur wr ∧ LB wr w.heap.size 31 D ∧ Below w.heap.size w wr) := ⟨kc, lb, bl⟩
  have HEQ : Hid (cur ++ outL S n (S.outs.drop n) = stB S :: outL S 0 S.outs) := he
  clear kc lb bl he H4
  have hol := HLEN.out.1
  by_cases hlt2 : n < S.outs.length
  ·obtain ⟨b, off, d, hau, qw, q3⟩ := HU.out n hlt2
   obtain ⟨o, hoo⟩ : ∃ o, S.outs[n] = o := ⟨_, rfl⟩
   have HDR : Hid (S.outs.drop n = o :: S.outs.drop (n + 1)) := by show _ = _; rw [List.drop_eq_getElem_cons hlt2, hoo]
   rw [hoo] at qw q3
   obtain ⟨q1, q2⟩ := qw _ HR.out.2.2
   have HQ : Hid (o.length ≤ 16384) := q3
   obtain ⟨ad, cd, rfl, _⟩ := q2.shape
   have HQW : Hid _ := qw
   clear q2 q3 hoo qw
   rw [hau]
   go_wp2_with fail
   refine (HT1.out t HN.out.1 _ _ _ HR.out.1 (by omega)).mono ?_
   rintro e w3 ⟨rfl, k3, b3, f3⟩
   have H6 : Hid (LB w3 w.heap.size 31 D ∧ TS w.heap.size t S h (cur ++ [stR S 2 (n : Int) 1 0 0 []]) w3 ∧ Below w.heap.size w w3) := ⟨f3 _ _ _ HN.out.2 (by decide) HR.out.2.1, k3, HR.out.2.2.trans b3⟩
   have H7 : Hid (Bs w3 (.slice ad o.length cd) o ∧ o.length ≤ 16384) := ⟨(HQW.out _ H6.out.2.2).2, HQ.out⟩
   clear k3 b3 f3 q1
   go_wp2_with fail
   refine (HT2.out t HN.out.1 _ _ o _ _ H6.out.2.1 (by simp; omega) H7.out.1 H7.out.2).mono ?_
   rintro e w4 ⟨rfl, k4, b4, f4⟩
   have H8 : Hid (LB w4 w.heap.size 31 D ∧ TS w.heap.size t S h (cur ++ [stR S 2 (n : Int) 1 0 0 []] ++ [stR S 3 (n : Int) 0 0 0 o]) w4 ∧ Below w.heap.size w w4) := ⟨f4 _ _ _ HN.out.2 (by decide) H6.out.1, k4, H6.out.2.2.trans b4⟩
   clear k4 b4 f4 H6 H7
   go_wp2
   go_roundw
   case rel => exact ⟨n + 1, _, by go_num, by omega, H8.out.2.1, by rw [← HEQ.out, HDR.out]; simp [outL], by simp; omega, H8.out.1, H8.out.2.2⟩
   case measure => simp [intOf]; omega
  ·obtain rfl : n = S.outs.length := by omega
   have hfin : cur = stB S :: outL S 0 S.outs := by
    have := HEQ.out
    rw [List.drop_length] at this
    simpa [outL] using this
   subst hfin
   clear HEQ HU HT1 HT2
   go_wp2_with (first | (refine wpList_load_mid rfl 31 _ rfl w.heap.size 0 rfl D _ HR.out.2.1.range Tryz.underlying31 rfl HL.out ?_) | fail)
   refine (HFW.out _).mono ?_
   rintro e x1 ⟨rfl, b1⟩
   have H1 : Hid (TS w.heap.size t S h (stB S :: outL S 0 S.outs) x1 ∧ LB x1 w.heap.size 31 D ∧ Below w.heap.size w x1) := ⟨HR.out.1.kept b1, HR.out.2.1.kept b1, andThen HR.out.2.2 b1⟩
   clear b1 HR HFW
   cases hf : S.x.fwd with
   | true =>
    go_wp2_with fail
    refine (HTR.out t _ _ HN.out.1 H1.out.1 (by simp only [List.length_cons, outL_lenC]; have := HLEN.out.2.1; omega)).mono ?_
    rintro e x3 ⟨rfl, k3, b3, f3⟩
    have H3 : Hid (TS w.heap.size t S h ((stB S :: outL S 0 S.outs) ++ trL S (trK S) S.x.turn 0 S.x.tr.toNat) x3 ∧ LB x3 w.heap.size 31 D ∧ Below w.heap.size w x3) := ⟨k3, f3 _ _ _ HN.out.2 (by decide) H1.out.2.1, H1.out.2.2.trans b3⟩
    clear k3 b3 f3 H1
    go_wp2_with (first | (refine wpList_load_mid rfl 31 _ rfl w.heap.size 0 rfl D _ H3.out.2.1.range Tryz.underlying31 rfl HL.out ?_) | fail)
    refine (HEN.out _).mono ?_
    rintro e x4 ⟨rfl, b4⟩
    have H4 : Hid (TS w.heap.size t S h ((stB S :: outL S 0 S.outs) ++ trL S (trK S) S.x.turn 0 S.x.tr.toNat) x4 ∧ LB x4 w.heap.size 31 D ∧ Below w.heap.size w x4) := ⟨H3.out.1.kept b4, H3.out.2.1.kept b4, andThen H3.out.2.2 b4⟩
    clear b4 H3
    cases he : S.x.ended with
    | false =>
     have hff : failL S = [] := by unfold failL; rw [if_pos hf]
     have hee : endL S = [] := by unfold endL; rw [if_neg (by simp [he])]
     obtain ⟨v9, ps9, l9, o9, e9⟩ := H4.out.1
     obtain ⟨a9, n9, p9, rfl⟩ : ∃ a n c, v9 = .slice a n c := by rcases o9.1.2 with ⟨e, _⟩ | ⟨_, _, _, e, _⟩ <;> exact ⟨_, _, _, e⟩
     have c16 := l9.cell 16 (.slice a9 n9 p9) rfl
     have HO9 : Hid (OutT w.heap.size _ (.slice a9 n9 p9) ps9 ∧ ps9.map Prod.fst = storyP S) := ⟨o9, e9.trans (by rw [storyP, storyT, hff, hee]; simp)⟩
     clear l9 o9 e9
     go_wp2
     go_ret2
     exact ⟨_, ps9, rfl, HO9.out.1, HO9.out.2, H4.out.2.2⟩
    | true =>
     have hff : failL S = [] := by unfold failL; rw [if_pos hf]
     have hee : endL S = [stR S 7 0 0 0 S.x.outcome []] := by unfold endL; rw [if_pos he]
     go_wp2_with (first | (refine wpList_load_mid rfl 31 _ rfl w.heap.size 0 rfl D _ H4.out.2.1.range Tryz.underlying31 rfl HL.out ?_) | fail)
     refine (HOC.out _).mono ?_
     rintro e x5 ⟨rfl, b5⟩
     have H5 : Hid (TS w.heap.size t S h ((stB S :: outL S 0 S.outs) ++ trL S (trK S) S.x.turn 0 S.x.tr.toNat) x5 ∧ LB x5 w.heap.size 31 D ∧ Below w.heap.size w x5) := ⟨H4.out.1.kept b5, H4.out.2.1.kept b5, andThen H4.out.2.2 b5⟩
     clear b5 H4
     go_wp2_with fail
     refine (HT3.out t HN.out.1 _ _ _ H5.out.1 (by simp only [List.length_append, List.length_cons, outL_lenC]; have := HLEN.out.2; omega)).mono ?_
     rintro e x6 ⟨rfl, k6, b6, f6⟩
     have H6 : Hid (TS w.heap.size t S h (((stB S :: outL S 0 S.outs) ++ trL S (trK S) S.x.turn 0 S.x.tr.toNat) ++ [stR S 7 0 0 0 S.x.outcome []]) x6 ∧ LB x6 w.heap.size 31 D ∧ Below w.heap.size w x6) := ⟨k6, f6 _ _ _ HN.out.2 (by decide) H5.out.2.1, H5.out.2.2.trans b6⟩
     clear k6 b6 f6 H5
     obtain ⟨v9, ps9, l9, o9, e9⟩ := H6.out.1
     obtain ⟨a9, n9, p9, rfl⟩ : ∃ a n c, v9 = .slice a n c := by rcases o9.1.2 with ⟨e, _⟩ | ⟨_, _, _, e, _⟩ <;> exact ⟨_, _, _, e⟩
     have c16 := l9.cell 16 (.slice a9 n9 p9) rfl
     have HO9 : Hid (OutT w.heap.size _ (.slice a9 n9 p9) ps9 ∧ ps9.map Prod.fst = storyP S) := ⟨o9, e9.trans (by rw [storyP, storyT, hff, hee]; simp)⟩
     clear l9 o9 e9
     go_wp2
     go_ret2
     exact ⟨_, ps9, rfl, HO9.out.1, HO9.out.2, H6.out.2.2⟩
   | false =>
    go_wp2_with fail
    refine (HTF.out t _ _ HN.out.1 H1.out.1 H1.out.2.2 hf (by simp only [List.length_cons, outL_lenC]; omega)).mono ?_
    rintro e x2 ⟨rfl, k2, b2, f2⟩
    have H2 : Hid (TS w.heap.size t S h ((stB S :: outL S 0 S.outs) ++ failL S) x2 ∧ LB x2 w.heap.size 31 D ∧ Below w.heap.size w x2) := ⟨k2, f2 _ _ _ HN.out.2 (by decide) H1.out.2.1, H1.out.2.2.trans b2⟩
    clear k2 b2 f2 H1
    go_wp2_with fail
    refine (HTR.out t _ _ HN.out.1 H2.out.1 (by simp only [List.length_append, List.length_cons, outL_lenC]; have := HLEN.out.2.1; omega)).mono ?_
    rintro e x3 ⟨rfl, k3, b3, f3⟩
    have H3 : Hid (TS w.heap.size t S h (((stB S :: outL S 0 S.outs) ++ failL S) ++ trL S (trK S) S.x.turn 0 S.x.tr.toNat) x3 ∧ LB x3 w.heap.size 31 D ∧ Below w.heap.size w x3) := ⟨k3, f3 _ _ _ HN.out.2 (by decide) H2.out.2.1, H2.out.2.2.trans b3⟩
    clear k3 b3 f3 H2
    go_wp2_with (first | (refine wpList_load_mid rfl 31 _ rfl w.heap.size 0 rfl D _ H3.out.2.1.range Tryz.underlying31 rfl HL.out ?_) | fail)
    refine (HEN.out _).mono ?_
    rintro e x4 ⟨rfl, b4⟩
    have H4 : Hid (TS w.heap.size t S h (((stB S :: outL S 0 S.outs) ++ failL S) ++ trL S (trK S) S.x.turn 0 S.x.tr.toNat) x4 ∧ LB x4 w.heap.size 31 D ∧ Below w.heap.size w x4) := ⟨H3.out.1.kept b4, H3.out.2.1.kept b4, andThen H3.out.2.2 b4⟩
    clear b4 H3
    cases he : S.x.ended with
    | false =>
     have hee : endL S = [] := by unfold endL; rw [if_neg (by simp [he])]
     obtain ⟨v9, ps9, l9, o9, e9⟩ := H4.out.1
     obtain ⟨a9, n9, p9, rfl⟩ : ∃ a n c, v9 = .slice a n c := by rcases o9.1.2 with ⟨e, _⟩ | ⟨_, _, _, e, _⟩ <;> exact ⟨_, _, _, e⟩
     have c16 := l9.cell 16 (.slice a9 n9 p9) rfl
     have HO9 : Hid (OutT w.heap.size _ (.slice a9 n9 p9) ps9 ∧ ps9.map Prod.fst = storyP S) := ⟨o9, e9.trans (by rw [storyP, storyT, hee]; simp)⟩
     clear l9 o9 e9
     go_wp2
     go_ret2
     exact ⟨_, ps9, rfl, HO9.out.1, HO9.out.2, H4.out.2.2⟩
    | true =>
     have hee : endL S = [stR S 7 0 0 0 S.x.outcome []] := by unfold endL; rw [if_pos he]
     go_wp2_with (first | (refine wpList_load_mid rfl 31 _ rfl w.heap.size 0 rfl D _ H4.out.2.1.range Tryz.underlying31 rfl HL.out ?_) | fail)
     refine (HOC.out _).mono ?_
     rintro e x5 ⟨rfl, b5⟩
     have H5 : Hid (TS w.heap.size t S h (((stB S :: outL S 0 S.outs) ++ failL S) ++ trL S (trK S) S.x.turn 0 S.x.tr.toNat) x5 ∧ LB x5 w.heap.size 31 D ∧ Below w.heap.size w x5) := ⟨H4.out.1.kept b5, H4.out.2.1.kept b5, andThen H4.out.2.2 b5⟩
     clear b5 H4
     go_wp2_with fail
     refine (HT3.out t HN.out.1 _ _ _ H5.out.1 (by simp only [List.length_append, List.length_cons, outL_lenC]; have := HLEN.out.2; omega)).mono ?_
     rintro e x6 ⟨rfl, k6, b6, f6⟩
     have H6 : Hid (TS w.heap.size t S h ((((stB S :: outL S 0 S.outs) ++ failL S) ++ trL S (trK S) S.x.turn 0 S.x.tr.toNat) ++ [stR S 7 0 0 0 S.x.outcome []]) x6 ∧ LB x6 w.heap.size 31 D ∧ Below w.heap.size w x6) := ⟨k6, f6 _ _ _ HN.out.2 (by decide) H5.out.2.1, H5.out.2.2.trans b6⟩
     clear k6 b6 f6 H5
     obtain ⟨v9, ps9, l9, o9, e9⟩ := H6.out.1
     obtain ⟨a9, n9, p9, rfl⟩ : ∃ a n c, v9 = .slice a n c := by rcases o9.1.2 with ⟨e, _⟩ | ⟨_, _, _, e, _⟩ <;> exact ⟨_, _, _, e⟩
     have c16 := l9.cell 16 (.slice a9 n9 p9) rfl
     have HO9 : Hid (OutT w.heap.size _ (.slice a9 n9 p9) ps9 ∧ ps9.map Prod.fst = storyP S) := ⟨o9, e9.trans (by rw [storyP, storyT, hee]; simp)⟩
     clear l9 o9 e9
     go_wp2
     go_ret2
     exact ⟨_, ps9, rfl, HO9.out.1, HO9.out.2, H6.out.2.2⟩
theorem rxstory_ok (S : Sg) (h : SH) (w : World) (k : SgAt w S h) (hT : Tabs w) (hF : Fits S) (hc : chkS S = true) : Calls Tryz.prog 42 #[sv S h] w fun e w' => ∃ v ps, e = .returned (.tuple #[v, .int .i64 0]) ∧ OutT w.heap.size w' v ps ∧ ps.map Prod.fst = storyP S ∧ Below w.heap.size w w' := by
 have HCK0 : ∀ w', Below w.heap.size w w' → Calls Tryz.prog 34 #[sv S h] w' fun e w'' => e = .returned (.int .i64 0) ∧ Below w'.heap.size w' w'' := fun w' hb' => rxcheck_ok S h w' (k.kept hb') (hT.kept hb') hF.nm hc hF.fc
 have HTO0 : ∀ w', Below w.heap.size w w' → Calls Tryz.prog 67 #[sv S h] w' fun e w'' => ∃ v ps, e = .returned v ∧ OutT w'.heap.size w'' v ps ∧ ps.map Prod.fst = storyP S ∧ Below w'.heap.size w' w'' := fun w' hb => rxtold_any S h w' (k.kept hb) hc
 obtain ⟨D, hD, hL, hE⟩ := sv_letter S h
 rw [hD] at HCK0 HTO0 ⊢
 have HCK : Hid _ := HCK0
 have HTO : Hid _ := HTO0
 have HL : Hid _ := hL
 have HX : Hid (LB (w.alloc (.cells D.toArray 31)) w.heap.size 31 D ∧ Below w.heap.size w (w.alloc (.cells D.toArray 31))) := ⟨lb_new w D _, up0 _ _⟩
 clear hD hL hE HCK0 HTO0 k hT hF hc
 go_enter Tryz.func42, Tryz.ntmps42
 go_wp2_with (first | (refine wpList_load_mid rfl 31 _ rfl w.heap.size 0 rfl D _ HX.out.1.range Tryz.underlying31 rfl HL.out ?_) | fail)
 refine (HCK.out _ HX.out.2).mono ?_
 rintro e w1 ⟨rfl, b1⟩
 have H1 : Hid (LB w1 w.heap.size 31 D ∧ Below w.heap.size w w1) := ⟨HX.out.1.kept b1, andThen HX.out.2 b1⟩
 clear b1 HX HCK
 go_wp2_with (first | (refine wpList_load_mid rfl 31 _ rfl w.heap.size 0 rfl D _ H1.out.1.range Tryz.underlying31 rfl HL.out ?_) | fail)
 refine (HTO.out _ H1.out.2).mono ?_
 rintro e w2 ⟨v2, ps, rfl, o2, m2, b2⟩
 have H2 : Hid (OutT w.heap.size w2 v2 ps ∧ ps.map Prod.fst = storyP S ∧ Below w.heap.size w w2) := ⟨o2.weak H1.out.2.size, m2, andThen H1.out.2 b2⟩
 clear o2 m2 b2 H1 HTO
 go_wp2
 go_ret2
 exact ⟨v2, ps, rfl, H2.out⟩
theorem rxstory_bad (S : Sg) (h : SH) (w : World) (k : SgAt w S h) (hT : Tabs w) (hF : Fits S) (hc : chkS S = false) : Calls Tryz.prog 42 #[sv S h] w fun e w' => e = .returned (.tuple #[.slice none 0 0, .int .i64 100]) ∧ Below w.heap.size w w' := by
 have HCK0 : ∀ w', Below w.heap.size w w' → Calls Tryz.prog 34 #[sv S h] w' fun e w'' => e = .returned (.int .i64 100) ∧ Below w'.heap.size w' w'' := fun w' hb' => rxcheck_bad S h w' (k.kept hb') (hT.kept hb') hF hc
 obtain ⟨D, hD, hL, hE⟩ := sv_letter S h
 rw [hD] at HCK0 ⊢
 have HCK : Hid _ := HCK0
 have HL : Hid _ := hL
 have HX : Hid (LB (w.alloc (.cells D.toArray 31)) w.heap.size 31 D ∧ Below w.heap.size w (w.alloc (.cells D.toArray 31))) := ⟨lb_new w D _, up0 _ _⟩
 clear hD hL hE HCK0 k hT hF hc
 go_enter Tryz.func42, Tryz.ntmps42
 go_wp2_with (first | (refine wpList_load_mid rfl 31 _ rfl w.heap.size 0 rfl D _ HX.out.1.range Tryz.underlying31 rfl HL.out ?_) | fail)
 refine (HCK.out _ HX.out.2).mono ?_
 rintro e w1 ⟨rfl, b1⟩
 have H1 : Hid (Below w.heap.size w w1) := andThen HX.out.2 b1
 clear b1 HX HCK
 go_wp2
 go_ret2
 exact ⟨rfl, H1.out⟩
theorem range_cells {w : World} {g o : Nat} {p : Rec × Value} (h : w.rangeAt g o (rcl p)) : (w.cell? ⟨g, o, none⟩ = some (.int .i64 p.1.x.v) ∧ w.cell? ⟨g, o + 1, none⟩ = some (.int .i64 p.1.x.k) ∧ w.cell? ⟨g, o + 2, none⟩ = some (.int .i64 p.1.x.s) ∧ w.cell? ⟨g, o + 3, none⟩ = some (.int .i64 p.1.x.p) ∧ w.cell? ⟨g, o + 4, none⟩ = some (.int .i64 p.1.x.t) ∧ w.cell? ⟨g, o + 5, none⟩ = some (.int .i64 p.1.x.a) ∧ w.cell? ⟨g, o + 6, none⟩ = some (.int .i64 p.1.x.l) ∧ w.cell? ⟨g, o + 7, none⟩ = some (.int .i64 p.1.x.c) ∧ w.cell? ⟨g, o + 8, none⟩ = some (.int .i64 p.1.x.n) ∧ w.cell? ⟨g, o + 9, none⟩ = some (.int .i64 p.1.x.i) ∧ w.cell? ⟨g, o + 10, none⟩ = some (.string p.1.nm) ∧ w.cell? ⟨g, o + 11, none⟩ = some (p.2)) := ⟨h 0 _ rfl, h 1 _ rfl, h 2 _ rfl, h 3 _ rfl, h 4 _ rfl, h 5 _ rfl, h 6 _ rfl, h 7 _ rfl, h 8 _ rfl, h 9 _ rfl, h 10 _ rfl, h 11 _ rfl⟩
theorem sameAll3_ok (va vb : Value) (rs : List Rec) (w : World) (ha : RecsAt w va rs) (hb : RecsAt w vb rs) :
  Calls Tryz.prog 43 #[va, vb] w fun e w' => e = .returned (.bool true) ∧ Below w.heap.size w w' := by
 have HRA : Hid (∀ w', Below w.heap.size w w' → RecsAt w' va rs) := fun w' hb => ha.kept hb
 have HRB : Hid (∀ w', Below w.heap.size w w' → RecsAt w' vb rs) := fun w' hb' => hb.kept hb'
 obtain ⟨aoa, capa, rfl, hma, _⟩ := ha
 obtain ⟨aob, capb, rfl, hmb, _⟩ := hb
 unfold maxLen at hma hmb
 have d0 : ((rs.length : Int) != (rs.length : Int)) = false := by simp
 go_enter Tryz.func43, Tryz.ntmps43
 go_wp2
 go_loopw [5] (fun i wr => ∃ k : Nat, k ≤ rs.length ∧ i = .int .i64 k ∧ Below w.heap.size w wr) (fun i _ => rs.length - (intOf i).toNat)
 case atStart => exact ⟨0, Nat.zero_le _, rfl, Below.refl _ _⟩
 case round =>
  obtain ⟨k, hk, rfl, hbel⟩ := hrel
  by_cases hlt : k < rs.length
  ·obtain ⟨r, hr⟩ : ∃ r, rs[k]? = some r := ⟨rs[k], List.getElem?_eq_getElem hlt⟩
   obtain ⟨ao', cap', e', _, hcr⟩ := HRA.out _ (Below.refl _ _)
   simp only [Value.slice.injEq] at e'
   obtain ⟨rfl, _, rfl⟩ := e'
   obtain ⟨b1, off1, d1, rfl, hrg1, hbs1⟩ := hcr k r hr
   obtain ⟨ao', cap', e', _, hcr2⟩ := HRB.out _ (Below.refl _ _)
   simp only [Value.slice.injEq] at e'
   obtain ⟨rfl, _, rfl⟩ := e'
   obtain ⟨b2, off2, d2, rfl, hrg2, hbs2⟩ := hcr2 k r hr
   obtain ⟨a1, p1, rfl, _⟩ := hbs1.shape
   obtain ⟨a2, p2, rfl, _⟩ := hbs2.shape
   have HB : Hid (∀ w', Below w.heap.size w w' → (w'.cell? ⟨b1, off1 + k * 12, none⟩ = some (.int .i64 r.x.v) ∧ w'.cell? ⟨b1, off1 + k * 12 + 1, none⟩ = some (.int .i64 r.x.k) ∧ w'.cell? ⟨b1, off1 + k * 12 + 2, none⟩ = some (.int .i64 r.x.s) ∧ w'.cell? ⟨b1, off1 + k * 12 + 3, none⟩ = some (.int .i64 r.x.p) ∧ w'.cell? ⟨b1, off1 + k * 12 + 4, none⟩ = some (.int .i64 r.x.t) ∧ w'.cell? ⟨b1, off1 + k * 12 + 5, none⟩ = some (.int .i64 r.x.a) ∧ w'.cell? ⟨b1, off1 + k * 12 + 6, none⟩ = some (.int .i64 r.x.l) ∧ w'.cell? ⟨b1, off1 + k * 12 + 7, none⟩ = some (.int .i64 r.x.c) ∧ w'.cell? ⟨b1, off1 + k * 12 + 8, none⟩ = some (.int .i64 r.x.n) ∧ w'.cell? ⟨b1, off1 + k * 12 + 9, none⟩ = some (.int .i64 r.x.i) ∧ w'.cell? ⟨b1, off1 + k * 12 + 10, none⟩ = some (.string r.nm) ∧ w'.cell? ⟨b1, off1 + k * 12 + 11, none⟩ = some (.slice a1 r.l.length p1)) ∧ (w'.cell? ⟨b2, off2 + k * 12, none⟩ = some (.int .i64 r.x.v) ∧ w'.cell? ⟨b2, off2 + k * 12 + 1, none⟩ = some (.int .i64 r.x.k) ∧ w'.cell? ⟨b2, off2 + k * 12 + 2, none⟩ = some (.int .i64 r.x.s) ∧ w'.cell? ⟨b2, off2 + k * 12 + 3, none⟩ = some (.int .i64 r.x.p) ∧ w'.cell? ⟨b2, off2 + k * 12 + 4, none⟩ = some (.int .i64 r.x.t) ∧ w'.cell? ⟨b2, off2 + k * 12 + 5, none⟩ = some (.int .i64 r.x.a) ∧ w'.cell? ⟨b2, off2 + k * 12 + 6, none⟩ = some (.int .i64 r.x.l) ∧ w'.cell? ⟨b2, off2 + k * 12 + 7, none⟩ = some (.int .i64 r.x.c) ∧ w'.cell? ⟨b2, off2 + k * 12 + 8, none⟩ = some (.int .i64 r.x.n) ∧ w'.cell? ⟨b2, off2 + k * 12 + 9, none⟩ = some (.int .i64 r.x.i) ∧ w'.cell? ⟨b2, off2 + k * 12 + 10, none⟩ = some (.string r.nm) ∧ w'.cell? ⟨b2, off2 + k * 12 + 11, none⟩ = some (.slice a2 r.l.length p2))) := fun w' hb => ⟨range_cells (Lft.rng_alloc hrg1 hb), range_cells (Lft.rng_alloc hrg2 hb)⟩
   have HSA : Hid (∀ w', Below w.heap.size w w' → Calls Tryz.prog 25 #[.agg #[.int .i64 r.x.v, .int .i64 r.x.k, .int .i64 r.x.s, .int .i64 r.x.p, .int .i64 r.x.t, .int .i64 r.x.a, .int .i64 r.x.l, .int .i64 r.x.c, .int .i64 r.x.n, .int .i64 r.x.i, .string r.nm, .slice a1 r.l.length p1], .agg #[.int .i64 r.x.v, .int .i64 r.x.k, .int .i64 r.x.s, .int .i64 r.x.p, .int .i64 r.x.t, .int .i64 r.x.a, .int .i64 r.x.l, .int .i64 r.x.c, .int .i64 r.x.n, .int .i64 r.x.i, .string r.nm, .slice a2 r.l.length p2]] w' fun e w'' => e = .returned (.bool true) ∧ Below w'.heap.size w' w'') := fun w' hb => (refsame_any r.x r.x r.nm r.nm _ _ r.l r.l w' (hbs1.kept hb) (hbs2.kept hb)).mono fun e w'' ⟨he, hk'⟩ => ⟨by rw [he, recEq_self], hk'⟩
   have HQ := HB.out wr hbel
   clear hcr hcr2 hrg1 hrg2 hbs1 hbs2 HRA HRB hr
   go_wp2
   go_region_held (fun w' => (w'.cell? ⟨b1, off1 + k * 12, none⟩ = some (.int .i64 r.x.v) ∧ w'.cell? ⟨b1, off1 + k * 12 + 1, none⟩ = some (.int .i64 r.x.k) ∧ w'.cell? ⟨b1, off1 + k * 12 + 2, none⟩ = some (.int .i64 r.x.s) ∧ w'.cell? ⟨b1, off1 + k * 12 + 3, none⟩ = some (.int .i64 r.x.p) ∧ w'.cell? ⟨b1, off1 + k * 12 + 4, none⟩ = some (.int .i64 r.x.t) ∧ w'.cell? ⟨b1, off1 + k * 12 + 5, none⟩ = some (.int .i64 r.x.a) ∧ w'.cell? ⟨b1, off1 + k * 12 + 6, none⟩ = some (.int .i64 r.x.l) ∧ w'.cell? ⟨b1, off1 + k * 12 + 7, none⟩ = some (.int .i64 r.x.c) ∧ w'.cell? ⟨b1, off1 + k * 12 + 8, none⟩ = some (.int .i64 r.x.n) ∧ w'.cell? ⟨b1, off1 + k * 12 + 9, none⟩ = some (.int .i64 r.x.i) ∧ w'.cell? ⟨b1, off1 + k * 12 + 10, none⟩ = some (.string r.nm) ∧ w'.cell? ⟨b1, off1 + k * 12 + 11, none⟩ = some (.slice a1 r.l.length p1)) ∧ (w'.cell? ⟨b2, off2 + k * 12, none⟩ = some (.int .i64 r.x.v) ∧ w'.cell? ⟨b2, off2 + k * 12 + 1, none⟩ = some (.int .i64 r.x.k) ∧ w'.cell? ⟨b2, off2 + k * 12 + 2, none⟩ = some (.int .i64 r.x.s) ∧ w'.cell? ⟨b2, off2 + k * 12 + 3, none⟩ = some (.int .i64 r.x.p) ∧ w'.cell? ⟨b2, off2 + k * 12 + 4, none⟩ = some (.int .i64 r.x.t) ∧ w'.cell? ⟨b2, off2 + k * 12 + 5, none⟩ = some (.int .i64 r.x.a) ∧ w'.cell? ⟨b2, off2 + k * 12 + 6, none⟩ = some (.int .i64 r.x.l) ∧ w'.cell? ⟨b2, off2 + k * 12 + 7, none⟩ = some (.int .i64 r.x.c) ∧ w'.cell? ⟨b2, off2 + k * 12 + 8, none⟩ = some (.int .i64 r.x.n) ∧ w'.cell? ⟨b2, off2 + k * 12 + 9, none⟩ = some (.int .i64 r.x.i) ∧ w'.cell? ⟨b2, off2 + k * 12 + 10, none⟩ = some (.string r.nm) ∧ w'.cell? ⟨b2, off2 + k * 12 + 11, none⟩ = some (.slice a2 r.l.length p2))) (first | go_keep | (exact HB.out _ (andThen (Below.drew hbel) hb')))
    (first | (go_at_call 25; refine (HSA.out _ (Below.drew hbel)).mono ?_; rintro e w' ⟨rfl, hb'⟩))
   have hb2 : Below w.heap.size w w' := andThen (Below.drew hbel) hb'
   clear hb' hbel HB HSA HQ
   go_wp2
   go_roundw
   case rel => exact ⟨k + 1, by omega, by go_num, hb2⟩
   case measure => simp [intOf]; omega
  ·go_wp2
   go_ret
   exact ⟨rfl, hbel⟩
theorem OutT.recsAt {B : Nat} {w : World} {v : Value} {ps : List (Rec × Value)} (h : OutT B w v ps) (hl : ps.length ≤ maxLen) : RecsAt w v (ps.map Prod.fst) := by
 obtain ⟨ao, cap, e, hk⟩ := h.at
 refine ⟨ao, cap, by rw [List.length_map]; exact e, by rw [List.length_map]; exact hl, fun k r hr => ?_⟩
 rw [List.getElem?_map] at hr
 have hkl : k < ps.length := by
  by_cases hlt : k < ps.length
  ·exact hlt
  ·rw [List.getElem?_eq_none (by omega)] at hr
   cases hr
 rw [List.getElem?_eq_getElem hkl] at hr
 obtain rfl := Option.some.inj hr
 obtain ⟨g, rfl, q1, q2⟩ := hk k hkl
 exact ⟨g, 0, ps[k].2, rfl, by rw [Nat.zero_add]; exact q1, q2⟩
theorem fits_light {S : Sg} (h : Fits S) : Light S := ⟨by have := h.inp; omega, by have := h.fail; omega, by have := h.outsN; omega, by have := h.undN; omega, fun l hl => by have := h.outs l hl; omega, fun l hl => by have := h.und l hl; omega⟩
theorem story_recs {B : Nat} {w : World} {v : Value} {ps : List (Rec × Value)} {S : Sg} (h : OutT B w v ps) (hm : ps.map Prod.fst = storyP S) (hc : chkS S = true) : RecsAt w v (storyP S) := by
 have h1 := story_len S hc
 have h2 : ps.length = (storyP S).length := by rw [← hm, List.length_map]
 have h3 := h.recsAt (by unfold maxLen; omega)
 rw [hm] at h3
 exact h3
theorem answered_7y (S : Sg) (h : SH) (r : Rec) (d : Value) (w : World) (k : SgAt w S h) (hT : STabs w) (hR : Tabs w) (hF : Fits S) (hc : chkS S = true) : Calls Tryz.prog 24 #[ov 7 S h r.x r.nm d] w fun e w' => e = .returned (.bool true) ∧ Below w.heap.size w w' := by
 have HA0 : ∀ w', Below w.heap.size w w' → Calls Tryz.prog 41 #[sv S h] w' fun e w'' => ∃ v, e = .returned (.tuple #[v, .int .i64 0]) ∧ RecsAt w'' v (storyP S) ∧ Below w'.heap.size w' w'' := fun w' hb' => (story_ok S h w' (k.kept hb') (hT.kept hb').e.tabs.lets (by have := hF.nm; omega) hc).mono fun e w'' ⟨v, ps, e1, e2, e3, e4⟩ => ⟨v, e1, story_recs e2 e3 hc, e4⟩
 have HB0 : ∀ w', Below w.heap.size w w' → Calls Tryz.prog 42 #[sv S h] w' fun e w'' => ∃ v, e = .returned (.tuple #[v, .int .i64 0]) ∧ RecsAt w'' v (storyP S) ∧ Below w'.heap.size w' w'' := fun w' hb' => (rxstory_ok S h w' (k.kept hb') (hR.kept hb') hF hc).mono fun e w'' ⟨v, ps, e1, e2, e3, e4⟩ => ⟨v, e1, story_recs e2 e3 hc, e4⟩
 obtain ⟨RS, hRS⟩ : ∃ RS, storyP S = RS := ⟨_, rfl⟩
 rw [hRS] at HA0 HB0
 obtain ⟨z, hz⟩ : ∃ z : Int, (0 : Int) = z := ⟨_, rfl⟩
 rw [hz] at HA0 HB0
 clear hRS hz
 obtain ⟨Z, hZ⟩ : ∃ Z, Z = zcl := ⟨_, rfl⟩
 have HZ : Hid (Z = zcl) := hZ
 have HZL : Hid (Z.length = 16) := by show _ = _; rw [hZ]; rfl
 obtain ⟨D, hD, hL, hE⟩ := sv_letter S h
 obtain ⟨E, hD2, hL2, hE2⟩ := rv_letter r.x r.nm d
 have hov : ov 7 S h r.x r.nm d = .agg (.int .i64 7 :: (D ++ E)).toArray := by unfold ov; rw [hE, hE2]
 rw [hov]
 have HL : Hid _ := hL
 have HL2 : Hid _ := hL2
 have hDl : D.length = 16 := by rw [hE]; rfl
 have k0 := (lb_new w (.int .i64 7 :: (D ++ E)) 40).cell 0 (.int .i64 7) rfl
 obtain ⟨L, hLL⟩ : ∃ L, (.int .i64 7 :: (D ++ E) : List Value) = L := ⟨_, rfl⟩
 have HRD : Hid (∀ wx, LB wx w.heap.size 40 L → wx.rangeAt w.heap.size 1 D ∧ wx.rangeAt w.heap.size 17 E) := fun wx l => by
  rw [← hLL] at l
  exact ⟨mid_range l.range, end_range l.range hDl⟩
 rw [hLL] at k0 ⊢
 have HX : Hid (LB (w.alloc (.cells L.toArray 40)) w.heap.size 40 L ∧ Below w.heap.size w (w.alloc (.cells L.toArray 40))) := ⟨lb_new w L _, up0 _ _⟩
 clear hov hLL
 rw [hD] at HA0 HB0
 have HA : Hid _ := HA0
 have HB : Hid _ := HB0
 clear hD hL hE hD2 hL2 hE2 HA0 HB0 hZ hT hR hDl k hF hc HL2 HZ HZL
 go_enter Tryz.func24, Tryz.ntmps24
 go_wp2_with (first | (refine wpList_load_mid rfl 31 _ rfl w.heap.size 1 rfl D _ (HRD.out _ HX.out.1).1 Tryz.underlying31 rfl HL.out ?_) | fail)
 refine (HA.out _ HX.out.2).mono ?_
 rintro e w1 ⟨v1, rfl, r1, b1⟩
 have H1 : Hid (LB w1 w.heap.size 40 L ∧ RecsAt w1 v1 RS ∧ Below w.heap.size w w1) := ⟨HX.out.1.kept b1, r1, andThen HX.out.2 b1⟩
 clear r1 b1 HX HA k0
 go_wp2_with (first | (refine wpList_load_mid rfl 31 _ rfl w.heap.size 1 rfl D _ (HRD.out _ H1.out.1).1 Tryz.underlying31 rfl HL.out ?_) | fail)
 refine (HB.out _ H1.out.2.2).mono ?_
 rintro e w2 ⟨v2, rfl, r2, b2⟩
 have H2 : Hid (RecsAt w2 v1 RS ∧ RecsAt w2 v2 RS ∧ Below w.heap.size w w2) := ⟨H1.out.2.1.kept b2, r2, andThen H1.out.2.2 b2⟩
 clear r2 b2 H1 HB HRD
 go_wp2_with fail
 refine (sameAll3_ok v1 v2 RS w2 H2.out.1 H2.out.2.1).mono ?_
 rintro e w3 ⟨rfl, b3⟩
 have H3 : Hid (Below w.heap.size w w3) := andThen H2.out.2.2 b3
 clear b3 H2
 have yz : (z == z) = true := by simp
 go_wp2_with fail
 refine (snum_any z _).mono ?_
 rintro e _ ⟨rfl, rfl⟩
 go_wp2
 go_ret
 exact ⟨rfl, H3.out⟩
theorem answered_7n (S : Sg) (h : SH) (r : Rec) (d : Value) (w : World) (k : SgAt w S h) (hT : STabs w) (hR : Tabs w) (hF : Fits S) (hc : chkS S = false) : Calls Tryz.prog 24 #[ov 7 S h r.x r.nm d] w fun e w' => e = .returned (.bool true) ∧ Below w.heap.size w w' := by
 have hnil : ∀ w' : World, RecsAt w' (.slice none 0 0) [] := fun w' => ⟨none, 0, rfl, by simp [maxLen], fun k r hr => by simp at hr⟩
 have HA0 : ∀ w', Below w.heap.size w w' → Calls Tryz.prog 41 #[sv S h] w' fun e w'' => ∃ v, e = .returned (.tuple #[v, .int .i64 100]) ∧ RecsAt w'' v [] ∧ Below w'.heap.size w' w'' := fun w' hb' => (story_bad S h w' (k.kept hb') (hT.kept hb').e.tabs.lets (by have := hF.nm; omega) hc).mono fun e w'' h1 => ⟨_, h1.1, hnil _, h1.2⟩
 have HB0 : ∀ w', Below w.heap.size w w' → Calls Tryz.prog 42 #[sv S h] w' fun e w'' => ∃ v, e = .returned (.tuple #[v, .int .i64 100]) ∧ RecsAt w'' v [] ∧ Below w'.heap.size w' w'' := fun w' hb' => (rxstory_bad S h w' (k.kept hb') (hR.kept hb') hF hc).mono fun e w'' h1 => ⟨_, h1.1, hnil _, h1.2⟩
 obtain ⟨RS, hRS⟩ : ∃ RS : List Rec, [] = RS := ⟨_, rfl⟩
 rw [hRS] at HA0 HB0
 obtain ⟨z, hz⟩ : ∃ z : Int, (100 : Int) = z := ⟨_, rfl⟩
 rw [hz] at HA0 HB0
 clear hRS hz hnil
 obtain ⟨Z, hZ⟩ : ∃ Z, Z = zcl := ⟨_, rfl⟩
 have HZ : Hid (Z = zcl) := hZ
 have HZL : Hid (Z.length = 16) := by show _ = _; rw [hZ]; rfl
 obtain ⟨D, hD, hL, hE⟩ := sv_letter S h
 obtain ⟨E, hD2, hL2, hE2⟩ := rv_letter r.x r.nm d
 have hov : ov 7 S h r.x r.nm d = .agg (.int .i64 7 :: (D ++ E)).toArray := by unfold ov; rw [hE, hE2]
 rw [hov]
 have HL : Hid _ := hL
 have HL2 : Hid _ := hL2
 have hDl : D.length = 16 := by rw [hE]; rfl
 have k0 := (lb_new w (.int .i64 7 :: (D ++ E)) 40).cell 0 (.int .i64 7) rfl
 obtain ⟨L, hLL⟩ : ∃ L, (.int .i64 7 :: (D ++ E) : List Value) = L := ⟨_, rfl⟩
 have HRD : Hid (∀ wx, LB wx w.heap.size 40 L → wx.rangeAt w.heap.size 1 D ∧ wx.rangeAt w.heap.size 17 E) := fun wx l => by
  rw [← hLL] at l
  exact ⟨mid_range l.range, end_range l.range hDl⟩
 rw [hLL] at k0 ⊢
 have HX : Hid (LB (w.alloc (.cells L.toArray 40)) w.heap.size 40 L ∧ Below w.heap.size w (w.alloc (.cells L.toArray 40))) := ⟨lb_new w L _, up0 _ _⟩
 clear hov hLL
 rw [hD] at HA0 HB0
 have HA : Hid _ := HA0
 have HB : Hid _ := HB0
 clear hD hL hE hD2 hL2 hE2 HA0 HB0 hZ hT hR hDl k hF hc HL2 HZ HZL
 go_enter Tryz.func24, Tryz.ntmps24
 go_wp2_with (first | (refine wpList_load_mid rfl 31 _ rfl w.heap.size 1 rfl D _ (HRD.out _ HX.out.1).1 Tryz.underlying31 rfl HL.out ?_) | fail)
 refine (HA.out _ HX.out.2).mono ?_
 rintro e w1 ⟨v1, rfl, r1, b1⟩
 have H1 : Hid (LB w1 w.heap.size 40 L ∧ RecsAt w1 v1 RS ∧ Below w.heap.size w w1) := ⟨HX.out.1.kept b1, r1, andThen HX.out.2 b1⟩
 clear r1 b1 HX HA k0
 go_wp2_with (first | (refine wpList_load_mid rfl 31 _ rfl w.heap.size 1 rfl D _ (HRD.out _ H1.out.1).1 Tryz.underlying31 rfl HL.out ?_) | fail)
 refine (HB.out _ H1.out.2.2).mono ?_
 rintro e w2 ⟨v2, rfl, r2, b2⟩
 have H2 : Hid (RecsAt w2 v1 RS ∧ RecsAt w2 v2 RS ∧ Below w.heap.size w w2) := ⟨H1.out.2.1.kept b2, r2, andThen H1.out.2.2 b2⟩
 clear r2 b2 H1 HB HRD
 go_wp2_with fail
 refine (sameAll3_ok v1 v2 RS w2 H2.out.1 H2.out.2.1).mono ?_
 rintro e w3 ⟨rfl, b3⟩
 have H3 : Hid (Below w.heap.size w w3) := andThen H2.out.2.2 b3
 clear b3 H2
 have yz : (z == z) = true := by simp
 go_wp2_with fail
 refine (snum_any z _).mono ?_
 rintro e _ ⟨rfl, rfl⟩
 go_wp2
 go_ret
 exact ⟨rfl, H3.out⟩
end Go.Proofs.YtgmkjcfdpiinpaaGreatDoor

