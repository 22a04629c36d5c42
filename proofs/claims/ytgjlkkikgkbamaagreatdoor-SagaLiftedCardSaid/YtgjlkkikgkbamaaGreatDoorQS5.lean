import Derived.Test.YtgjlkkikgkbamaaGreatDoorQS4
/-
  Package saga: refusal.
-/
namespace Go.Proofs.YtgjlkkikgkbamaaGreatDoor
open Go Go.RowKit
open Wb

/-- the last of the rules -/
theorem refP_last {x : SN} {r : Nums} (h1 : r.s = x.id) (h2 : r.k ≠ 1) (h3 : x.ended = false) (h4 : x.inPh r.k = true) (h5 : ¬ (r.l = 1 ∧ x.ph = 2)) (h6 : lands r.k = x.fl) (h7 : x.onTurn r.k r.p = true) (h8 : ¬ (r.t ≠ 0 ∧ r.t ≠ x.nextTry)) (h9 : ¬ (r.l = 1 ∧ x.behind r.p = true)) : refP x r = if r.k = 7 ∧ r.c ≠ 0 ∧ r.c ≠ x.outcome then 109 else 0 := by
  unfold refP
  rw [if_neg (by simpa using h1), if_neg h2, if_neg (by rw [h3]; exact Bool.false_ne_true), if_neg (by simpa [h4] using h5), if_neg (by simpa using h6), if_neg (by simpa using h7), if_neg h8, if_neg (by simpa using h9)]

set_option maxRecDepth 100000 in
set_option maxHeartbeats 8000000 in
theorem refusal_g (S : Sg) (h : SH) (x : Nums) (nm : ByteArray) (d : Value) (w : World) (hK : KindsT w) (hn : 0 ≤ S.x.nx ∧ S.x.nx ≤ 32) (ht : 0 ≤ S.x.tr ∧ S.x.tr ≤ 1000) (hk : 1 ≤ x.k ∧ x.k ≤ 7) (qf : (x.l == 1) = true) : Calls Tryz.prog 16 #[sv S h, rv x nm d] w fun e w' => e = .returned (.int .i64 (refP S.x x)) ∧ Below w.heap.size w w' := by
  have HN0 : ∀ w', Calls Tryz.prog 31 #[sv S h] w' fun e w'' => e = .returned (.bool S.x.ended) ∧ Below w'.heap.size w' w'' := fun w' => ended_any S h w'
  have HP0 : ∀ w', Below w.heap.size w w' → Calls Tryz.prog 32 #[sv S h, .int .i64 x.k] w' fun e w'' => e = .returned (.bool (S.x.inPh x.k)) ∧ Below w'.heap.size w' w'' := fun w' hb => inPh_any S h x.k w' hk (hK.kept hb)
  have HO0 : ∀ w', Calls Tryz.prog 33 #[sv S h, rv x nm d] w' fun e w'' => e = .returned (.bool (S.x.onTurn x.k x.p)) ∧ Below w'.heap.size w' w'' := fun w' => onTurn_any S h x nm d w' hn
  have HT0 : ∀ w', Calls Tryz.prog 34 #[sv S h] w' fun e w'' => e = .returned (.int .i64 S.x.nextTry) ∧ Below w'.heap.size w' w'' := fun w' => nextTry_any S h w' ht
  have HU0 : ∀ w', Calls Tryz.prog 36 #[sv S h] w' fun e w'' => e = .returned (.int .i64 S.x.outcome) ∧ Below w'.heap.size w' w'' := fun w' => outcome_any S h w'
  have HB0 : ∀ w', Calls Tryz.prog 35 #[sv S h, .int .i64 x.p] w' fun e w'' => e = .returned (.bool (S.x.behind x.p)) ∧ Below w'.heap.size w' w'' := fun w' => behind_any S h x.p w'
  have HKT : Hid (∀ W : World, Below w.heap.size w W → W.cell? ⟨0, x.k.toNat * 2 + 1, none⟩ = some (.bool (lands x.k))) := fun W hb => by have e := ((hK.kept hb) x.k.toNat (by omega)).2; rw [Nat.mul_comm] at e; rw [e]; congr 2; rw [Int.toNat_of_nonneg (by omega)]
  clear hK hn ht
  obtain ⟨A, hA⟩ : ∃ A, refP S.x x = A := ⟨_, rfl⟩
  have HA : Hid (refP S.x x = A) := hA
  rw [hA]
  clear hA
  obtain ⟨D, hD, hL, hE⟩ := sv_letter S h
  obtain ⟨E, hD2, hL2, hE2⟩ := rv_letter x nm d
  rw [hD, hD2]
  try rw [hD] at HN0
  try rw [hD2] at HN0
  try rw [hD] at HP0
  try rw [hD2] at HP0
  try rw [hD] at HO0
  try rw [hD2] at HO0
  try rw [hD] at HT0
  try rw [hD2] at HT0
  try rw [hD] at HU0
  try rw [hD2] at HU0
  try rw [hD] at HB0
  try rw [hD2] at HB0
  have HN : Hid _ := HN0
  have HP : Hid _ := HP0
  have HO : Hid _ := HO0
  have HT : Hid _ := HT0
  have HU : Hid _ := HU0
  have HB : Hid _ := HB0
  have HL : Hid _ := hL
  have HE : Hid (D = scl S h) := hE
  have HL2 : Hid _ := hL2
  have HE2 : Hid (E = rcE x nm d) := hE2
  have HX : Hid (∀ t t2, ((w.alloc (.cells D.toArray t)).alloc (.cells E.toArray t2)).rangeAt w.heap.size 0 D ∧ ((w.alloc (.cells D.toArray t)).alloc (.cells E.toArray t2)).rangeAt (w.heap.size + 1) 0 E ∧ Below w.heap.size w ((w.alloc (.cells D.toArray t)).alloc (.cells E.toArray t2))) := fun t t2 => boxed2 w D E t t2
  clear hD hL hE hD2 hL2 hE2 HN0 HP0 HO0 HT0 HU0 HB0
  have HC : Hid (∀ W : World, W.rangeAt w.heap.size 0 D → W.rangeAt (w.heap.size + 1) 0 E → (W.cell? ⟨w.heap.size, 0, none⟩ = some (.int .i64 S.x.id) ∧ W.cell? ⟨w.heap.size, 7, none⟩ = some (.int .i64 S.x.ph) ∧ W.cell? ⟨w.heap.size, 9, none⟩ = some (.bool S.x.fl) ∧ W.cell? ⟨w.heap.size + 1, 1, none⟩ = some (.int .i64 x.k) ∧ W.cell? ⟨w.heap.size + 1, 2, none⟩ = some (.int .i64 x.s) ∧ W.cell? ⟨w.heap.size + 1, 3, none⟩ = some (.int .i64 x.p) ∧ W.cell? ⟨w.heap.size + 1, 4, none⟩ = some (.int .i64 x.t) ∧ W.cell? ⟨w.heap.size + 1, 6, none⟩ = some (.int .i64 x.l) ∧ W.cell? ⟨w.heap.size + 1, 7, none⟩ = some (.int .i64 x.c))) := fun W a b => ⟨range_cell a 0 _ (by rw [HE.out]; rfl), range_cell a 7 _ (by rw [HE.out]; rfl), range_cell a 9 _ (by rw [HE.out]; rfl), range_cell b 1 _ (by rw [HE2.out]; rfl), range_cell b 2 _ (by rw [HE2.out]; rfl), range_cell b 3 _ (by rw [HE2.out]; rfl), range_cell b 4 _ (by rw [HE2.out]; rfl), range_cell b 6 _ (by rw [HE2.out]; rfl), range_cell b 7 _ (by rw [HE2.out]; rfl)⟩
  clear HE HE2
  have hk0 : 0 ≤ x.k := by omega
  have hk8 : x.k < 8 := by omega
  have BD0 := (HX.out 25 27).2.2
  have RD0 := (HX.out 25 27).1
  have RE0 := (HX.out 25 27).2.1
  obtain ⟨c0, c7, c9, r1, r2, r3, r4, r6, r7⟩ := HC.out _ RD0 RE0
  go_enter Tryz.func16, Tryz.ntmps16
  cases q1 : (x.s != S.x.id) with
  | true =>
    have HF : Hid (101 = A) := by show _ = _; rw [← HA.out]; unfold refP; simp [show x.s ≠ S.x.id by simpa using q1]
    go_wp2
    go_ret
    exact ⟨by rw [← HF.out]; rfl, BD0⟩
  | false =>
  cases q2 : (x.k == 1) with
  | true =>
    have HF : Hid (102 = A) := by show _ = _; rw [← HA.out]; unfold refP; simp [show x.s = S.x.id by simpa using q1, show x.k = 1 by simpa using q2]
    go_wp2
    go_ret
    exact ⟨by rw [← HF.out]; rfl, BD0⟩
  | false =>
  go_wp2_with (first | (refine wpList_load_mid rfl 25 _ rfl w.heap.size 0 rfl D _ RD0 Tryz.underlying25 rfl HL.out ?_) | (refine wpList_load_midG rfl 25 _ rfl w.heap.size 0 rfl D _ RD0 Tryz.underlying25 rfl HL.out ?_))
  refine (HN.out _).mono ?_
  rintro e w1 ⟨rfl, b1⟩
  have BD1 := andThen BD0 b1
  have RD1 := range_kept RD0 b1
  have RE1 := range_kept RE0 b1
  clear BD0 RD0 RE0 b1 c0 c7 c9 r1 r2 r3 r4 r6 r7
  obtain ⟨c0, c7, c9, r1, r2, r3, r4, r6, r7⟩ := HC.out _ RD1 RE1
  clear HX HN
  cases q3 : S.x.ended with
  | true =>
    have HF : Hid (103 = A) := by show _ = _; rw [← HA.out]; unfold refP; simp [show x.s = S.x.id by simpa using q1, show x.k ≠ 1 by simpa using q2, q3]
    go_wp2
    go_ret
    exact ⟨by rw [← HF.out]; rfl, BD1⟩
  | false =>
  go_wp2_with (first | (refine wpList_load_mid rfl 25 _ rfl w.heap.size 0 rfl D _ RD1 Tryz.underlying25 rfl HL.out ?_) | (refine wpList_load_midG rfl 25 _ rfl w.heap.size 0 rfl D _ RD1 Tryz.underlying25 rfl HL.out ?_))
  refine (HP.out _ BD1).mono ?_
  rintro e w2 ⟨rfl, b2⟩
  have BD2 := andThen BD1 b2
  have RD2 := range_kept RD1 b2
  have RE2 := range_kept RE1 b2
  clear BD1 RD1 RE1 b2 c0 c7 c9 r1 r2 r3 r4 r6 r7
  obtain ⟨c0, c7, c9, r1, r2, r3, r4, r6, r7⟩ := HC.out _ RD2 RE2
  clear HP
  cases q4 : S.x.inPh x.k with
  | false =>
    have HF : Hid (104 = A) := by show _ = _; rw [← HA.out]; unfold refP; simp [show x.s = S.x.id by simpa using q1, show x.k ≠ 1 by simpa using q2, q3, q4]
    go_wp2
    go_ret
    exact ⟨by rw [← HF.out]; rfl, BD2⟩
  | true =>
  cases q5 : (S.x.ph == 2) with
  | true =>
    have HF : Hid (104 = A) := by show _ = _; rw [← HA.out]; unfold refP; simp [show x.s = S.x.id by simpa using q1, show x.k ≠ 1 by simpa using q2, q3, q4, show x.l = 1 by simpa using qf, show S.x.ph = 2 by simpa using q5]
    go_wp2
    go_ret
    exact ⟨by rw [← HF.out]; rfl, BD2⟩
  | false =>
  have k1 := HKT.out _ BD2
  go_wp2
  go_quiet (fail)
  have b3 : Below w2.heap.size w2 (w2.drewN nq) := bdrewN (Below.refl _ _) _
  clear k1
  generalize w2.drewN nq = w3 at *
  have BD3 := andThen BD2 b3
  have RD3 := range_kept RD2 b3
  have RE3 := range_kept RE2 b3
  clear BD2 RD2 RE2 b3 c0 c7 c9 r1 r2 r3 r4 r6 r7
  obtain ⟨c0, c7, c9, r1, r2, r3, r4, r6, r7⟩ := HC.out _ RD3 RE3
  cases q6 : (lands x.k == S.x.fl) with
  | false =>
    have HF : Hid (105 = A) := by show _ = _; rw [← HA.out]; unfold refP; simp [show x.s = S.x.id by simpa using q1, show x.k ≠ 1 by simpa using q2, q3, q4, show x.l = 1 by simpa using qf, show S.x.ph ≠ 2 by simpa using q5, show lands x.k ≠ S.x.fl by simpa using q6]
    go_wp2
    go_ret
    exact ⟨by rw [← HF.out]; rfl, BD3⟩
  | true =>
  go_wp2_with (first | (refine wpList_load_mid rfl 25 _ rfl w.heap.size 0 rfl D _ RD3 Tryz.underlying25 rfl HL.out ?_) | (refine wpList_load_mid rfl 27 _ rfl (w.heap.size + 1) 0 rfl E _ RE3 Tryz.underlying27 rfl HL2.out ?_))
  refine (HO.out _).mono ?_
  rintro e w4 ⟨rfl, b4⟩
  have BD4 := andThen BD3 b4
  have RD4 := range_kept RD3 b4
  have RE4 := range_kept RE3 b4
  clear BD3 RD3 RE3 b4 c0 c7 c9 r1 r2 r3 r4 r6 r7
  obtain ⟨c0, c7, c9, r1, r2, r3, r4, r6, r7⟩ := HC.out _ RD4 RE4
  clear HO
  cases q7 : S.x.onTurn x.k x.p with
  | false =>
    have HF : Hid (106 = A) := by show _ = _; rw [← HA.out]; unfold refP; simp [show x.s = S.x.id by simpa using q1, show x.k ≠ 1 by simpa using q2, q3, q4, show x.l = 1 by simpa using qf, show S.x.ph ≠ 2 by simpa using q5, show lands x.k = S.x.fl by simpa using q6, q7]
    go_wp2
    go_ret
    exact ⟨by rw [← HF.out]; rfl, BD4⟩
  | true =>
  cases q8 : (x.t != 0 && x.t != S.x.nextTry) with
  | true =>
    simp only [Bool.and_eq_true] at q8
    obtain ⟨q8, q9⟩ := q8
    go_wp2
    refine wp_region_held_drew (S := fun w' : World => w'.rangeAt w.heap.size 0 D ∧ w'.rangeAt (w.heap.size + 1) 0 E ∧ w'.cell? ⟨w.heap.size + 1, 4, none⟩ = some (.int .i64 x.t) ∧ Below w.heap.size w w') (by kernel_rfl) ?_ (fun hH => ?_)
    · exact ⟨range_kept RD4 (Below.drew (Below.refl _ _)), range_kept RE4 (Below.drew (Below.refl _ _)), (HC.out _ (range_kept RD4 (Below.drew (Below.refl _ _))) (range_kept RE4 (Below.drew (Below.refl _ _)))).2.2.2.2.2.2.1, Below.drew BD4⟩
    clear BD4 RD4 RE4 c0 c7 c9 r1 r2 r3 r4 r6 r7
    refine wpAnyH_take (i := 0) (v := ?v1) rfl (by kernel_rfl) (by kernel_rfl) (by kernel_rfl) (fun _ _ _ h => h) (Or.inl ⟨by rfl, ?hy1⟩) hH ?rest1
    case hy1 => intro w' hSw; (try dsimp only at hSw); go_simp; all_goals rfl
    simp only [Act.put, List.setIfInBounds_toArray, List.set_cons_zero, List.set_cons_succ, List.getElem_toArray, List.getElem_cons_zero]
    refine wpAnyH_take (i := 1) (v := ?v2) rfl (by kernel_rfl) (by kernel_rfl) (by kernel_rfl) (fun _ _ _ h => h) (Or.inl ⟨by rfl, ?hy2⟩) hH ?rest2
    case hy2 => intro w' hSw; (try dsimp only at hSw); go_simp; all_goals rfl
    simp only [Act.put, List.setIfInBounds_toArray, List.set_cons_zero, List.set_cons_succ, List.getElem_toArray, List.getElem_cons_zero, List.getElem_cons_succ]
    refine wpAnyH_take (i := 2) (v := ?v3) rfl (by kernel_rfl) (by kernel_rfl) (by kernel_rfl) (fun _ _ _ h => h) (Or.inl ⟨by rfl, ?hy3⟩) hH ?rest3
    case hy3 => intro w' hSw; (try dsimp only at hSw); go_simp; all_goals rfl
    simp only [Act.put, List.setIfInBounds_toArray, List.set_cons_zero, List.set_cons_succ, List.getElem_toArray, List.getElem_cons_zero, List.getElem_cons_succ]
    refine wpAnyH_take (i := 3) (v := ?v4) rfl (by kernel_rfl) (by kernel_rfl) (by kernel_rfl) (fun _ _ _ h => h) (Or.inl ⟨by rfl, ?hy4⟩) hH ?rest4
    case hy4 => intro w' hSw; (try dsimp only at hSw); go_simp; all_goals rfl
    simp only [Act.put, List.setIfInBounds_toArray, List.set_cons_zero, List.set_cons_succ, List.getElem_toArray, List.getElem_cons_zero, List.getElem_cons_succ]
    refine wpAnyH_take (i := 4) (v := ?v5) rfl (by kernel_rfl) (by kernel_rfl) (by kernel_rfl) (fun _ _ _ h => h) (Or.inl ⟨by rfl, ?hy5⟩) hH ?rest5
    case hy5 => intro w' hSw; (try dsimp only at hSw); go_simp; all_goals rfl
    simp only [Act.put, List.setIfInBounds_toArray, List.set_cons_zero, List.set_cons_succ, List.getElem_toArray, List.getElem_cons_zero, List.getElem_cons_succ]
    refine wpAnyH_take (i := 5) (v := ?v6) rfl (by kernel_rfl) (by kernel_rfl) (by kernel_rfl) (fun _ _ _ h => h) (Or.inl ⟨by rfl, ?hy6⟩) hH ?rest6
    case hy6 => intro w' hSw; (try dsimp only at hSw); go_simp; all_goals rfl
    simp only [Act.put, List.setIfInBounds_toArray, List.set_cons_zero, List.set_cons_succ, List.getElem_toArray, List.getElem_cons_zero, List.getElem_cons_succ]
    refine wpAnyH_take (i := 6) rfl (by kernel_rfl) (by kernel_rfl) (by kernel_rfl) (fun _ _ _ h => h) (yieldsIf_load_mid (by rfl) _ _ rfl _ _ rfl D _ (fun w' hSw => hSw.1) Tryz.underlying25 rfl HL.out) hH ?_
    simp only [Act.put, List.setIfInBounds_toArray, List.set_cons_zero, List.set_cons_succ, List.getElem_toArray, List.getElem_cons_zero, List.getElem_cons_succ]
    refine wpAnyH_ready (rs := [7]) (by kernel_rfl) (by simp) ?_
    refine AllReadyH.cons rfl (fun K hK => ?_) AllReadyH.nil
    go_simp
    refine (HT.out _).mono ?_
    rintro e w5 ⟨rfl, b5⟩
    refine hK.out _ _ ?_ (fun hH2 => ?_)
    · exact ⟨range_kept hH.1 b5, range_kept hH.2.1 b5, (HC.out _ (range_kept hH.1 b5) (range_kept hH.2.1 b5)).2.2.2.2.2.2.1, andThen hH.2.2.2 b5⟩
    clear hK K hH
    have hH := hH2
    clear hH2
    refine wpAnyH_take (i := 8) (v := ?v7) rfl (by kernel_rfl) (by kernel_rfl) (by kernel_rfl) (fun _ _ _ h => h) (Or.inl ⟨by rfl, ?hy7⟩) hH ?rest7
    case hy7 => intro w' hSw; (try dsimp only at hSw); go_simp; all_goals rfl
    simp only [Act.put, List.setIfInBounds_toArray, List.set_cons_zero, List.set_cons_succ, List.getElem_toArray, List.getElem_cons_zero, List.getElem_cons_succ]
    refine wpAnyH_take (i := 9) (v := ?v8) rfl (by kernel_rfl) (by kernel_rfl) (by kernel_rfl) (fun _ _ _ h => h) (Or.inl ⟨by rfl, ?hy8⟩) hH ?rest8
    case hy8 => intro w' hSw; (try dsimp only at hSw); go_simp; all_goals rfl
    simp only [Act.put, List.setIfInBounds_toArray, List.set_cons_zero, List.set_cons_succ, List.getElem_toArray, List.getElem_cons_zero, List.getElem_cons_succ]
    refine wpAnyH_take (i := 10) (v := ?v9) rfl (by kernel_rfl) (by kernel_rfl) (by kernel_rfl) (fun _ _ _ h => h) (Or.inl ⟨by rfl, ?hy9⟩) hH ?rest9
    case hy9 => intro w' hSw; (try dsimp only at hSw); go_simp; all_goals rfl
    simp only [Act.put, List.setIfInBounds_toArray, List.set_cons_zero, List.set_cons_succ, List.getElem_toArray, List.getElem_cons_zero, List.getElem_cons_succ]
    refine wpAnyH_done (by kernel_rfl) ?_ _
    have BF := hH.2.2.2
    clear hH
    have HF : Hid (107 = A) := by show _ = _; rw [← HA.out]; unfold refP; simp [show x.s = S.x.id by simpa using q1, show x.k ≠ 1 by simpa using q2, q3, q4, show x.l = 1 by simpa using qf, show S.x.ph ≠ 2 by simpa using q5, show lands x.k = S.x.fl by simpa using q6, q7, show x.t ≠ 0 by simpa using q8, show x.t ≠ S.x.nextTry by simpa using q9]
    go_wp2
    go_ret
    exact ⟨by rw [← HF.out]; rfl, BF⟩
  | false =>
  have H78 : Hid (¬ (x.t ≠ 0 ∧ x.t ≠ S.x.nextTry)) := by show ¬ _; simpa using q8
  cases qt : (x.t != 0) with
  | true =>
    have q9 : (x.t != S.x.nextTry) = false := by rw [qt] at q8; simpa using q8
    clear q8
    go_wp2
    refine wp_region_held_drew (S := fun w' : World => w'.rangeAt w.heap.size 0 D ∧ w'.rangeAt (w.heap.size + 1) 0 E ∧ w'.cell? ⟨w.heap.size + 1, 4, none⟩ = some (.int .i64 x.t) ∧ Below w.heap.size w w') (by kernel_rfl) ?_ (fun hH => ?_)
    · exact ⟨range_kept RD4 (Below.drew (Below.refl _ _)), range_kept RE4 (Below.drew (Below.refl _ _)), (HC.out _ (range_kept RD4 (Below.drew (Below.refl _ _))) (range_kept RE4 (Below.drew (Below.refl _ _)))).2.2.2.2.2.2.1, Below.drew BD4⟩
    clear BD4 RD4 RE4 c0 c7 c9 r1 r2 r3 r4 r6 r7
    refine wpAnyH_take (i := 0) (v := ?v10) rfl (by kernel_rfl) (by kernel_rfl) (by kernel_rfl) (fun _ _ _ h => h) (Or.inl ⟨by rfl, ?hy10⟩) hH ?rest10
    case hy10 => intro w' hSw; (try dsimp only at hSw); go_simp; all_goals rfl
    simp only [Act.put, List.setIfInBounds_toArray, List.set_cons_zero, List.set_cons_succ, List.getElem_toArray, List.getElem_cons_zero]
    refine wpAnyH_take (i := 1) (v := ?v11) rfl (by kernel_rfl) (by kernel_rfl) (by kernel_rfl) (fun _ _ _ h => h) (Or.inl ⟨by rfl, ?hy11⟩) hH ?rest11
    case hy11 => intro w' hSw; (try dsimp only at hSw); go_simp; all_goals rfl
    simp only [Act.put, List.setIfInBounds_toArray, List.set_cons_zero, List.set_cons_succ, List.getElem_toArray, List.getElem_cons_zero, List.getElem_cons_succ]
    refine wpAnyH_take (i := 2) (v := ?v12) rfl (by kernel_rfl) (by kernel_rfl) (by kernel_rfl) (fun _ _ _ h => h) (Or.inl ⟨by rfl, ?hy12⟩) hH ?rest12
    case hy12 => intro w' hSw; (try dsimp only at hSw); go_simp; all_goals rfl
    simp only [Act.put, List.setIfInBounds_toArray, List.set_cons_zero, List.set_cons_succ, List.getElem_toArray, List.getElem_cons_zero, List.getElem_cons_succ]
    refine wpAnyH_take (i := 3) (v := ?v13) rfl (by kernel_rfl) (by kernel_rfl) (by kernel_rfl) (fun _ _ _ h => h) (Or.inl ⟨by rfl, ?hy13⟩) hH ?rest13
    case hy13 => intro w' hSw; (try dsimp only at hSw); go_simp; all_goals rfl
    simp only [Act.put, List.setIfInBounds_toArray, List.set_cons_zero, List.set_cons_succ, List.getElem_toArray, List.getElem_cons_zero, List.getElem_cons_succ]
    refine wpAnyH_take (i := 4) (v := ?v14) rfl (by kernel_rfl) (by kernel_rfl) (by kernel_rfl) (fun _ _ _ h => h) (Or.inl ⟨by rfl, ?hy14⟩) hH ?rest14
    case hy14 => intro w' hSw; (try dsimp only at hSw); go_simp; all_goals rfl
    simp only [Act.put, List.setIfInBounds_toArray, List.set_cons_zero, List.set_cons_succ, List.getElem_toArray, List.getElem_cons_zero, List.getElem_cons_succ]
    refine wpAnyH_take (i := 5) (v := ?v15) rfl (by kernel_rfl) (by kernel_rfl) (by kernel_rfl) (fun _ _ _ h => h) (Or.inl ⟨by rfl, ?hy15⟩) hH ?rest15
    case hy15 => intro w' hSw; (try dsimp only at hSw); go_simp; all_goals rfl
    simp only [Act.put, List.setIfInBounds_toArray, List.set_cons_zero, List.set_cons_succ, List.getElem_toArray, List.getElem_cons_zero, List.getElem_cons_succ]
    refine wpAnyH_take (i := 6) rfl (by kernel_rfl) (by kernel_rfl) (by kernel_rfl) (fun _ _ _ h => h) (yieldsIf_load_mid (by rfl) _ _ rfl _ _ rfl D _ (fun w' hSw => hSw.1) Tryz.underlying25 rfl HL.out) hH ?_
    simp only [Act.put, List.setIfInBounds_toArray, List.set_cons_zero, List.set_cons_succ, List.getElem_toArray, List.getElem_cons_zero, List.getElem_cons_succ]
    refine wpAnyH_ready (rs := [7]) (by kernel_rfl) (by simp) ?_
    refine AllReadyH.cons rfl (fun K hK => ?_) AllReadyH.nil
    go_simp
    refine (HT.out _).mono ?_
    rintro e w5 ⟨rfl, b5⟩
    refine hK.out _ _ ?_ (fun hH2 => ?_)
    · exact ⟨range_kept hH.1 b5, range_kept hH.2.1 b5, (HC.out _ (range_kept hH.1 b5) (range_kept hH.2.1 b5)).2.2.2.2.2.2.1, andThen hH.2.2.2 b5⟩
    clear hK K hH
    have hH := hH2
    clear hH2
    refine wpAnyH_take (i := 8) (v := ?v16) rfl (by kernel_rfl) (by kernel_rfl) (by kernel_rfl) (fun _ _ _ h => h) (Or.inl ⟨by rfl, ?hy16⟩) hH ?rest16
    case hy16 => intro w' hSw; (try dsimp only at hSw); go_simp; all_goals rfl
    simp only [Act.put, List.setIfInBounds_toArray, List.set_cons_zero, List.set_cons_succ, List.getElem_toArray, List.getElem_cons_zero, List.getElem_cons_succ]
    refine wpAnyH_take (i := 9) (v := ?v17) rfl (by kernel_rfl) (by kernel_rfl) (by kernel_rfl) (fun _ _ _ h => h) (Or.inl ⟨by rfl, ?hy17⟩) hH ?rest17
    case hy17 => intro w' hSw; (try dsimp only at hSw); go_simp; all_goals rfl
    simp only [Act.put, List.setIfInBounds_toArray, List.set_cons_zero, List.set_cons_succ, List.getElem_toArray, List.getElem_cons_zero, List.getElem_cons_succ]
    refine wpAnyH_take (i := 10) (v := ?v18) rfl (by kernel_rfl) (by kernel_rfl) (by kernel_rfl) (fun _ _ _ h => h) (Or.inl ⟨by rfl, ?hy18⟩) hH ?rest18
    case hy18 => intro w' hSw; (try dsimp only at hSw); go_simp; all_goals rfl
    simp only [Act.put, List.setIfInBounds_toArray, List.set_cons_zero, List.set_cons_succ, List.getElem_toArray, List.getElem_cons_zero, List.getElem_cons_succ]
    refine wpAnyH_done (by kernel_rfl) ?_ _
    have BD6 := hH.2.2.2
    have RD6 := hH.1
    have RE6 := hH.2.1
    clear hH
    obtain ⟨c0, c7, c9, r1, r2, r3, r4, r6, r7⟩ := HC.out _ RD6 RE6
    go_wp2_with (first | (refine wpList_load_mid rfl 25 _ rfl w.heap.size 0 rfl D _ RD6 Tryz.underlying25 rfl HL.out ?_) | (refine wpList_load_midG rfl 25 _ rfl w.heap.size 0 rfl D _ RD6 Tryz.underlying25 rfl HL.out ?_))
    refine (HB.out _).mono ?_
    rintro e w8 ⟨rfl, b8⟩
    have BD8 := andThen BD6 b8
    have RD8 := range_kept RD6 b8
    have RE8 := range_kept RE6 b8
    clear BD6 RD6 RE6 b8 c0 c7 c9 r1 r2 r3 r4 r6 r7
    obtain ⟨c0, c7, c9, r1, r2, r3, r4, r6, r7⟩ := HC.out _ RD8 RE8
    cases qb : S.x.behind x.p with
    | true =>
      have HF : Hid (108 = A) := by show _ = _; rw [← HA.out]; unfold refP; simp [show x.s = S.x.id by simpa using q1, show x.k ≠ 1 by simpa using q2, q3, q4, show x.l = 1 by simpa using qf, show S.x.ph ≠ 2 by simpa using q5, show lands x.k = S.x.fl by simpa using q6, q7, H78.out, qb]
      go_wp2
      go_ret
      exact ⟨by rw [← HF.out]; rfl, BD8⟩
    | false =>
    cases qk : (x.k == 7) with
    | false =>
      go_wp2
      refine wp_region_held_drew (S := fun w' : World => w'.rangeAt w.heap.size 0 D ∧ w'.rangeAt (w.heap.size + 1) 0 E ∧ w'.cell? ⟨w.heap.size + 1, 1, none⟩ = some (.int .i64 x.k) ∧ w'.cell? ⟨w.heap.size + 1, 7, none⟩ = some (.int .i64 x.c) ∧ Below w.heap.size w w') (by kernel_rfl) ?_ (fun hH => ?_)
      · exact ⟨range_kept RD8 (Below.drew (Below.refl _ _)), range_kept RE8 (Below.drew (Below.refl _ _)), (HC.out _ (range_kept RD8 (Below.drew (Below.refl _ _))) (range_kept RE8 (Below.drew (Below.refl _ _)))).2.2.2.1, (HC.out _ (range_kept RD8 (Below.drew (Below.refl _ _))) (range_kept RE8 (Below.drew (Below.refl _ _)))).2.2.2.2.2.2.2.2, Below.drew BD8⟩
      clear BD8 RD8 RE8 c0 c7 c9 r1 r2 r3 r4 r6 r7
      refine wpAnyH_take (i := 0) (v := ?v19) rfl (by kernel_rfl) (by kernel_rfl) (by kernel_rfl) (fun _ _ _ h => h) (Or.inl ⟨by rfl, ?hy19⟩) hH ?rest19
      case hy19 => intro w' hSw; (try dsimp only at hSw); go_simp; all_goals rfl
      simp only [Act.put, List.setIfInBounds_toArray, List.set_cons_zero, List.set_cons_succ, List.getElem_toArray, List.getElem_cons_zero]
      refine wpAnyH_take (i := 1) (v := ?v20) rfl (by kernel_rfl) (by kernel_rfl) (by kernel_rfl) (fun _ _ _ h => h) (Or.inl ⟨by rfl, ?hy20⟩) hH ?rest20
      case hy20 => intro w' hSw; (try dsimp only at hSw); go_simp; all_goals rfl
      simp only [Act.put, List.setIfInBounds_toArray, List.set_cons_zero, List.set_cons_succ, List.getElem_toArray, List.getElem_cons_zero, List.getElem_cons_succ]
      refine wpAnyH_take (i := 2) (v := ?v21) rfl (by kernel_rfl) (by kernel_rfl) (by kernel_rfl) (fun _ _ _ h => h) (Or.inl ⟨by rfl, ?hy21⟩) hH ?rest21
      case hy21 => intro w' hSw; (try dsimp only at hSw); go_simp; all_goals rfl
      simp only [Act.put, List.setIfInBounds_toArray, List.set_cons_zero, List.set_cons_succ, List.getElem_toArray, List.getElem_cons_zero, List.getElem_cons_succ]
      refine wpAnyH_take (i := 3) (v := ?v22) rfl (by kernel_rfl) (by kernel_rfl) (by kernel_rfl) (fun _ _ _ h => h) (Or.inl ⟨by rfl, ?hy22⟩) hH ?rest22
      case hy22 => intro w' hSw; (try dsimp only at hSw); go_simp; all_goals rfl
      simp only [Act.put, List.setIfInBounds_toArray, List.set_cons_zero, List.set_cons_succ, List.getElem_toArray, List.getElem_cons_zero, List.getElem_cons_succ]
      refine wpAnyH_take (i := 4) rfl (by kernel_rfl) (by kernel_rfl) (by kernel_rfl) (fun _ _ _ h => h) (Or.inr ⟨by rfl, rfl⟩) hH ?_
      simp only [Act.put, List.setIfInBounds_toArray, List.set_cons_zero, List.set_cons_succ, List.getElem_toArray, List.getElem_cons_zero, List.getElem_cons_succ]
      refine wpAnyH_take (i := 5) rfl (by kernel_rfl) (by kernel_rfl) (by kernel_rfl) (fun _ _ _ h => h) (Or.inr ⟨by rfl, rfl⟩) hH ?_
      simp only [Act.put, List.setIfInBounds_toArray, List.set_cons_zero, List.set_cons_succ, List.getElem_toArray, List.getElem_cons_zero, List.getElem_cons_succ]
      refine wpAnyH_take (i := 6) rfl (by kernel_rfl) (by kernel_rfl) (by kernel_rfl) (fun _ _ _ h => h) (Or.inr ⟨by rfl, rfl⟩) hH ?_
      simp only [Act.put, List.setIfInBounds_toArray, List.set_cons_zero, List.set_cons_succ, List.getElem_toArray, List.getElem_cons_zero, List.getElem_cons_succ]
      refine wpAnyH_take (i := 7) (v := ?v23) rfl (by kernel_rfl) (by kernel_rfl) (by kernel_rfl) (fun _ _ _ h => h) (Or.inl ⟨by rfl, ?hy23⟩) hH ?rest23
      case hy23 => intro w' hSw; (try dsimp only at hSw); go_simp; all_goals rfl
      simp only [Act.put, List.setIfInBounds_toArray, List.set_cons_zero, List.set_cons_succ, List.getElem_toArray, List.getElem_cons_zero, List.getElem_cons_succ]
      refine wpAnyH_take (i := 8) (v := ?v24) rfl (by kernel_rfl) (by kernel_rfl) (by kernel_rfl) (fun _ _ _ h => h) (Or.inl ⟨by rfl, ?hy24⟩) hH ?rest24
      case hy24 => intro w' hSw; (try dsimp only at hSw); go_simp; all_goals rfl
      simp only [Act.put, List.setIfInBounds_toArray, List.set_cons_zero, List.set_cons_succ, List.getElem_toArray, List.getElem_cons_zero, List.getElem_cons_succ]
      refine wpAnyH_take (i := 9) rfl (by kernel_rfl) (by kernel_rfl) (by kernel_rfl) (fun _ _ _ h => h) (Or.inr ⟨by rfl, rfl⟩) hH ?_
      simp only [Act.put, List.setIfInBounds_toArray, List.set_cons_zero, List.set_cons_succ, List.getElem_toArray, List.getElem_cons_zero, List.getElem_cons_succ]
      refine wpAnyH_take (i := 10) rfl (by kernel_rfl) (by kernel_rfl) (by kernel_rfl) (fun _ _ _ h => h) (Or.inr ⟨by rfl, rfl⟩) hH ?_
      simp only [Act.put, List.setIfInBounds_toArray, List.set_cons_zero, List.set_cons_succ, List.getElem_toArray, List.getElem_cons_zero, List.getElem_cons_succ]
      refine wpAnyH_take (i := 11) rfl (by kernel_rfl) (by kernel_rfl) (by kernel_rfl) (fun _ _ _ h => h) (Or.inr ⟨by rfl, rfl⟩) hH ?_
      simp only [Act.put, List.setIfInBounds_toArray, List.set_cons_zero, List.set_cons_succ, List.getElem_toArray, List.getElem_cons_zero, List.getElem_cons_succ]
      refine wpAnyH_take (i := 12) rfl (by kernel_rfl) (by kernel_rfl) (by kernel_rfl) (fun _ _ _ h => h) (Or.inr ⟨by rfl, rfl⟩) hH ?_
      simp only [Act.put, List.setIfInBounds_toArray, List.set_cons_zero, List.set_cons_succ, List.getElem_toArray, List.getElem_cons_zero, List.getElem_cons_succ]
      refine wpAnyH_take (i := 13) rfl (by kernel_rfl) (by kernel_rfl) (by kernel_rfl) (fun _ _ _ h => h) (Or.inr ⟨by rfl, rfl⟩) hH ?_
      simp only [Act.put, List.setIfInBounds_toArray, List.set_cons_zero, List.set_cons_succ, List.getElem_toArray, List.getElem_cons_zero, List.getElem_cons_succ]
      refine wpAnyH_take (i := 14) (v := ?v25) rfl (by kernel_rfl) (by kernel_rfl) (by kernel_rfl) (fun _ _ _ h => h) (Or.inl ⟨by rfl, ?hy25⟩) hH ?rest25
      case hy25 => intro w' hSw; (try dsimp only at hSw); go_simp; all_goals rfl
      simp only [Act.put, List.setIfInBounds_toArray, List.set_cons_zero, List.set_cons_succ, List.getElem_toArray, List.getElem_cons_zero, List.getElem_cons_succ]
      refine wpAnyH_take (i := 15) (v := ?v26) rfl (by kernel_rfl) (by kernel_rfl) (by kernel_rfl) (fun _ _ _ h => h) (Or.inl ⟨by rfl, ?hy26⟩) hH ?rest26
      case hy26 => intro w' hSw; (try dsimp only at hSw); go_simp; all_goals rfl
      simp only [Act.put, List.setIfInBounds_toArray, List.set_cons_zero, List.set_cons_succ, List.getElem_toArray, List.getElem_cons_zero, List.getElem_cons_succ]
      refine wpAnyH_done (by kernel_rfl) ?_ _
      have BF := hH.2.2.2.2
      clear hH
      have HF : Hid (0 = A) := by show _ = _; rw [← HA.out, refP_last (by simpa using q1) (by simpa using q2) q3 q4 (by rintro ⟨_, e⟩; exact absurd e (by simpa using q5)) (by simpa using q6) q7 H78.out (by rintro ⟨_, e⟩; rw [qb] at e; exact Bool.false_ne_true e), if_neg (by rintro ⟨e, _⟩; exact absurd e (by simpa using qk))]
      go_wp2
      go_ret
      exact ⟨by rw [← HF.out]; rfl, BF⟩
    | true =>
    cases qc : (x.c != 0) with
    | false =>
      go_wp2
      refine wp_region_held_drew (S := fun w' : World => w'.rangeAt w.heap.size 0 D ∧ w'.rangeAt (w.heap.size + 1) 0 E ∧ w'.cell? ⟨w.heap.size + 1, 1, none⟩ = some (.int .i64 x.k) ∧ w'.cell? ⟨w.heap.size + 1, 7, none⟩ = some (.int .i64 x.c) ∧ Below w.heap.size w w') (by kernel_rfl) ?_ (fun hH => ?_)
      · exact ⟨range_kept RD8 (Below.drew (Below.refl _ _)), range_kept RE8 (Below.drew (Below.refl _ _)), (HC.out _ (range_kept RD8 (Below.drew (Below.refl _ _))) (range_kept RE8 (Below.drew (Below.refl _ _)))).2.2.2.1, (HC.out _ (range_kept RD8 (Below.drew (Below.refl _ _))) (range_kept RE8 (Below.drew (Below.refl _ _)))).2.2.2.2.2.2.2.2, Below.drew BD8⟩
      clear BD8 RD8 RE8 c0 c7 c9 r1 r2 r3 r4 r6 r7
      refine wpAnyH_take (i := 0) (v := ?v27) rfl (by kernel_rfl) (by kernel_rfl) (by kernel_rfl) (fun _ _ _ h => h) (Or.inl ⟨by rfl, ?hy27⟩) hH ?rest27
      case hy27 => intro w' hSw; (try dsimp only at hSw); go_simp; all_goals rfl
      simp only [Act.put, List.setIfInBounds_toArray, List.set_cons_zero, List.set_cons_succ, List.getElem_toArray, List.getElem_cons_zero]
      refine wpAnyH_take (i := 1) (v := ?v28) rfl (by kernel_rfl) (by kernel_rfl) (by kernel_rfl) (fun _ _ _ h => h) (Or.inl ⟨by rfl, ?hy28⟩) hH ?rest28
      case hy28 => intro w' hSw; (try dsimp only at hSw); go_simp; all_goals rfl
      simp only [Act.put, List.setIfInBounds_toArray, List.set_cons_zero, List.set_cons_succ, List.getElem_toArray, List.getElem_cons_zero, List.getElem_cons_succ]
      refine wpAnyH_take (i := 2) (v := ?v29) rfl (by kernel_rfl) (by kernel_rfl) (by kernel_rfl) (fun _ _ _ h => h) (Or.inl ⟨by rfl, ?hy29⟩) hH ?rest29
      case hy29 => intro w' hSw; (try dsimp only at hSw); go_simp; all_goals rfl
      simp only [Act.put, List.setIfInBounds_toArray, List.set_cons_zero, List.set_cons_succ, List.getElem_toArray, List.getElem_cons_zero, List.getElem_cons_succ]
      refine wpAnyH_take (i := 3) (v := ?v30) rfl (by kernel_rfl) (by kernel_rfl) (by kernel_rfl) (fun _ _ _ h => h) (Or.inl ⟨by rfl, ?hy30⟩) hH ?rest30
      case hy30 => intro w' hSw; (try dsimp only at hSw); go_simp; all_goals rfl
      simp only [Act.put, List.setIfInBounds_toArray, List.set_cons_zero, List.set_cons_succ, List.getElem_toArray, List.getElem_cons_zero, List.getElem_cons_succ]
      refine wpAnyH_take (i := 4) (v := ?v31) rfl (by kernel_rfl) (by kernel_rfl) (by kernel_rfl) (fun _ _ _ h => h) (Or.inl ⟨by rfl, ?hy31⟩) hH ?rest31
      case hy31 => intro w' hSw; (try dsimp only at hSw); go_simp; all_goals rfl
      simp only [Act.put, List.setIfInBounds_toArray, List.set_cons_zero, List.set_cons_succ, List.getElem_toArray, List.getElem_cons_zero, List.getElem_cons_succ]
      refine wpAnyH_take (i := 5) (v := ?v32) rfl (by kernel_rfl) (by kernel_rfl) (by kernel_rfl) (fun _ _ _ h => h) (Or.inl ⟨by rfl, ?hy32⟩) hH ?rest32
      case hy32 => intro w' hSw; (try dsimp only at hSw); go_simp; all_goals rfl
      simp only [Act.put, List.setIfInBounds_toArray, List.set_cons_zero, List.set_cons_succ, List.getElem_toArray, List.getElem_cons_zero, List.getElem_cons_succ]
      refine wpAnyH_take (i := 6) (v := ?v33) rfl (by kernel_rfl) (by kernel_rfl) (by kernel_rfl) (fun _ _ _ h => h) (Or.inl ⟨by rfl, ?hy33⟩) hH ?rest33
      case hy33 => intro w' hSw; (try dsimp only at hSw); go_simp; all_goals rfl
      simp only [Act.put, List.setIfInBounds_toArray, List.set_cons_zero, List.set_cons_succ, List.getElem_toArray, List.getElem_cons_zero, List.getElem_cons_succ]
      refine wpAnyH_take (i := 7) (v := ?v34) rfl (by kernel_rfl) (by kernel_rfl) (by kernel_rfl) (fun _ _ _ h => h) (Or.inl ⟨by rfl, ?hy34⟩) hH ?rest34
      case hy34 => intro w' hSw; (try dsimp only at hSw); go_simp; all_goals rfl
      simp only [Act.put, List.setIfInBounds_toArray, List.set_cons_zero, List.set_cons_succ, List.getElem_toArray, List.getElem_cons_zero, List.getElem_cons_succ]
      refine wpAnyH_take (i := 8) (v := ?v35) rfl (by kernel_rfl) (by kernel_rfl) (by kernel_rfl) (fun _ _ _ h => h) (Or.inl ⟨by rfl, ?hy35⟩) hH ?rest35
      case hy35 => intro w' hSw; (try dsimp only at hSw); go_simp; all_goals rfl
      simp only [Act.put, List.setIfInBounds_toArray, List.set_cons_zero, List.set_cons_succ, List.getElem_toArray, List.getElem_cons_zero, List.getElem_cons_succ]
      refine wpAnyH_take (i := 9) rfl (by kernel_rfl) (by kernel_rfl) (by kernel_rfl) (fun _ _ _ h => h) (Or.inr ⟨by rfl, rfl⟩) hH ?_
      simp only [Act.put, List.setIfInBounds_toArray, List.set_cons_zero, List.set_cons_succ, List.getElem_toArray, List.getElem_cons_zero, List.getElem_cons_succ]
      refine wpAnyH_take (i := 10) rfl (by kernel_rfl) (by kernel_rfl) (by kernel_rfl) (fun _ _ _ h => h) (Or.inr ⟨by rfl, rfl⟩) hH ?_
      simp only [Act.put, List.setIfInBounds_toArray, List.set_cons_zero, List.set_cons_succ, List.getElem_toArray, List.getElem_cons_zero, List.getElem_cons_succ]
      refine wpAnyH_take (i := 11) rfl (by kernel_rfl) (by kernel_rfl) (by kernel_rfl) (fun _ _ _ h => h) (Or.inr ⟨by rfl, rfl⟩) hH ?_
      simp only [Act.put, List.setIfInBounds_toArray, List.set_cons_zero, List.set_cons_succ, List.getElem_toArray, List.getElem_cons_zero, List.getElem_cons_succ]
      refine wpAnyH_take (i := 12) rfl (by kernel_rfl) (by kernel_rfl) (by kernel_rfl) (fun _ _ _ h => h) (Or.inr ⟨by rfl, rfl⟩) hH ?_
      simp only [Act.put, List.setIfInBounds_toArray, List.set_cons_zero, List.set_cons_succ, List.getElem_toArray, List.getElem_cons_zero, List.getElem_cons_succ]
      refine wpAnyH_take (i := 13) rfl (by kernel_rfl) (by kernel_rfl) (by kernel_rfl) (fun _ _ _ h => h) (Or.inr ⟨by rfl, rfl⟩) hH ?_
      simp only [Act.put, List.setIfInBounds_toArray, List.set_cons_zero, List.set_cons_succ, List.getElem_toArray, List.getElem_cons_zero, List.getElem_cons_succ]
      refine wpAnyH_take (i := 14) (v := ?v36) rfl (by kernel_rfl) (by kernel_rfl) (by kernel_rfl) (fun _ _ _ h => h) (Or.inl ⟨by rfl, ?hy36⟩) hH ?rest36
      case hy36 => intro w' hSw; (try dsimp only at hSw); go_simp; all_goals rfl
      simp only [Act.put, List.setIfInBounds_toArray, List.set_cons_zero, List.set_cons_succ, List.getElem_toArray, List.getElem_cons_zero, List.getElem_cons_succ]
      refine wpAnyH_take (i := 15) (v := ?v37) rfl (by kernel_rfl) (by kernel_rfl) (by kernel_rfl) (fun _ _ _ h => h) (Or.inl ⟨by rfl, ?hy37⟩) hH ?rest37
      case hy37 => intro w' hSw; (try dsimp only at hSw); go_simp; all_goals rfl
      simp only [Act.put, List.setIfInBounds_toArray, List.set_cons_zero, List.set_cons_succ, List.getElem_toArray, List.getElem_cons_zero, List.getElem_cons_succ]
      refine wpAnyH_done (by kernel_rfl) ?_ _
      have BF := hH.2.2.2.2
      clear hH
      have HF : Hid (0 = A) := by show _ = _; rw [← HA.out, refP_last (by simpa using q1) (by simpa using q2) q3 q4 (by rintro ⟨_, e⟩; exact absurd e (by simpa using q5)) (by simpa using q6) q7 H78.out (by rintro ⟨_, e⟩; rw [qb] at e; exact Bool.false_ne_true e), if_neg (by rintro ⟨_, e, _⟩; exact absurd e (by simpa using qc))]
      go_wp2
      go_ret
      exact ⟨by rw [← HF.out]; rfl, BF⟩
    | true =>
    cases qo : (x.c != S.x.outcome) with
    | false =>
      go_wp2
      refine wp_region_held_drew (S := fun w' : World => w'.rangeAt w.heap.size 0 D ∧ w'.rangeAt (w.heap.size + 1) 0 E ∧ w'.cell? ⟨w.heap.size + 1, 1, none⟩ = some (.int .i64 x.k) ∧ w'.cell? ⟨w.heap.size + 1, 7, none⟩ = some (.int .i64 x.c) ∧ Below w.heap.size w w') (by kernel_rfl) ?_ (fun hH => ?_)
      · exact ⟨range_kept RD8 (Below.drew (Below.refl _ _)), range_kept RE8 (Below.drew (Below.refl _ _)), (HC.out _ (range_kept RD8 (Below.drew (Below.refl _ _))) (range_kept RE8 (Below.drew (Below.refl _ _)))).2.2.2.1, (HC.out _ (range_kept RD8 (Below.drew (Below.refl _ _))) (range_kept RE8 (Below.drew (Below.refl _ _)))).2.2.2.2.2.2.2.2, Below.drew BD8⟩
      clear BD8 RD8 RE8 c0 c7 c9 r1 r2 r3 r4 r6 r7
      refine wpAnyH_take (i := 0) (v := ?v38) rfl (by kernel_rfl) (by kernel_rfl) (by kernel_rfl) (fun _ _ _ h => h) (Or.inl ⟨by rfl, ?hy38⟩) hH ?rest38
      case hy38 => intro w' hSw; (try dsimp only at hSw); go_simp; all_goals rfl
      simp only [Act.put, List.setIfInBounds_toArray, List.set_cons_zero, List.set_cons_succ, List.getElem_toArray, List.getElem_cons_zero]
      refine wpAnyH_take (i := 1) (v := ?v39) rfl (by kernel_rfl) (by kernel_rfl) (by kernel_rfl) (fun _ _ _ h => h) (Or.inl ⟨by rfl, ?hy39⟩) hH ?rest39
      case hy39 => intro w' hSw; (try dsimp only at hSw); go_simp; all_goals rfl
      simp only [Act.put, List.setIfInBounds_toArray, List.set_cons_zero, List.set_cons_succ, List.getElem_toArray, List.getElem_cons_zero, List.getElem_cons_succ]
      refine wpAnyH_take (i := 2) (v := ?v40) rfl (by kernel_rfl) (by kernel_rfl) (by kernel_rfl) (fun _ _ _ h => h) (Or.inl ⟨by rfl, ?hy40⟩) hH ?rest40
      case hy40 => intro w' hSw; (try dsimp only at hSw); go_simp; all_goals rfl
      simp only [Act.put, List.setIfInBounds_toArray, List.set_cons_zero, List.set_cons_succ, List.getElem_toArray, List.getElem_cons_zero, List.getElem_cons_succ]
      refine wpAnyH_take (i := 3) (v := ?v41) rfl (by kernel_rfl) (by kernel_rfl) (by kernel_rfl) (fun _ _ _ h => h) (Or.inl ⟨by rfl, ?hy41⟩) hH ?rest41
      case hy41 => intro w' hSw; (try dsimp only at hSw); go_simp; all_goals rfl
      simp only [Act.put, List.setIfInBounds_toArray, List.set_cons_zero, List.set_cons_succ, List.getElem_toArray, List.getElem_cons_zero, List.getElem_cons_succ]
      refine wpAnyH_take (i := 4) (v := ?v42) rfl (by kernel_rfl) (by kernel_rfl) (by kernel_rfl) (fun _ _ _ h => h) (Or.inl ⟨by rfl, ?hy42⟩) hH ?rest42
      case hy42 => intro w' hSw; (try dsimp only at hSw); go_simp; all_goals rfl
      simp only [Act.put, List.setIfInBounds_toArray, List.set_cons_zero, List.set_cons_succ, List.getElem_toArray, List.getElem_cons_zero, List.getElem_cons_succ]
      refine wpAnyH_take (i := 5) (v := ?v43) rfl (by kernel_rfl) (by kernel_rfl) (by kernel_rfl) (fun _ _ _ h => h) (Or.inl ⟨by rfl, ?hy43⟩) hH ?rest43
      case hy43 => intro w' hSw; (try dsimp only at hSw); go_simp; all_goals rfl
      simp only [Act.put, List.setIfInBounds_toArray, List.set_cons_zero, List.set_cons_succ, List.getElem_toArray, List.getElem_cons_zero, List.getElem_cons_succ]
      refine wpAnyH_take (i := 6) (v := ?v44) rfl (by kernel_rfl) (by kernel_rfl) (by kernel_rfl) (fun _ _ _ h => h) (Or.inl ⟨by rfl, ?hy44⟩) hH ?rest44
      case hy44 => intro w' hSw; (try dsimp only at hSw); go_simp; all_goals rfl
      simp only [Act.put, List.setIfInBounds_toArray, List.set_cons_zero, List.set_cons_succ, List.getElem_toArray, List.getElem_cons_zero, List.getElem_cons_succ]
      refine wpAnyH_take (i := 7) (v := ?v45) rfl (by kernel_rfl) (by kernel_rfl) (by kernel_rfl) (fun _ _ _ h => h) (Or.inl ⟨by rfl, ?hy45⟩) hH ?rest45
      case hy45 => intro w' hSw; (try dsimp only at hSw); go_simp; all_goals rfl
      simp only [Act.put, List.setIfInBounds_toArray, List.set_cons_zero, List.set_cons_succ, List.getElem_toArray, List.getElem_cons_zero, List.getElem_cons_succ]
      refine wpAnyH_take (i := 8) (v := ?v46) rfl (by kernel_rfl) (by kernel_rfl) (by kernel_rfl) (fun _ _ _ h => h) (Or.inl ⟨by rfl, ?hy46⟩) hH ?rest46
      case hy46 => intro w' hSw; (try dsimp only at hSw); go_simp; all_goals rfl
      simp only [Act.put, List.setIfInBounds_toArray, List.set_cons_zero, List.set_cons_succ, List.getElem_toArray, List.getElem_cons_zero, List.getElem_cons_succ]
      refine wpAnyH_take (i := 9) (v := ?v47) rfl (by kernel_rfl) (by kernel_rfl) (by kernel_rfl) (fun _ _ _ h => h) (Or.inl ⟨by rfl, ?hy47⟩) hH ?rest47
      case hy47 => intro w' hSw; (try dsimp only at hSw); go_simp; all_goals rfl
      simp only [Act.put, List.setIfInBounds_toArray, List.set_cons_zero, List.set_cons_succ, List.getElem_toArray, List.getElem_cons_zero, List.getElem_cons_succ]
      refine wpAnyH_take (i := 10) (v := ?v48) rfl (by kernel_rfl) (by kernel_rfl) (by kernel_rfl) (fun _ _ _ h => h) (Or.inl ⟨by rfl, ?hy48⟩) hH ?rest48
      case hy48 => intro w' hSw; (try dsimp only at hSw); go_simp; all_goals rfl
      simp only [Act.put, List.setIfInBounds_toArray, List.set_cons_zero, List.set_cons_succ, List.getElem_toArray, List.getElem_cons_zero, List.getElem_cons_succ]
      refine wpAnyH_take (i := 11) rfl (by kernel_rfl) (by kernel_rfl) (by kernel_rfl) (fun _ _ _ h => h) (yieldsIf_load_mid (by rfl) _ _ rfl _ _ rfl D _ (fun w' hSw => hSw.1) Tryz.underlying25 rfl HL.out) hH ?_
      simp only [Act.put, List.setIfInBounds_toArray, List.set_cons_zero, List.set_cons_succ, List.getElem_toArray, List.getElem_cons_zero, List.getElem_cons_succ]
      refine wpAnyH_ready (rs := [12]) (by kernel_rfl) (by simp) ?_
      refine AllReadyH.cons rfl (fun K hK => ?_) AllReadyH.nil
      go_simp
      refine (HU.out _).mono ?_
      rintro e w9 ⟨rfl, b9⟩
      refine hK.out _ _ ?_ (fun hH2 => ?_)
      · exact ⟨range_kept hH.1 b9, range_kept hH.2.1 b9, (HC.out _ (range_kept hH.1 b9) (range_kept hH.2.1 b9)).2.2.2.1, (HC.out _ (range_kept hH.1 b9) (range_kept hH.2.1 b9)).2.2.2.2.2.2.2.2, andThen hH.2.2.2.2 b9⟩
      clear hK K hH
      have hH := hH2
      clear hH2
      refine wpAnyH_take (i := 13) (v := ?v49) rfl (by kernel_rfl) (by kernel_rfl) (by kernel_rfl) (fun _ _ _ h => h) (Or.inl ⟨by rfl, ?hy49⟩) hH ?rest49
      case hy49 => intro w' hSw; (try dsimp only at hSw); go_simp; all_goals rfl
      simp only [Act.put, List.setIfInBounds_toArray, List.set_cons_zero, List.set_cons_succ, List.getElem_toArray, List.getElem_cons_zero, List.getElem_cons_succ]
      refine wpAnyH_take (i := 14) (v := ?v50) rfl (by kernel_rfl) (by kernel_rfl) (by kernel_rfl) (fun _ _ _ h => h) (Or.inl ⟨by rfl, ?hy50⟩) hH ?rest50
      case hy50 => intro w' hSw; (try dsimp only at hSw); go_simp; all_goals rfl
      simp only [Act.put, List.setIfInBounds_toArray, List.set_cons_zero, List.set_cons_succ, List.getElem_toArray, List.getElem_cons_zero, List.getElem_cons_succ]
      refine wpAnyH_take (i := 15) (v := ?v51) rfl (by kernel_rfl) (by kernel_rfl) (by kernel_rfl) (fun _ _ _ h => h) (Or.inl ⟨by rfl, ?hy51⟩) hH ?rest51
      case hy51 => intro w' hSw; (try dsimp only at hSw); go_simp; all_goals rfl
      simp only [Act.put, List.setIfInBounds_toArray, List.set_cons_zero, List.set_cons_succ, List.getElem_toArray, List.getElem_cons_zero, List.getElem_cons_succ]
      refine wpAnyH_done (by kernel_rfl) ?_ _
      have BF := hH.2.2.2.2
      clear hH
      have HF : Hid (0 = A) := by show _ = _; rw [← HA.out, refP_last (by simpa using q1) (by simpa using q2) q3 q4 (by rintro ⟨_, e⟩; exact absurd e (by simpa using q5)) (by simpa using q6) q7 H78.out (by rintro ⟨_, e⟩; rw [qb] at e; exact Bool.false_ne_true e), if_neg (by rintro ⟨_, _, e⟩; exact absurd e (by simpa using qo))]
      go_wp2
      go_ret
      exact ⟨by rw [← HF.out]; rfl, BF⟩
    | true =>
      go_wp2
      refine wp_region_held_drew (S := fun w' : World => w'.rangeAt w.heap.size 0 D ∧ w'.rangeAt (w.heap.size + 1) 0 E ∧ w'.cell? ⟨w.heap.size + 1, 1, none⟩ = some (.int .i64 x.k) ∧ w'.cell? ⟨w.heap.size + 1, 7, none⟩ = some (.int .i64 x.c) ∧ Below w.heap.size w w') (by kernel_rfl) ?_ (fun hH => ?_)
      · exact ⟨range_kept RD8 (Below.drew (Below.refl _ _)), range_kept RE8 (Below.drew (Below.refl _ _)), (HC.out _ (range_kept RD8 (Below.drew (Below.refl _ _))) (range_kept RE8 (Below.drew (Below.refl _ _)))).2.2.2.1, (HC.out _ (range_kept RD8 (Below.drew (Below.refl _ _))) (range_kept RE8 (Below.drew (Below.refl _ _)))).2.2.2.2.2.2.2.2, Below.drew BD8⟩
      clear BD8 RD8 RE8 c0 c7 c9 r1 r2 r3 r4 r6 r7
      refine wpAnyH_take (i := 0) (v := ?v52) rfl (by kernel_rfl) (by kernel_rfl) (by kernel_rfl) (fun _ _ _ h => h) (Or.inl ⟨by rfl, ?hy52⟩) hH ?rest52
      case hy52 => intro w' hSw; (try dsimp only at hSw); go_simp; all_goals rfl
      simp only [Act.put, List.setIfInBounds_toArray, List.set_cons_zero, List.set_cons_succ, List.getElem_toArray, List.getElem_cons_zero]
      refine wpAnyH_take (i := 1) (v := ?v53) rfl (by kernel_rfl) (by kernel_rfl) (by kernel_rfl) (fun _ _ _ h => h) (Or.inl ⟨by rfl, ?hy53⟩) hH ?rest53
      case hy53 => intro w' hSw; (try dsimp only at hSw); go_simp; all_goals rfl
      simp only [Act.put, List.setIfInBounds_toArray, List.set_cons_zero, List.set_cons_succ, List.getElem_toArray, List.getElem_cons_zero, List.getElem_cons_succ]
      refine wpAnyH_take (i := 2) (v := ?v54) rfl (by kernel_rfl) (by kernel_rfl) (by kernel_rfl) (fun _ _ _ h => h) (Or.inl ⟨by rfl, ?hy54⟩) hH ?rest54
      case hy54 => intro w' hSw; (try dsimp only at hSw); go_simp; all_goals rfl
      simp only [Act.put, List.setIfInBounds_toArray, List.set_cons_zero, List.set_cons_succ, List.getElem_toArray, List.getElem_cons_zero, List.getElem_cons_succ]
      refine wpAnyH_take (i := 3) (v := ?v55) rfl (by kernel_rfl) (by kernel_rfl) (by kernel_rfl) (fun _ _ _ h => h) (Or.inl ⟨by rfl, ?hy55⟩) hH ?rest55
      case hy55 => intro w' hSw; (try dsimp only at hSw); go_simp; all_goals rfl
      simp only [Act.put, List.setIfInBounds_toArray, List.set_cons_zero, List.set_cons_succ, List.getElem_toArray, List.getElem_cons_zero, List.getElem_cons_succ]
      refine wpAnyH_take (i := 4) (v := ?v56) rfl (by kernel_rfl) (by kernel_rfl) (by kernel_rfl) (fun _ _ _ h => h) (Or.inl ⟨by rfl, ?hy56⟩) hH ?rest56
      case hy56 => intro w' hSw; (try dsimp only at hSw); go_simp; all_goals rfl
      simp only [Act.put, List.setIfInBounds_toArray, List.set_cons_zero, List.set_cons_succ, List.getElem_toArray, List.getElem_cons_zero, List.getElem_cons_succ]
      refine wpAnyH_take (i := 5) (v := ?v57) rfl (by kernel_rfl) (by kernel_rfl) (by kernel_rfl) (fun _ _ _ h => h) (Or.inl ⟨by rfl, ?hy57⟩) hH ?rest57
      case hy57 => intro w' hSw; (try dsimp only at hSw); go_simp; all_goals rfl
      simp only [Act.put, List.setIfInBounds_toArray, List.set_cons_zero, List.set_cons_succ, List.getElem_toArray, List.getElem_cons_zero, List.getElem_cons_succ]
      refine wpAnyH_take (i := 6) (v := ?v58) rfl (by kernel_rfl) (by kernel_rfl) (by kernel_rfl) (fun _ _ _ h => h) (Or.inl ⟨by rfl, ?hy58⟩) hH ?rest58
      case hy58 => intro w' hSw; (try dsimp only at hSw); go_simp; all_goals rfl
      simp only [Act.put, List.setIfInBounds_toArray, List.set_cons_zero, List.set_cons_succ, List.getElem_toArray, List.getElem_cons_zero, List.getElem_cons_succ]
      refine wpAnyH_take (i := 7) (v := ?v59) rfl (by kernel_rfl) (by kernel_rfl) (by kernel_rfl) (fun _ _ _ h => h) (Or.inl ⟨by rfl, ?hy59⟩) hH ?rest59
      case hy59 => intro w' hSw; (try dsimp only at hSw); go_simp; all_goals rfl
      simp only [Act.put, List.setIfInBounds_toArray, List.set_cons_zero, List.set_cons_succ, List.getElem_toArray, List.getElem_cons_zero, List.getElem_cons_succ]
      refine wpAnyH_take (i := 8) (v := ?v60) rfl (by kernel_rfl) (by kernel_rfl) (by kernel_rfl) (fun _ _ _ h => h) (Or.inl ⟨by rfl, ?hy60⟩) hH ?rest60
      case hy60 => intro w' hSw; (try dsimp only at hSw); go_simp; all_goals rfl
      simp only [Act.put, List.setIfInBounds_toArray, List.set_cons_zero, List.set_cons_succ, List.getElem_toArray, List.getElem_cons_zero, List.getElem_cons_succ]
      refine wpAnyH_take (i := 9) (v := ?v61) rfl (by kernel_rfl) (by kernel_rfl) (by kernel_rfl) (fun _ _ _ h => h) (Or.inl ⟨by rfl, ?hy61⟩) hH ?rest61
      case hy61 => intro w' hSw; (try dsimp only at hSw); go_simp; all_goals rfl
      simp only [Act.put, List.setIfInBounds_toArray, List.set_cons_zero, List.set_cons_succ, List.getElem_toArray, List.getElem_cons_zero, List.getElem_cons_succ]
      refine wpAnyH_take (i := 10) (v := ?v62) rfl (by kernel_rfl) (by kernel_rfl) (by kernel_rfl) (fun _ _ _ h => h) (Or.inl ⟨by rfl, ?hy62⟩) hH ?rest62
      case hy62 => intro w' hSw; (try dsimp only at hSw); go_simp; all_goals rfl
      simp only [Act.put, List.setIfInBounds_toArray, List.set_cons_zero, List.set_cons_succ, List.getElem_toArray, List.getElem_cons_zero, List.getElem_cons_succ]
      refine wpAnyH_take (i := 11) rfl (by kernel_rfl) (by kernel_rfl) (by kernel_rfl) (fun _ _ _ h => h) (yieldsIf_load_mid (by rfl) _ _ rfl _ _ rfl D _ (fun w' hSw => hSw.1) Tryz.underlying25 rfl HL.out) hH ?_
      simp only [Act.put, List.setIfInBounds_toArray, List.set_cons_zero, List.set_cons_succ, List.getElem_toArray, List.getElem_cons_zero, List.getElem_cons_succ]
      refine wpAnyH_ready (rs := [12]) (by kernel_rfl) (by simp) ?_
      refine AllReadyH.cons rfl (fun K hK => ?_) AllReadyH.nil
      go_simp
      refine (HU.out _).mono ?_
      rintro e w9 ⟨rfl, b9⟩
      refine hK.out _ _ ?_ (fun hH2 => ?_)
      · exact ⟨range_kept hH.1 b9, range_kept hH.2.1 b9, (HC.out _ (range_kept hH.1 b9) (range_kept hH.2.1 b9)).2.2.2.1, (HC.out _ (range_kept hH.1 b9) (range_kept hH.2.1 b9)).2.2.2.2.2.2.2.2, andThen hH.2.2.2.2 b9⟩
      clear hK K hH
      have hH := hH2
      clear hH2
      refine wpAnyH_take (i := 13) (v := ?v63) rfl (by kernel_rfl) (by kernel_rfl) (by kernel_rfl) (fun _ _ _ h => h) (Or.inl ⟨by rfl, ?hy63⟩) hH ?rest63
      case hy63 => intro w' hSw; (try dsimp only at hSw); go_simp; all_goals rfl
      simp only [Act.put, List.setIfInBounds_toArray, List.set_cons_zero, List.set_cons_succ, List.getElem_toArray, List.getElem_cons_zero, List.getElem_cons_succ]
      refine wpAnyH_take (i := 14) (v := ?v64) rfl (by kernel_rfl) (by kernel_rfl) (by kernel_rfl) (fun _ _ _ h => h) (Or.inl ⟨by rfl, ?hy64⟩) hH ?rest64
      case hy64 => intro w' hSw; (try dsimp only at hSw); go_simp; all_goals rfl
      simp only [Act.put, List.setIfInBounds_toArray, List.set_cons_zero, List.set_cons_succ, List.getElem_toArray, List.getElem_cons_zero, List.getElem_cons_succ]
      refine wpAnyH_take (i := 15) (v := ?v65) rfl (by kernel_rfl) (by kernel_rfl) (by kernel_rfl) (fun _ _ _ h => h) (Or.inl ⟨by rfl, ?hy65⟩) hH ?rest65
      case hy65 => intro w' hSw; (try dsimp only at hSw); go_simp; all_goals rfl
      simp only [Act.put, List.setIfInBounds_toArray, List.set_cons_zero, List.set_cons_succ, List.getElem_toArray, List.getElem_cons_zero, List.getElem_cons_succ]
      refine wpAnyH_done (by kernel_rfl) ?_ _
      have BF := hH.2.2.2.2
      clear hH
      have HF : Hid (109 = A) := by show _ = _; rw [← HA.out, refP_last (by simpa using q1) (by simpa using q2) q3 q4 (by rintro ⟨_, e⟩; exact absurd e (by simpa using q5)) (by simpa using q6) q7 H78.out (by rintro ⟨_, e⟩; rw [qb] at e; exact Bool.false_ne_true e), if_pos ⟨by simpa using qk, by simpa using qc, by simpa using qo⟩]
      go_wp2
      go_ret
      exact ⟨by rw [← HF.out]; rfl, BF⟩
  | false =>
    clear q8
    go_wp2
    refine wp_region_held_drew (S := fun w' : World => w'.rangeAt w.heap.size 0 D ∧ w'.rangeAt (w.heap.size + 1) 0 E ∧ w'.cell? ⟨w.heap.size + 1, 4, none⟩ = some (.int .i64 x.t) ∧ Below w.heap.size w w') (by kernel_rfl) ?_ (fun hH => ?_)
    · exact ⟨range_kept RD4 (Below.drew (Below.refl _ _)), range_kept RE4 (Below.drew (Below.refl _ _)), (HC.out _ (range_kept RD4 (Below.drew (Below.refl _ _))) (range_kept RE4 (Below.drew (Below.refl _ _)))).2.2.2.2.2.2.1, Below.drew BD4⟩
    clear BD4 RD4 RE4 c0 c7 c9 r1 r2 r3 r4 r6 r7
    refine wpAnyH_take (i := 0) (v := ?v66) rfl (by kernel_rfl) (by kernel_rfl) (by kernel_rfl) (fun _ _ _ h => h) (Or.inl ⟨by rfl, ?hy66⟩) hH ?rest66
    case hy66 => intro w' hSw; (try dsimp only at hSw); go_simp; all_goals rfl
    simp only [Act.put, List.setIfInBounds_toArray, List.set_cons_zero, List.set_cons_succ, List.getElem_toArray, List.getElem_cons_zero]
    refine wpAnyH_take (i := 1) (v := ?v67) rfl (by kernel_rfl) (by kernel_rfl) (by kernel_rfl) (fun _ _ _ h => h) (Or.inl ⟨by rfl, ?hy67⟩) hH ?rest67
    case hy67 => intro w' hSw; (try dsimp only at hSw); go_simp; all_goals rfl
    simp only [Act.put, List.setIfInBounds_toArray, List.set_cons_zero, List.set_cons_succ, List.getElem_toArray, List.getElem_cons_zero, List.getElem_cons_succ]
    refine wpAnyH_take (i := 2) (v := ?v68) rfl (by kernel_rfl) (by kernel_rfl) (by kernel_rfl) (fun _ _ _ h => h) (Or.inl ⟨by rfl, ?hy68⟩) hH ?rest68
    case hy68 => intro w' hSw; (try dsimp only at hSw); go_simp; all_goals rfl
    simp only [Act.put, List.setIfInBounds_toArray, List.set_cons_zero, List.set_cons_succ, List.getElem_toArray, List.getElem_cons_zero, List.getElem_cons_succ]
    refine wpAnyH_take (i := 3) (v := ?v69) rfl (by kernel_rfl) (by kernel_rfl) (by kernel_rfl) (fun _ _ _ h => h) (Or.inl ⟨by rfl, ?hy69⟩) hH ?rest69
    case hy69 => intro w' hSw; (try dsimp only at hSw); go_simp; all_goals rfl
    simp only [Act.put, List.setIfInBounds_toArray, List.set_cons_zero, List.set_cons_succ, List.getElem_toArray, List.getElem_cons_zero, List.getElem_cons_succ]
    refine wpAnyH_take (i := 4) rfl (by kernel_rfl) (by kernel_rfl) (by kernel_rfl) (fun _ _ _ h => h) (Or.inr ⟨by rfl, rfl⟩) hH ?_
    simp only [Act.put, List.setIfInBounds_toArray, List.set_cons_zero, List.set_cons_succ, List.getElem_toArray, List.getElem_cons_zero, List.getElem_cons_succ]
    refine wpAnyH_take (i := 5) rfl (by kernel_rfl) (by kernel_rfl) (by kernel_rfl) (fun _ _ _ h => h) (Or.inr ⟨by rfl, rfl⟩) hH ?_
    simp only [Act.put, List.setIfInBounds_toArray, List.set_cons_zero, List.set_cons_succ, List.getElem_toArray, List.getElem_cons_zero, List.getElem_cons_succ]
    refine wpAnyH_take (i := 6) rfl (by kernel_rfl) (by kernel_rfl) (by kernel_rfl) (fun _ _ _ h => h) (Or.inr ⟨by rfl, rfl⟩) hH ?_
    simp only [Act.put, List.setIfInBounds_toArray, List.set_cons_zero, List.set_cons_succ, List.getElem_toArray, List.getElem_cons_zero, List.getElem_cons_succ]
    refine wpAnyH_take (i := 7) rfl (by kernel_rfl) (by kernel_rfl) (by kernel_rfl) (fun _ _ _ h => h) (Or.inr ⟨by rfl, rfl⟩) hH ?_
    simp only [Act.put, List.setIfInBounds_toArray, List.set_cons_zero, List.set_cons_succ, List.getElem_toArray, List.getElem_cons_zero, List.getElem_cons_succ]
    refine wpAnyH_take (i := 8) rfl (by kernel_rfl) (by kernel_rfl) (by kernel_rfl) (fun _ _ _ h => h) (Or.inr ⟨by rfl, rfl⟩) hH ?_
    simp only [Act.put, List.setIfInBounds_toArray, List.set_cons_zero, List.set_cons_succ, List.getElem_toArray, List.getElem_cons_zero, List.getElem_cons_succ]
    refine wpAnyH_take (i := 9) (v := ?v70) rfl (by kernel_rfl) (by kernel_rfl) (by kernel_rfl) (fun _ _ _ h => h) (Or.inl ⟨by rfl, ?hy70⟩) hH ?rest70
    case hy70 => intro w' hSw; (try dsimp only at hSw); go_simp; all_goals rfl
    simp only [Act.put, List.setIfInBounds_toArray, List.set_cons_zero, List.set_cons_succ, List.getElem_toArray, List.getElem_cons_zero, List.getElem_cons_succ]
    refine wpAnyH_take (i := 10) (v := ?v71) rfl (by kernel_rfl) (by kernel_rfl) (by kernel_rfl) (fun _ _ _ h => h) (Or.inl ⟨by rfl, ?hy71⟩) hH ?rest71
    case hy71 => intro w' hSw; (try dsimp only at hSw); go_simp; all_goals rfl
    simp only [Act.put, List.setIfInBounds_toArray, List.set_cons_zero, List.set_cons_succ, List.getElem_toArray, List.getElem_cons_zero, List.getElem_cons_succ]
    refine wpAnyH_done (by kernel_rfl) ?_ _
    have BD6 := hH.2.2.2
    have RD6 := hH.1
    have RE6 := hH.2.1
    clear hH
    obtain ⟨c0, c7, c9, r1, r2, r3, r4, r6, r7⟩ := HC.out _ RD6 RE6
    go_wp2_with (first | (refine wpList_load_mid rfl 25 _ rfl w.heap.size 0 rfl D _ RD6 Tryz.underlying25 rfl HL.out ?_) | (refine wpList_load_midG rfl 25 _ rfl w.heap.size 0 rfl D _ RD6 Tryz.underlying25 rfl HL.out ?_))
    refine (HB.out _).mono ?_
    rintro e w8 ⟨rfl, b8⟩
    have BD8 := andThen BD6 b8
    have RD8 := range_kept RD6 b8
    have RE8 := range_kept RE6 b8
    clear BD6 RD6 RE6 b8 c0 c7 c9 r1 r2 r3 r4 r6 r7
    obtain ⟨c0, c7, c9, r1, r2, r3, r4, r6, r7⟩ := HC.out _ RD8 RE8
    cases qb : S.x.behind x.p with
    | true =>
      have HF : Hid (108 = A) := by show _ = _; rw [← HA.out]; unfold refP; simp [show x.s = S.x.id by simpa using q1, show x.k ≠ 1 by simpa using q2, q3, q4, show x.l = 1 by simpa using qf, show S.x.ph ≠ 2 by simpa using q5, show lands x.k = S.x.fl by simpa using q6, q7, H78.out, qb]
      go_wp2
      go_ret
      exact ⟨by rw [← HF.out]; rfl, BD8⟩
    | false =>
    cases qk : (x.k == 7) with
    | false =>
      go_wp2
      refine wp_region_held_drew (S := fun w' : World => w'.rangeAt w.heap.size 0 D ∧ w'.rangeAt (w.heap.size + 1) 0 E ∧ w'.cell? ⟨w.heap.size + 1, 1, none⟩ = some (.int .i64 x.k) ∧ w'.cell? ⟨w.heap.size + 1, 7, none⟩ = some (.int .i64 x.c) ∧ Below w.heap.size w w') (by kernel_rfl) ?_ (fun hH => ?_)
      · exact ⟨range_kept RD8 (Below.drew (Below.refl _ _)), range_kept RE8 (Below.drew (Below.refl _ _)), (HC.out _ (range_kept RD8 (Below.drew (Below.refl _ _))) (range_kept RE8 (Below.drew (Below.refl _ _)))).2.2.2.1, (HC.out _ (range_kept RD8 (Below.drew (Below.refl _ _))) (range_kept RE8 (Below.drew (Below.refl _ _)))).2.2.2.2.2.2.2.2, Below.drew BD8⟩
      clear BD8 RD8 RE8 c0 c7 c9 r1 r2 r3 r4 r6 r7
      refine wpAnyH_take (i := 0) (v := ?v72) rfl (by kernel_rfl) (by kernel_rfl) (by kernel_rfl) (fun _ _ _ h => h) (Or.inl ⟨by rfl, ?hy72⟩) hH ?rest72
      case hy72 => intro w' hSw; (try dsimp only at hSw); go_simp; all_goals rfl
      simp only [Act.put, List.setIfInBounds_toArray, List.set_cons_zero, List.set_cons_succ, List.getElem_toArray, List.getElem_cons_zero]
      refine wpAnyH_take (i := 1) (v := ?v73) rfl (by kernel_rfl) (by kernel_rfl) (by kernel_rfl) (fun _ _ _ h => h) (Or.inl ⟨by rfl, ?hy73⟩) hH ?rest73
      case hy73 => intro w' hSw; (try dsimp only at hSw); go_simp; all_goals rfl
      simp only [Act.put, List.setIfInBounds_toArray, List.set_cons_zero, List.set_cons_succ, List.getElem_toArray, List.getElem_cons_zero, List.getElem_cons_succ]
      refine wpAnyH_take (i := 2) (v := ?v74) rfl (by kernel_rfl) (by kernel_rfl) (by kernel_rfl) (fun _ _ _ h => h) (Or.inl ⟨by rfl, ?hy74⟩) hH ?rest74
      case hy74 => intro w' hSw; (try dsimp only at hSw); go_simp; all_goals rfl
      simp only [Act.put, List.setIfInBounds_toArray, List.set_cons_zero, List.set_cons_succ, List.getElem_toArray, List.getElem_cons_zero, List.getElem_cons_succ]
      refine wpAnyH_take (i := 3) (v := ?v75) rfl (by kernel_rfl) (by kernel_rfl) (by kernel_rfl) (fun _ _ _ h => h) (Or.inl ⟨by rfl, ?hy75⟩) hH ?rest75
      case hy75 => intro w' hSw; (try dsimp only at hSw); go_simp; all_goals rfl
      simp only [Act.put, List.setIfInBounds_toArray, List.set_cons_zero, List.set_cons_succ, List.getElem_toArray, List.getElem_cons_zero, List.getElem_cons_succ]
      refine wpAnyH_take (i := 4) rfl (by kernel_rfl) (by kernel_rfl) (by kernel_rfl) (fun _ _ _ h => h) (Or.inr ⟨by rfl, rfl⟩) hH ?_
      simp only [Act.put, List.setIfInBounds_toArray, List.set_cons_zero, List.set_cons_succ, List.getElem_toArray, List.getElem_cons_zero, List.getElem_cons_succ]
      refine wpAnyH_take (i := 5) rfl (by kernel_rfl) (by kernel_rfl) (by kernel_rfl) (fun _ _ _ h => h) (Or.inr ⟨by rfl, rfl⟩) hH ?_
      simp only [Act.put, List.setIfInBounds_toArray, List.set_cons_zero, List.set_cons_succ, List.getElem_toArray, List.getElem_cons_zero, List.getElem_cons_succ]
      refine wpAnyH_take (i := 6) rfl (by kernel_rfl) (by kernel_rfl) (by kernel_rfl) (fun _ _ _ h => h) (Or.inr ⟨by rfl, rfl⟩) hH ?_
      simp only [Act.put, List.setIfInBounds_toArray, List.set_cons_zero, List.set_cons_succ, List.getElem_toArray, List.getElem_cons_zero, List.getElem_cons_succ]
      refine wpAnyH_take (i := 7) (v := ?v76) rfl (by kernel_rfl) (by kernel_rfl) (by kernel_rfl) (fun _ _ _ h => h) (Or.inl ⟨by rfl, ?hy76⟩) hH ?rest76
      case hy76 => intro w' hSw; (try dsimp only at hSw); go_simp; all_goals rfl
      simp only [Act.put, List.setIfInBounds_toArray, List.set_cons_zero, List.set_cons_succ, List.getElem_toArray, List.getElem_cons_zero, List.getElem_cons_succ]
      refine wpAnyH_take (i := 8) (v := ?v77) rfl (by kernel_rfl) (by kernel_rfl) (by kernel_rfl) (fun _ _ _ h => h) (Or.inl ⟨by rfl, ?hy77⟩) hH ?rest77
      case hy77 => intro w' hSw; (try dsimp only at hSw); go_simp; all_goals rfl
      simp only [Act.put, List.setIfInBounds_toArray, List.set_cons_zero, List.set_cons_succ, List.getElem_toArray, List.getElem_cons_zero, List.getElem_cons_succ]
      refine wpAnyH_take (i := 9) rfl (by kernel_rfl) (by kernel_rfl) (by kernel_rfl) (fun _ _ _ h => h) (Or.inr ⟨by rfl, rfl⟩) hH ?_
      simp only [Act.put, List.setIfInBounds_toArray, List.set_cons_zero, List.set_cons_succ, List.getElem_toArray, List.getElem_cons_zero, List.getElem_cons_succ]
      refine wpAnyH_take (i := 10) rfl (by kernel_rfl) (by kernel_rfl) (by kernel_rfl) (fun _ _ _ h => h) (Or.inr ⟨by rfl, rfl⟩) hH ?_
      simp only [Act.put, List.setIfInBounds_toArray, List.set_cons_zero, List.set_cons_succ, List.getElem_toArray, List.getElem_cons_zero, List.getElem_cons_succ]
      refine wpAnyH_take (i := 11) rfl (by kernel_rfl) (by kernel_rfl) (by kernel_rfl) (fun _ _ _ h => h) (Or.inr ⟨by rfl, rfl⟩) hH ?_
      simp only [Act.put, List.setIfInBounds_toArray, List.set_cons_zero, List.set_cons_succ, List.getElem_toArray, List.getElem_cons_zero, List.getElem_cons_succ]
      refine wpAnyH_take (i := 12) rfl (by kernel_rfl) (by kernel_rfl) (by kernel_rfl) (fun _ _ _ h => h) (Or.inr ⟨by rfl, rfl⟩) hH ?_
      simp only [Act.put, List.setIfInBounds_toArray, List.set_cons_zero, List.set_cons_succ, List.getElem_toArray, List.getElem_cons_zero, List.getElem_cons_succ]
      refine wpAnyH_take (i := 13) rfl (by kernel_rfl) (by kernel_rfl) (by kernel_rfl) (fun _ _ _ h => h) (Or.inr ⟨by rfl, rfl⟩) hH ?_
      simp only [Act.put, List.setIfInBounds_toArray, List.set_cons_zero, List.set_cons_succ, List.getElem_toArray, List.getElem_cons_zero, List.getElem_cons_succ]
      refine wpAnyH_take (i := 14) (v := ?v78) rfl (by kernel_rfl) (by kernel_rfl) (by kernel_rfl) (fun _ _ _ h => h) (Or.inl ⟨by rfl, ?hy78⟩) hH ?rest78
      case hy78 => intro w' hSw; (try dsimp only at hSw); go_simp; all_goals rfl
      simp only [Act.put, List.setIfInBounds_toArray, List.set_cons_zero, List.set_cons_succ, List.getElem_toArray, List.getElem_cons_zero, List.getElem_cons_succ]
      refine wpAnyH_take (i := 15) (v := ?v79) rfl (by kernel_rfl) (by kernel_rfl) (by kernel_rfl) (fun _ _ _ h => h) (Or.inl ⟨by rfl, ?hy79⟩) hH ?rest79
      case hy79 => intro w' hSw; (try dsimp only at hSw); go_simp; all_goals rfl
      simp only [Act.put, List.setIfInBounds_toArray, List.set_cons_zero, List.set_cons_succ, List.getElem_toArray, List.getElem_cons_zero, List.getElem_cons_succ]
      refine wpAnyH_done (by kernel_rfl) ?_ _
      have BF := hH.2.2.2.2
      clear hH
      have HF : Hid (0 = A) := by show _ = _; rw [← HA.out, refP_last (by simpa using q1) (by simpa using q2) q3 q4 (by rintro ⟨_, e⟩; exact absurd e (by simpa using q5)) (by simpa using q6) q7 H78.out (by rintro ⟨_, e⟩; rw [qb] at e; exact Bool.false_ne_true e), if_neg (by rintro ⟨e, _⟩; exact absurd e (by simpa using qk))]
      go_wp2
      go_ret
      exact ⟨by rw [← HF.out]; rfl, BF⟩
    | true =>
    cases qc : (x.c != 0) with
    | false =>
      go_wp2
      refine wp_region_held_drew (S := fun w' : World => w'.rangeAt w.heap.size 0 D ∧ w'.rangeAt (w.heap.size + 1) 0 E ∧ w'.cell? ⟨w.heap.size + 1, 1, none⟩ = some (.int .i64 x.k) ∧ w'.cell? ⟨w.heap.size + 1, 7, none⟩ = some (.int .i64 x.c) ∧ Below w.heap.size w w') (by kernel_rfl) ?_ (fun hH => ?_)
      · exact ⟨range_kept RD8 (Below.drew (Below.refl _ _)), range_kept RE8 (Below.drew (Below.refl _ _)), (HC.out _ (range_kept RD8 (Below.drew (Below.refl _ _))) (range_kept RE8 (Below.drew (Below.refl _ _)))).2.2.2.1, (HC.out _ (range_kept RD8 (Below.drew (Below.refl _ _))) (range_kept RE8 (Below.drew (Below.refl _ _)))).2.2.2.2.2.2.2.2, Below.drew BD8⟩
      clear BD8 RD8 RE8 c0 c7 c9 r1 r2 r3 r4 r6 r7
      refine wpAnyH_take (i := 0) (v := ?v80) rfl (by kernel_rfl) (by kernel_rfl) (by kernel_rfl) (fun _ _ _ h => h) (Or.inl ⟨by rfl, ?hy80⟩) hH ?rest80
      case hy80 => intro w' hSw; (try dsimp only at hSw); go_simp; all_goals rfl
      simp only [Act.put, List.setIfInBounds_toArray, List.set_cons_zero, List.set_cons_succ, List.getElem_toArray, List.getElem_cons_zero]
      refine wpAnyH_take (i := 1) (v := ?v81) rfl (by kernel_rfl) (by kernel_rfl) (by kernel_rfl) (fun _ _ _ h => h) (Or.inl ⟨by rfl, ?hy81⟩) hH ?rest81
      case hy81 => intro w' hSw; (try dsimp only at hSw); go_simp; all_goals rfl
      simp only [Act.put, List.setIfInBounds_toArray, List.set_cons_zero, List.set_cons_succ, List.getElem_toArray, List.getElem_cons_zero, List.getElem_cons_succ]
      refine wpAnyH_take (i := 2) (v := ?v82) rfl (by kernel_rfl) (by kernel_rfl) (by kernel_rfl) (fun _ _ _ h => h) (Or.inl ⟨by rfl, ?hy82⟩) hH ?rest82
      case hy82 => intro w' hSw; (try dsimp only at hSw); go_simp; all_goals rfl
      simp only [Act.put, List.setIfInBounds_toArray, List.set_cons_zero, List.set_cons_succ, List.getElem_toArray, List.getElem_cons_zero, List.getElem_cons_succ]
      refine wpAnyH_take (i := 3) (v := ?v83) rfl (by kernel_rfl) (by kernel_rfl) (by kernel_rfl) (fun _ _ _ h => h) (Or.inl ⟨by rfl, ?hy83⟩) hH ?rest83
      case hy83 => intro w' hSw; (try dsimp only at hSw); go_simp; all_goals rfl
      simp only [Act.put, List.setIfInBounds_toArray, List.set_cons_zero, List.set_cons_succ, List.getElem_toArray, List.getElem_cons_zero, List.getElem_cons_succ]
      refine wpAnyH_take (i := 4) (v := ?v84) rfl (by kernel_rfl) (by kernel_rfl) (by kernel_rfl) (fun _ _ _ h => h) (Or.inl ⟨by rfl, ?hy84⟩) hH ?rest84
      case hy84 => intro w' hSw; (try dsimp only at hSw); go_simp; all_goals rfl
      simp only [Act.put, List.setIfInBounds_toArray, List.set_cons_zero, List.set_cons_succ, List.getElem_toArray, List.getElem_cons_zero, List.getElem_cons_succ]
      refine wpAnyH_take (i := 5) (v := ?v85) rfl (by kernel_rfl) (by kernel_rfl) (by kernel_rfl) (fun _ _ _ h => h) (Or.inl ⟨by rfl, ?hy85⟩) hH ?rest85
      case hy85 => intro w' hSw; (try dsimp only at hSw); go_simp; all_goals rfl
      simp only [Act.put, List.setIfInBounds_toArray, List.set_cons_zero, List.set_cons_succ, List.getElem_toArray, List.getElem_cons_zero, List.getElem_cons_succ]
      refine wpAnyH_take (i := 6) (v := ?v86) rfl (by kernel_rfl) (by kernel_rfl) (by kernel_rfl) (fun _ _ _ h => h) (Or.inl ⟨by rfl, ?hy86⟩) hH ?rest86
      case hy86 => intro w' hSw; (try dsimp only at hSw); go_simp; all_goals rfl
      simp only [Act.put, List.setIfInBounds_toArray, List.set_cons_zero, List.set_cons_succ, List.getElem_toArray, List.getElem_cons_zero, List.getElem_cons_succ]
      refine wpAnyH_take (i := 7) (v := ?v87) rfl (by kernel_rfl) (by kernel_rfl) (by kernel_rfl) (fun _ _ _ h => h) (Or.inl ⟨by rfl, ?hy87⟩) hH ?rest87
      case hy87 => intro w' hSw; (try dsimp only at hSw); go_simp; all_goals rfl
      simp only [Act.put, List.setIfInBounds_toArray, List.set_cons_zero, List.set_cons_succ, List.getElem_toArray, List.getElem_cons_zero, List.getElem_cons_succ]
      refine wpAnyH_take (i := 8) (v := ?v88) rfl (by kernel_rfl) (by kernel_rfl) (by kernel_rfl) (fun _ _ _ h => h) (Or.inl ⟨by rfl, ?hy88⟩) hH ?rest88
      case hy88 => intro w' hSw; (try dsimp only at hSw); go_simp; all_goals rfl
      simp only [Act.put, List.setIfInBounds_toArray, List.set_cons_zero, List.set_cons_succ, List.getElem_toArray, List.getElem_cons_zero, List.getElem_cons_succ]
      refine wpAnyH_take (i := 9) rfl (by kernel_rfl) (by kernel_rfl) (by kernel_rfl) (fun _ _ _ h => h) (Or.inr ⟨by rfl, rfl⟩) hH ?_
      simp only [Act.put, List.setIfInBounds_toArray, List.set_cons_zero, List.set_cons_succ, List.getElem_toArray, List.getElem_cons_zero, List.getElem_cons_succ]
      refine wpAnyH_take (i := 10) rfl (by kernel_rfl) (by kernel_rfl) (by kernel_rfl) (fun _ _ _ h => h) (Or.inr ⟨by rfl, rfl⟩) hH ?_
      simp only [Act.put, List.setIfInBounds_toArray, List.set_cons_zero, List.set_cons_succ, List.getElem_toArray, List.getElem_cons_zero, List.getElem_cons_succ]
      refine wpAnyH_take (i := 11) rfl (by kernel_rfl) (by kernel_rfl) (by kernel_rfl) (fun _ _ _ h => h) (Or.inr ⟨by rfl, rfl⟩) hH ?_
      simp only [Act.put, List.setIfInBounds_toArray, List.set_cons_zero, List.set_cons_succ, List.getElem_toArray, List.getElem_cons_zero, List.getElem_cons_succ]
      refine wpAnyH_take (i := 12) rfl (by kernel_rfl) (by kernel_rfl) (by kernel_rfl) (fun _ _ _ h => h) (Or.inr ⟨by rfl, rfl⟩) hH ?_
      simp only [Act.put, List.setIfInBounds_toArray, List.set_cons_zero, List.set_cons_succ, List.getElem_toArray, List.getElem_cons_zero, List.getElem_cons_succ]
      refine wpAnyH_take (i := 13) rfl (by kernel_rfl) (by kernel_rfl) (by kernel_rfl) (fun _ _ _ h => h) (Or.inr ⟨by rfl, rfl⟩) hH ?_
      simp only [Act.put, List.setIfInBounds_toArray, List.set_cons_zero, List.set_cons_succ, List.getElem_toArray, List.getElem_cons_zero, List.getElem_cons_succ]
      refine wpAnyH_take (i := 14) (v := ?v89) rfl (by kernel_rfl) (by kernel_rfl) (by kernel_rfl) (fun _ _ _ h => h) (Or.inl ⟨by rfl, ?hy89⟩) hH ?rest89
      case hy89 => intro w' hSw; (try dsimp only at hSw); go_simp; all_goals rfl
      simp only [Act.put, List.setIfInBounds_toArray, List.set_cons_zero, List.set_cons_succ, List.getElem_toArray, List.getElem_cons_zero, List.getElem_cons_succ]
      refine wpAnyH_take (i := 15) (v := ?v90) rfl (by kernel_rfl) (by kernel_rfl) (by kernel_rfl) (fun _ _ _ h => h) (Or.inl ⟨by rfl, ?hy90⟩) hH ?rest90
      case hy90 => intro w' hSw; (try dsimp only at hSw); go_simp; all_goals rfl
      simp only [Act.put, List.setIfInBounds_toArray, List.set_cons_zero, List.set_cons_succ, List.getElem_toArray, List.getElem_cons_zero, List.getElem_cons_succ]
      refine wpAnyH_done (by kernel_rfl) ?_ _
      have BF := hH.2.2.2.2
      clear hH
      have HF : Hid (0 = A) := by show _ = _; rw [← HA.out, refP_last (by simpa using q1) (by simpa using q2) q3 q4 (by rintro ⟨_, e⟩; exact absurd e (by simpa using q5)) (by simpa using q6) q7 H78.out (by rintro ⟨_, e⟩; rw [qb] at e; exact Bool.false_ne_true e), if_neg (by rintro ⟨_, e, _⟩; exact absurd e (by simpa using qc))]
      go_wp2
      go_ret
      exact ⟨by rw [← HF.out]; rfl, BF⟩
    | true =>
    cases qo : (x.c != S.x.outcome) with
    | false =>
      go_wp2
      refine wp_region_held_drew (S := fun w' : World => w'.rangeAt w.heap.size 0 D ∧ w'.rangeAt (w.heap.size + 1) 0 E ∧ w'.cell? ⟨w.heap.size + 1, 1, none⟩ = some (.int .i64 x.k) ∧ w'.cell? ⟨w.heap.size + 1, 7, none⟩ = some (.int .i64 x.c) ∧ Below w.heap.size w w') (by kernel_rfl) ?_ (fun hH => ?_)
      · exact ⟨range_kept RD8 (Below.drew (Below.refl _ _)), range_kept RE8 (Below.drew (Below.refl _ _)), (HC.out _ (range_kept RD8 (Below.drew (Below.refl _ _))) (range_kept RE8 (Below.drew (Below.refl _ _)))).2.2.2.1, (HC.out _ (range_kept RD8 (Below.drew (Below.refl _ _))) (range_kept RE8 (Below.drew (Below.refl _ _)))).2.2.2.2.2.2.2.2, Below.drew BD8⟩
      clear BD8 RD8 RE8 c0 c7 c9 r1 r2 r3 r4 r6 r7
      refine wpAnyH_take (i := 0) (v := ?v91) rfl (by kernel_rfl) (by kernel_rfl) (by kernel_rfl) (fun _ _ _ h => h) (Or.inl ⟨by rfl, ?hy91⟩) hH ?rest91
      case hy91 => intro w' hSw; (try dsimp only at hSw); go_simp; all_goals rfl
      simp only [Act.put, List.setIfInBounds_toArray, List.set_cons_zero, List.set_cons_succ, List.getElem_toArray, List.getElem_cons_zero]
      refine wpAnyH_take (i := 1) (v := ?v92) rfl (by kernel_rfl) (by kernel_rfl) (by kernel_rfl) (fun _ _ _ h => h) (Or.inl ⟨by rfl, ?hy92⟩) hH ?rest92
      case hy92 => intro w' hSw; (try dsimp only at hSw); go_simp; all_goals rfl
      simp only [Act.put, List.setIfInBounds_toArray, List.set_cons_zero, List.set_cons_succ, List.getElem_toArray, List.getElem_cons_zero, List.getElem_cons_succ]
      refine wpAnyH_take (i := 2) (v := ?v93) rfl (by kernel_rfl) (by kernel_rfl) (by kernel_rfl) (fun _ _ _ h => h) (Or.inl ⟨by rfl, ?hy93⟩) hH ?rest93
      case hy93 => intro w' hSw; (try dsimp only at hSw); go_simp; all_goals rfl
      simp only [Act.put, List.setIfInBounds_toArray, List.set_cons_zero, List.set_cons_succ, List.getElem_toArray, List.getElem_cons_zero, List.getElem_cons_succ]
      refine wpAnyH_take (i := 3) (v := ?v94) rfl (by kernel_rfl) (by kernel_rfl) (by kernel_rfl) (fun _ _ _ h => h) (Or.inl ⟨by rfl, ?hy94⟩) hH ?rest94
      case hy94 => intro w' hSw; (try dsimp only at hSw); go_simp; all_goals rfl
      simp only [Act.put, List.setIfInBounds_toArray, List.set_cons_zero, List.set_cons_succ, List.getElem_toArray, List.getElem_cons_zero, List.getElem_cons_succ]
      refine wpAnyH_take (i := 4) (v := ?v95) rfl (by kernel_rfl) (by kernel_rfl) (by kernel_rfl) (fun _ _ _ h => h) (Or.inl ⟨by rfl, ?hy95⟩) hH ?rest95
      case hy95 => intro w' hSw; (try dsimp only at hSw); go_simp; all_goals rfl
      simp only [Act.put, List.setIfInBounds_toArray, List.set_cons_zero, List.set_cons_succ, List.getElem_toArray, List.getElem_cons_zero, List.getElem_cons_succ]
      refine wpAnyH_take (i := 5) (v := ?v96) rfl (by kernel_rfl) (by kernel_rfl) (by kernel_rfl) (fun _ _ _ h => h) (Or.inl ⟨by rfl, ?hy96⟩) hH ?rest96
      case hy96 => intro w' hSw; (try dsimp only at hSw); go_simp; all_goals rfl
      simp only [Act.put, List.setIfInBounds_toArray, List.set_cons_zero, List.set_cons_succ, List.getElem_toArray, List.getElem_cons_zero, List.getElem_cons_succ]
      refine wpAnyH_take (i := 6) (v := ?v97) rfl (by kernel_rfl) (by kernel_rfl) (by kernel_rfl) (fun _ _ _ h => h) (Or.inl ⟨by rfl, ?hy97⟩) hH ?rest97
      case hy97 => intro w' hSw; (try dsimp only at hSw); go_simp; all_goals rfl
      simp only [Act.put, List.setIfInBounds_toArray, List.set_cons_zero, List.set_cons_succ, List.getElem_toArray, List.getElem_cons_zero, List.getElem_cons_succ]
      refine wpAnyH_take (i := 7) (v := ?v98) rfl (by kernel_rfl) (by kernel_rfl) (by kernel_rfl) (fun _ _ _ h => h) (Or.inl ⟨by rfl, ?hy98⟩) hH ?rest98
      case hy98 => intro w' hSw; (try dsimp only at hSw); go_simp; all_goals rfl
      simp only [Act.put, List.setIfInBounds_toArray, List.set_cons_zero, List.set_cons_succ, List.getElem_toArray, List.getElem_cons_zero, List.getElem_cons_succ]
      refine wpAnyH_take (i := 8) (v := ?v99) rfl (by kernel_rfl) (by kernel_rfl) (by kernel_rfl) (fun _ _ _ h => h) (Or.inl ⟨by rfl, ?hy99⟩) hH ?rest99
      case hy99 => intro w' hSw; (try dsimp only at hSw); go_simp; all_goals rfl
      simp only [Act.put, List.setIfInBounds_toArray, List.set_cons_zero, List.set_cons_succ, List.getElem_toArray, List.getElem_cons_zero, List.getElem_cons_succ]
      refine wpAnyH_take (i := 9) (v := ?v100) rfl (by kernel_rfl) (by kernel_rfl) (by kernel_rfl) (fun _ _ _ h => h) (Or.inl ⟨by rfl, ?hy100⟩) hH ?rest100
      case hy100 => intro w' hSw; (try dsimp only at hSw); go_simp; all_goals rfl
      simp only [Act.put, List.setIfInBounds_toArray, List.set_cons_zero, List.set_cons_succ, List.getElem_toArray, List.getElem_cons_zero, List.getElem_cons_succ]
      refine wpAnyH_take (i := 10) (v := ?v101) rfl (by kernel_rfl) (by kernel_rfl) (by kernel_rfl) (fun _ _ _ h => h) (Or.inl ⟨by rfl, ?hy101⟩) hH ?rest101
      case hy101 => intro w' hSw; (try dsimp only at hSw); go_simp; all_goals rfl
      simp only [Act.put, List.setIfInBounds_toArray, List.set_cons_zero, List.set_cons_succ, List.getElem_toArray, List.getElem_cons_zero, List.getElem_cons_succ]
      refine wpAnyH_take (i := 11) rfl (by kernel_rfl) (by kernel_rfl) (by kernel_rfl) (fun _ _ _ h => h) (yieldsIf_load_mid (by rfl) _ _ rfl _ _ rfl D _ (fun w' hSw => hSw.1) Tryz.underlying25 rfl HL.out) hH ?_
      simp only [Act.put, List.setIfInBounds_toArray, List.set_cons_zero, List.set_cons_succ, List.getElem_toArray, List.getElem_cons_zero, List.getElem_cons_succ]
      refine wpAnyH_ready (rs := [12]) (by kernel_rfl) (by simp) ?_
      refine AllReadyH.cons rfl (fun K hK => ?_) AllReadyH.nil
      go_simp
      refine (HU.out _).mono ?_
      rintro e w9 ⟨rfl, b9⟩
      refine hK.out _ _ ?_ (fun hH2 => ?_)
      · exact ⟨range_kept hH.1 b9, range_kept hH.2.1 b9, (HC.out _ (range_kept hH.1 b9) (range_kept hH.2.1 b9)).2.2.2.1, (HC.out _ (range_kept hH.1 b9) (range_kept hH.2.1 b9)).2.2.2.2.2.2.2.2, andThen hH.2.2.2.2 b9⟩
      clear hK K hH
      have hH := hH2
      clear hH2
      refine wpAnyH_take (i := 13) (v := ?v102) rfl (by kernel_rfl) (by kernel_rfl) (by kernel_rfl) (fun _ _ _ h => h) (Or.inl ⟨by rfl, ?hy102⟩) hH ?rest102
      case hy102 => intro w' hSw; (try dsimp only at hSw); go_simp; all_goals rfl
      simp only [Act.put, List.setIfInBounds_toArray, List.set_cons_zero, List.set_cons_succ, List.getElem_toArray, List.getElem_cons_zero, List.getElem_cons_succ]
      refine wpAnyH_take (i := 14) (v := ?v103) rfl (by kernel_rfl) (by kernel_rfl) (by kernel_rfl) (fun _ _ _ h => h) (Or.inl ⟨by rfl, ?hy103⟩) hH ?rest103
      case hy103 => intro w' hSw; (try dsimp only at hSw); go_simp; all_goals rfl
      simp only [Act.put, List.setIfInBounds_toArray, List.set_cons_zero, List.set_cons_succ, List.getElem_toArray, List.getElem_cons_zero, List.getElem_cons_succ]
      refine wpAnyH_take (i := 15) (v := ?v104) rfl (by kernel_rfl) (by kernel_rfl) (by kernel_rfl) (fun _ _ _ h => h) (Or.inl ⟨by rfl, ?hy104⟩) hH ?rest104
      case hy104 => intro w' hSw; (try dsimp only at hSw); go_simp; all_goals rfl
      simp only [Act.put, List.setIfInBounds_toArray, List.set_cons_zero, List.set_cons_succ, List.getElem_toArray, List.getElem_cons_zero, List.getElem_cons_succ]
      refine wpAnyH_done (by kernel_rfl) ?_ _
      have BF := hH.2.2.2.2
      clear hH
      have HF : Hid (0 = A) := by show _ = _; rw [← HA.out, refP_last (by simpa using q1) (by simpa using q2) q3 q4 (by rintro ⟨_, e⟩; exact absurd e (by simpa using q5)) (by simpa using q6) q7 H78.out (by rintro ⟨_, e⟩; rw [qb] at e; exact Bool.false_ne_true e), if_neg (by rintro ⟨_, _, e⟩; exact absurd e (by simpa using qo))]
      go_wp2
      go_ret
      exact ⟨by rw [← HF.out]; rfl, BF⟩
    | true =>
      go_wp2
      refine wp_region_held_drew (S := fun w' : World => w'.rangeAt w.heap.size 0 D ∧ w'.rangeAt (w.heap.size + 1) 0 E ∧ w'.cell? ⟨w.heap.size + 1, 1, none⟩ = some (.int .i64 x.k) ∧ w'.cell? ⟨w.heap.size + 1, 7, none⟩ = some (.int .i64 x.c) ∧ Below w.heap.size w w') (by kernel_rfl) ?_ (fun hH => ?_)
      · exact ⟨range_kept RD8 (Below.drew (Below.refl _ _)), range_kept RE8 (Below.drew (Below.refl _ _)), (HC.out _ (range_kept RD8 (Below.drew (Below.refl _ _))) (range_kept RE8 (Below.drew (Below.refl _ _)))).2.2.2.1, (HC.out _ (range_kept RD8 (Below.drew (Below.refl _ _))) (range_kept RE8 (Below.drew (Below.refl _ _)))).2.2.2.2.2.2.2.2, Below.drew BD8⟩
      clear BD8 RD8 RE8 c0 c7 c9 r1 r2 r3 r4 r6 r7
      refine wpAnyH_take (i := 0) (v := ?v105) rfl (by kernel_rfl) (by kernel_rfl) (by kernel_rfl) (fun _ _ _ h => h) (Or.inl ⟨by rfl, ?hy105⟩) hH ?rest105
      case hy105 => intro w' hSw; (try dsimp only at hSw); go_simp; all_goals rfl
      simp only [Act.put, List.setIfInBounds_toArray, List.set_cons_zero, List.set_cons_succ, List.getElem_toArray, List.getElem_cons_zero]
      refine wpAnyH_take (i := 1) (v := ?v106) rfl (by kernel_rfl) (by kernel_rfl) (by kernel_rfl) (fun _ _ _ h => h) (Or.inl ⟨by rfl, ?hy106⟩) hH ?rest106
      case hy106 => intro w' hSw; (try dsimp only at hSw); go_simp; all_goals rfl
      simp only [Act.put, List.setIfInBounds_toArray, List.set_cons_zero, List.set_cons_succ, List.getElem_toArray, List.getElem_cons_zero, List.getElem_cons_succ]
      refine wpAnyH_take (i := 2) (v := ?v107) rfl (by kernel_rfl) (by kernel_rfl) (by kernel_rfl) (fun _ _ _ h => h) (Or.inl ⟨by rfl, ?hy107⟩) hH ?rest107
      case hy107 => intro w' hSw; (try dsimp only at hSw); go_simp; all_goals rfl
      simp only [Act.put, List.setIfInBounds_toArray, List.set_cons_zero, List.set_cons_succ, List.getElem_toArray, List.getElem_cons_zero, List.getElem_cons_succ]
      refine wpAnyH_take (i := 3) (v := ?v108) rfl (by kernel_rfl) (by kernel_rfl) (by kernel_rfl) (fun _ _ _ h => h) (Or.inl ⟨by rfl, ?hy108⟩) hH ?rest108
      case hy108 => intro w' hSw; (try dsimp only at hSw); go_simp; all_goals rfl
      simp only [Act.put, List.setIfInBounds_toArray, List.set_cons_zero, List.set_cons_succ, List.getElem_toArray, List.getElem_cons_zero, List.getElem_cons_succ]
      refine wpAnyH_take (i := 4) (v := ?v109) rfl (by kernel_rfl) (by kernel_rfl) (by kernel_rfl) (fun _ _ _ h => h) (Or.inl ⟨by rfl, ?hy109⟩) hH ?rest109
      case hy109 => intro w' hSw; (try dsimp only at hSw); go_simp; all_goals rfl
      simp only [Act.put, List.setIfInBounds_toArray, List.set_cons_zero, List.set_cons_succ, List.getElem_toArray, List.getElem_cons_zero, List.getElem_cons_succ]
      refine wpAnyH_take (i := 5) (v := ?v110) rfl (by kernel_rfl) (by kernel_rfl) (by kernel_rfl) (fun _ _ _ h => h) (Or.inl ⟨by rfl, ?hy110⟩) hH ?rest110
      case hy110 => intro w' hSw; (try dsimp only at hSw); go_simp; all_goals rfl
      simp only [Act.put, List.setIfInBounds_toArray, List.set_cons_zero, List.set_cons_succ, List.getElem_toArray, List.getElem_cons_zero, List.getElem_cons_succ]
      refine wpAnyH_take (i := 6) (v := ?v111) rfl (by kernel_rfl) (by kernel_rfl) (by kernel_rfl) (fun _ _ _ h => h) (Or.inl ⟨by rfl, ?hy111⟩) hH ?rest111
      case hy111 => intro w' hSw; (try dsimp only at hSw); go_simp; all_goals rfl
      simp only [Act.put, List.setIfInBounds_toArray, List.set_cons_zero, List.set_cons_succ, List.getElem_toArray, List.getElem_cons_zero, List.getElem_cons_succ]
      refine wpAnyH_take (i := 7) (v := ?v112) rfl (by kernel_rfl) (by kernel_rfl) (by kernel_rfl) (fun _ _ _ h => h) (Or.inl ⟨by rfl, ?hy112⟩) hH ?rest112
      case hy112 => intro w' hSw; (try dsimp only at hSw); go_simp; all_goals rfl
      simp only [Act.put, List.setIfInBounds_toArray, List.set_cons_zero, List.set_cons_succ, List.getElem_toArray, List.getElem_cons_zero, List.getElem_cons_succ]
      refine wpAnyH_take (i := 8) (v := ?v113) rfl (by kernel_rfl) (by kernel_rfl) (by kernel_rfl) (fun _ _ _ h => h) (Or.inl ⟨by rfl, ?hy113⟩) hH ?rest113
      case hy113 => intro w' hSw; (try dsimp only at hSw); go_simp; all_goals rfl
      simp only [Act.put, List.setIfInBounds_toArray, List.set_cons_zero, List.set_cons_succ, List.getElem_toArray, List.getElem_cons_zero, List.getElem_cons_succ]
      refine wpAnyH_take (i := 9) (v := ?v114) rfl (by kernel_rfl) (by kernel_rfl) (by kernel_rfl) (fun _ _ _ h => h) (Or.inl ⟨by rfl, ?hy114⟩) hH ?rest114
      case hy114 => intro w' hSw; (try dsimp only at hSw); go_simp; all_goals rfl
      simp only [Act.put, List.setIfInBounds_toArray, List.set_cons_zero, List.set_cons_succ, List.getElem_toArray, List.getElem_cons_zero, List.getElem_cons_succ]
      refine wpAnyH_take (i := 10) (v := ?v115) rfl (by kernel_rfl) (by kernel_rfl) (by kernel_rfl) (fun _ _ _ h => h) (Or.inl ⟨by rfl, ?hy115⟩) hH ?rest115
      case hy115 => intro w' hSw; (try dsimp only at hSw); go_simp; all_goals rfl
      simp only [Act.put, List.setIfInBounds_toArray, List.set_cons_zero, List.set_cons_succ, List.getElem_toArray, List.getElem_cons_zero, List.getElem_cons_succ]
      refine wpAnyH_take (i := 11) rfl (by kernel_rfl) (by kernel_rfl) (by kernel_rfl) (fun _ _ _ h => h) (yieldsIf_load_mid (by rfl) _ _ rfl _ _ rfl D _ (fun w' hSw => hSw.1) Tryz.underlying25 rfl HL.out) hH ?_
      simp only [Act.put, List.setIfInBounds_toArray, List.set_cons_zero, List.set_cons_succ, List.getElem_toArray, List.getElem_cons_zero, List.getElem_cons_succ]
      refine wpAnyH_ready (rs := [12]) (by kernel_rfl) (by simp) ?_
      refine AllReadyH.cons rfl (fun K hK => ?_) AllReadyH.nil
      go_simp
      refine (HU.out _).mono ?_
      rintro e w9 ⟨rfl, b9⟩
      refine hK.out _ _ ?_ (fun hH2 => ?_)
      · exact ⟨range_kept hH.1 b9, range_kept hH.2.1 b9, (HC.out _ (range_kept hH.1 b9) (range_kept hH.2.1 b9)).2.2.2.1, (HC.out _ (range_kept hH.1 b9) (range_kept hH.2.1 b9)).2.2.2.2.2.2.2.2, andThen hH.2.2.2.2 b9⟩
      clear hK K hH
      have hH := hH2
      clear hH2
      refine wpAnyH_take (i := 13) (v := ?v116) rfl (by kernel_rfl) (by kernel_rfl) (by kernel_rfl) (fun _ _ _ h => h) (Or.inl ⟨by rfl, ?hy116⟩) hH ?rest116
      case hy116 => intro w' hSw; (try dsimp only at hSw); go_simp; all_goals rfl
      simp only [Act.put, List.setIfInBounds_toArray, List.set_cons_zero, List.set_cons_succ, List.getElem_toArray, List.getElem_cons_zero, List.getElem_cons_succ]
      refine wpAnyH_take (i := 14) (v := ?v117) rfl (by kernel_rfl) (by kernel_rfl) (by kernel_rfl) (fun _ _ _ h => h) (Or.inl ⟨by rfl, ?hy117⟩) hH ?rest117
      case hy117 => intro w' hSw; (try dsimp only at hSw); go_simp; all_goals rfl
      simp only [Act.put, List.setIfInBounds_toArray, List.set_cons_zero, List.set_cons_succ, List.getElem_toArray, List.getElem_cons_zero, List.getElem_cons_succ]
      refine wpAnyH_take (i := 15) (v := ?v118) rfl (by kernel_rfl) (by kernel_rfl) (by kernel_rfl) (fun _ _ _ h => h) (Or.inl ⟨by rfl, ?hy118⟩) hH ?rest118
      case hy118 => intro w' hSw; (try dsimp only at hSw); go_simp; all_goals rfl
      simp only [Act.put, List.setIfInBounds_toArray, List.set_cons_zero, List.set_cons_succ, List.getElem_toArray, List.getElem_cons_zero, List.getElem_cons_succ]
      refine wpAnyH_done (by kernel_rfl) ?_ _
      have BF := hH.2.2.2.2
      clear hH
      have HF : Hid (109 = A) := by show _ = _; rw [← HA.out, refP_last (by simpa using q1) (by simpa using q2) q3 q4 (by rintro ⟨_, e⟩; exact absurd e (by simpa using q5)) (by simpa using q6) q7 H78.out (by rintro ⟨_, e⟩; rw [qb] at e; exact Bool.false_ne_true e), if_pos ⟨by simpa using qk, by simpa using qc, by simpa using qo⟩]
      go_wp2
      go_ret
      exact ⟨by rw [← HF.out]; rfl, BF⟩
set_option maxRecDepth 100000 in
set_option maxHeartbeats 8000000 in
theorem refusal_n (S : Sg) (h : SH) (x : Nums) (nm : ByteArray) (d : Value) (w : World) (hK : KindsT w) (hn : 0 ≤ S.x.nx ∧ S.x.nx ≤ 32) (ht : 0 ≤ S.x.tr ∧ S.x.tr ≤ 1000) (hk : 1 ≤ x.k ∧ x.k ≤ 7) (qf : (x.l == 1) = false) : Calls Tryz.prog 16 #[sv S h, rv x nm d] w fun e w' => e = .returned (.int .i64 (refP S.x x)) ∧ Below w.heap.size w w' := by
  have HN0 : ∀ w', Calls Tryz.prog 31 #[sv S h] w' fun e w'' => e = .returned (.bool S.x.ended) ∧ Below w'.heap.size w' w'' := fun w' => ended_any S h w'
  have HP0 : ∀ w', Below w.heap.size w w' → Calls Tryz.prog 32 #[sv S h, .int .i64 x.k] w' fun e w'' => e = .returned (.bool (S.x.inPh x.k)) ∧ Below w'.heap.size w' w'' := fun w' hb => inPh_any S h x.k w' hk (hK.kept hb)
  have HO0 : ∀ w', Calls Tryz.prog 33 #[sv S h, rv x nm d] w' fun e w'' => e = .returned (.bool (S.x.onTurn x.k x.p)) ∧ Below w'.heap.size w' w'' := fun w' => onTurn_any S h x nm d w' hn
  have HT0 : ∀ w', Calls Tryz.prog 34 #[sv S h] w' fun e w'' => e = .returned (.int .i64 S.x.nextTry) ∧ Below w'.heap.size w' w'' := fun w' => nextTry_any S h w' ht
  have HU0 : ∀ w', Calls Tryz.prog 36 #[sv S h] w' fun e w'' => e = .returned (.int .i64 S.x.outcome) ∧ Below w'.heap.size w' w'' := fun w' => outcome_any S h w'
  have HKT : Hid (∀ W : World, Below w.heap.size w W → W.cell? ⟨0, x.k.toNat * 2 + 1, none⟩ = some (.bool (lands x.k))) := fun W hb => by have e := ((hK.kept hb) x.k.toNat (by omega)).2; rw [Nat.mul_comm] at e; rw [e]; congr 2; rw [Int.toNat_of_nonneg (by omega)]
  clear hK hn ht
  obtain ⟨A, hA⟩ : ∃ A, refP S.x x = A := ⟨_, rfl⟩
  have HA : Hid (refP S.x x = A) := hA
  rw [hA]
  clear hA
  obtain ⟨D, hD, hL, hE⟩ := sv_letter S h
  obtain ⟨E, hD2, hL2, hE2⟩ := rv_letter x nm d
  rw [hD, hD2]
  try rw [hD] at HN0
  try rw [hD2] at HN0
  try rw [hD] at HP0
  try rw [hD2] at HP0
  try rw [hD] at HO0
  try rw [hD2] at HO0
  try rw [hD] at HT0
  try rw [hD2] at HT0
  try rw [hD] at HU0
  try rw [hD2] at HU0
  have HN : Hid _ := HN0
  have HP : Hid _ := HP0
  have HO : Hid _ := HO0
  have HT : Hid _ := HT0
  have HU : Hid _ := HU0
  have HL : Hid _ := hL
  have HE : Hid (D = scl S h) := hE
  have HL2 : Hid _ := hL2
  have HE2 : Hid (E = rcE x nm d) := hE2
  have HX : Hid (∀ t t2, ((w.alloc (.cells D.toArray t)).alloc (.cells E.toArray t2)).rangeAt w.heap.size 0 D ∧ ((w.alloc (.cells D.toArray t)).alloc (.cells E.toArray t2)).rangeAt (w.heap.size + 1) 0 E ∧ Below w.heap.size w ((w.alloc (.cells D.toArray t)).alloc (.cells E.toArray t2))) := fun t t2 => boxed2 w D E t t2
  clear hD hL hE hD2 hL2 hE2 HN0 HP0 HO0 HT0 HU0
  have HC : Hid (∀ W : World, W.rangeAt w.heap.size 0 D → W.rangeAt (w.heap.size + 1) 0 E → (W.cell? ⟨w.heap.size, 0, none⟩ = some (.int .i64 S.x.id) ∧ W.cell? ⟨w.heap.size, 7, none⟩ = some (.int .i64 S.x.ph) ∧ W.cell? ⟨w.heap.size, 9, none⟩ = some (.bool S.x.fl) ∧ W.cell? ⟨w.heap.size + 1, 1, none⟩ = some (.int .i64 x.k) ∧ W.cell? ⟨w.heap.size + 1, 2, none⟩ = some (.int .i64 x.s) ∧ W.cell? ⟨w.heap.size + 1, 3, none⟩ = some (.int .i64 x.p) ∧ W.cell? ⟨w.heap.size + 1, 4, none⟩ = some (.int .i64 x.t) ∧ W.cell? ⟨w.heap.size + 1, 6, none⟩ = some (.int .i64 x.l) ∧ W.cell? ⟨w.heap.size + 1, 7, none⟩ = some (.int .i64 x.c))) := fun W a b => ⟨range_cell a 0 _ (by rw [HE.out]; rfl), range_cell a 7 _ (by rw [HE.out]; rfl), range_cell a 9 _ (by rw [HE.out]; rfl), range_cell b 1 _ (by rw [HE2.out]; rfl), range_cell b 2 _ (by rw [HE2.out]; rfl), range_cell b 3 _ (by rw [HE2.out]; rfl), range_cell b 4 _ (by rw [HE2.out]; rfl), range_cell b 6 _ (by rw [HE2.out]; rfl), range_cell b 7 _ (by rw [HE2.out]; rfl)⟩
  clear HE HE2
  have hk0 : 0 ≤ x.k := by omega
  have hk8 : x.k < 8 := by omega
  have BD0 := (HX.out 25 27).2.2
  have RD0 := (HX.out 25 27).1
  have RE0 := (HX.out 25 27).2.1
  obtain ⟨c0, c7, c9, r1, r2, r3, r4, r6, r7⟩ := HC.out _ RD0 RE0
  go_enter Tryz.func16, Tryz.ntmps16
  cases q1 : (x.s != S.x.id) with
  | true =>
    have HF : Hid (101 = A) := by show _ = _; rw [← HA.out]; unfold refP; simp [show x.s ≠ S.x.id by simpa using q1]
    go_wp2
    go_ret
    exact ⟨by rw [← HF.out]; rfl, BD0⟩
  | false =>
  cases q2 : (x.k == 1) with
  | true =>
    have HF : Hid (102 = A) := by show _ = _; rw [← HA.out]; unfold refP; simp [show x.s = S.x.id by simpa using q1, show x.k = 1 by simpa using q2]
    go_wp2
    go_ret
    exact ⟨by rw [← HF.out]; rfl, BD0⟩
  | false =>
  go_wp2_with (first | (refine wpList_load_mid rfl 25 _ rfl w.heap.size 0 rfl D _ RD0 Tryz.underlying25 rfl HL.out ?_) | (refine wpList_load_midG rfl 25 _ rfl w.heap.size 0 rfl D _ RD0 Tryz.underlying25 rfl HL.out ?_))
  refine (HN.out _).mono ?_
  rintro e w1 ⟨rfl, b1⟩
  have BD1 := andThen BD0 b1
  have RD1 := range_kept RD0 b1
  have RE1 := range_kept RE0 b1
  clear BD0 RD0 RE0 b1 c0 c7 c9 r1 r2 r3 r4 r6 r7
  obtain ⟨c0, c7, c9, r1, r2, r3, r4, r6, r7⟩ := HC.out _ RD1 RE1
  clear HX HN
  cases q3 : S.x.ended with
  | true =>
    have HF : Hid (103 = A) := by show _ = _; rw [← HA.out]; unfold refP; simp [show x.s = S.x.id by simpa using q1, show x.k ≠ 1 by simpa using q2, q3]
    go_wp2
    go_ret
    exact ⟨by rw [← HF.out]; rfl, BD1⟩
  | false =>
  go_wp2_with (first | (refine wpList_load_mid rfl 25 _ rfl w.heap.size 0 rfl D _ RD1 Tryz.underlying25 rfl HL.out ?_) | (refine wpList_load_midG rfl 25 _ rfl w.heap.size 0 rfl D _ RD1 Tryz.underlying25 rfl HL.out ?_))
  refine (HP.out _ BD1).mono ?_
  rintro e w2 ⟨rfl, b2⟩
  have BD2 := andThen BD1 b2
  have RD2 := range_kept RD1 b2
  have RE2 := range_kept RE1 b2
  clear BD1 RD1 RE1 b2 c0 c7 c9 r1 r2 r3 r4 r6 r7
  obtain ⟨c0, c7, c9, r1, r2, r3, r4, r6, r7⟩ := HC.out _ RD2 RE2
  clear HP
  cases q4 : S.x.inPh x.k with
  | false =>
    have HF : Hid (104 = A) := by show _ = _; rw [← HA.out]; unfold refP; simp [show x.s = S.x.id by simpa using q1, show x.k ≠ 1 by simpa using q2, q3, q4]
    go_wp2
    go_ret
    exact ⟨by rw [← HF.out]; rfl, BD2⟩
  | true =>
  have k1 := HKT.out _ BD2
  go_wp2
  go_quiet (fail)
  have b3 : Below w2.heap.size w2 (w2.drewN nq) := bdrewN (Below.refl _ _) _
  clear k1
  generalize w2.drewN nq = w3 at *
  have BD3 := andThen BD2 b3
  have RD3 := range_kept RD2 b3
  have RE3 := range_kept RE2 b3
  clear BD2 RD2 RE2 b3 c0 c7 c9 r1 r2 r3 r4 r6 r7
  obtain ⟨c0, c7, c9, r1, r2, r3, r4, r6, r7⟩ := HC.out _ RD3 RE3
  cases q6 : (lands x.k == S.x.fl) with
  | false =>
    have HF : Hid (105 = A) := by show _ = _; rw [← HA.out]; unfold refP; simp [show x.s = S.x.id by simpa using q1, show x.k ≠ 1 by simpa using q2, q3, q4, show x.l ≠ 1 by simpa using qf, show lands x.k ≠ S.x.fl by simpa using q6]
    go_wp2
    go_ret
    exact ⟨by rw [← HF.out]; rfl, BD3⟩
  | true =>
  go_wp2_with (first | (refine wpList_load_mid rfl 25 _ rfl w.heap.size 0 rfl D _ RD3 Tryz.underlying25 rfl HL.out ?_) | (refine wpList_load_mid rfl 27 _ rfl (w.heap.size + 1) 0 rfl E _ RE3 Tryz.underlying27 rfl HL2.out ?_))
  refine (HO.out _).mono ?_
  rintro e w4 ⟨rfl, b4⟩
  have BD4 := andThen BD3 b4
  have RD4 := range_kept RD3 b4
  have RE4 := range_kept RE3 b4
  clear BD3 RD3 RE3 b4 c0 c7 c9 r1 r2 r3 r4 r6 r7
  obtain ⟨c0, c7, c9, r1, r2, r3, r4, r6, r7⟩ := HC.out _ RD4 RE4
  clear HO
  cases q7 : S.x.onTurn x.k x.p with
  | false =>
    have HF : Hid (106 = A) := by show _ = _; rw [← HA.out]; unfold refP; simp [show x.s = S.x.id by simpa using q1, show x.k ≠ 1 by simpa using q2, q3, q4, show x.l ≠ 1 by simpa using qf, show lands x.k = S.x.fl by simpa using q6, q7]
    go_wp2
    go_ret
    exact ⟨by rw [← HF.out]; rfl, BD4⟩
  | true =>
  cases q8 : (x.t != 0 && x.t != S.x.nextTry) with
  | true =>
    simp only [Bool.and_eq_true] at q8
    obtain ⟨q8, q9⟩ := q8
    go_wp2
    refine wp_region_held_drew (S := fun w' : World => w'.rangeAt w.heap.size 0 D ∧ w'.rangeAt (w.heap.size + 1) 0 E ∧ w'.cell? ⟨w.heap.size + 1, 4, none⟩ = some (.int .i64 x.t) ∧ Below w.heap.size w w') (by kernel_rfl) ?_ (fun hH => ?_)
    · exact ⟨range_kept RD4 (Below.drew (Below.refl _ _)), range_kept RE4 (Below.drew (Below.refl _ _)), (HC.out _ (range_kept RD4 (Below.drew (Below.refl _ _))) (range_kept RE4 (Below.drew (Below.refl _ _)))).2.2.2.2.2.2.1, Below.drew BD4⟩
    clear BD4 RD4 RE4 c0 c7 c9 r1 r2 r3 r4 r6 r7
    refine wpAnyH_take (i := 0) (v := ?v119) rfl (by kernel_rfl) (by kernel_rfl) (by kernel_rfl) (fun _ _ _ h => h) (Or.inl ⟨by rfl, ?hy119⟩) hH ?rest119
    case hy119 => intro w' hSw; (try dsimp only at hSw); go_simp; all_goals rfl
    simp only [Act.put, List.setIfInBounds_toArray, List.set_cons_zero, List.set_cons_succ, List.getElem_toArray, List.getElem_cons_zero]
    refine wpAnyH_take (i := 1) (v := ?v120) rfl (by kernel_rfl) (by kernel_rfl) (by kernel_rfl) (fun _ _ _ h => h) (Or.inl ⟨by rfl, ?hy120⟩) hH ?rest120
    case hy120 => intro w' hSw; (try dsimp only at hSw); go_simp; all_goals rfl
    simp only [Act.put, List.setIfInBounds_toArray, List.set_cons_zero, List.set_cons_succ, List.getElem_toArray, List.getElem_cons_zero, List.getElem_cons_succ]
    refine wpAnyH_take (i := 2) (v := ?v121) rfl (by kernel_rfl) (by kernel_rfl) (by kernel_rfl) (fun _ _ _ h => h) (Or.inl ⟨by rfl, ?hy121⟩) hH ?rest121
    case hy121 => intro w' hSw; (try dsimp only at hSw); go_simp; all_goals rfl
    simp only [Act.put, List.setIfInBounds_toArray, List.set_cons_zero, List.set_cons_succ, List.getElem_toArray, List.getElem_cons_zero, List.getElem_cons_succ]
    refine wpAnyH_take (i := 3) (v := ?v122) rfl (by kernel_rfl) (by kernel_rfl) (by kernel_rfl) (fun _ _ _ h => h) (Or.inl ⟨by rfl, ?hy122⟩) hH ?rest122
    case hy122 => intro w' hSw; (try dsimp only at hSw); go_simp; all_goals rfl
    simp only [Act.put, List.setIfInBounds_toArray, List.set_cons_zero, List.set_cons_succ, List.getElem_toArray, List.getElem_cons_zero, List.getElem_cons_succ]
    refine wpAnyH_take (i := 4) (v := ?v123) rfl (by kernel_rfl) (by kernel_rfl) (by kernel_rfl) (fun _ _ _ h => h) (Or.inl ⟨by rfl, ?hy123⟩) hH ?rest123
    case hy123 => intro w' hSw; (try dsimp only at hSw); go_simp; all_goals rfl
    simp only [Act.put, List.setIfInBounds_toArray, List.set_cons_zero, List.set_cons_succ, List.getElem_toArray, List.getElem_cons_zero, List.getElem_cons_succ]
    refine wpAnyH_take (i := 5) (v := ?v124) rfl (by kernel_rfl) (by kernel_rfl) (by kernel_rfl) (fun _ _ _ h => h) (Or.inl ⟨by rfl, ?hy124⟩) hH ?rest124
    case hy124 => intro w' hSw; (try dsimp only at hSw); go_simp; all_goals rfl
    simp only [Act.put, List.setIfInBounds_toArray, List.set_cons_zero, List.set_cons_succ, List.getElem_toArray, List.getElem_cons_zero, List.getElem_cons_succ]
    refine wpAnyH_take (i := 6) rfl (by kernel_rfl) (by kernel_rfl) (by kernel_rfl) (fun _ _ _ h => h) (yieldsIf_load_mid (by rfl) _ _ rfl _ _ rfl D _ (fun w' hSw => hSw.1) Tryz.underlying25 rfl HL.out) hH ?_
    simp only [Act.put, List.setIfInBounds_toArray, List.set_cons_zero, List.set_cons_succ, List.getElem_toArray, List.getElem_cons_zero, List.getElem_cons_succ]
    refine wpAnyH_ready (rs := [7]) (by kernel_rfl) (by simp) ?_
    refine AllReadyH.cons rfl (fun K hK => ?_) AllReadyH.nil
    go_simp
    refine (HT.out _).mono ?_
    rintro e w5 ⟨rfl, b5⟩
    refine hK.out _ _ ?_ (fun hH2 => ?_)
    · exact ⟨range_kept hH.1 b5, range_kept hH.2.1 b5, (HC.out _ (range_kept hH.1 b5) (range_kept hH.2.1 b5)).2.2.2.2.2.2.1, andThen hH.2.2.2 b5⟩
    clear hK K hH
    have hH := hH2
    clear hH2
    refine wpAnyH_take (i := 8) (v := ?v125) rfl (by kernel_rfl) (by kernel_rfl) (by kernel_rfl) (fun _ _ _ h => h) (Or.inl ⟨by rfl, ?hy125⟩) hH ?rest125
    case hy125 => intro w' hSw; (try dsimp only at hSw); go_simp; all_goals rfl
    simp only [Act.put, List.setIfInBounds_toArray, List.set_cons_zero, List.set_cons_succ, List.getElem_toArray, List.getElem_cons_zero, List.getElem_cons_succ]
    refine wpAnyH_take (i := 9) (v := ?v126) rfl (by kernel_rfl) (by kernel_rfl) (by kernel_rfl) (fun _ _ _ h => h) (Or.inl ⟨by rfl, ?hy126⟩) hH ?rest126
    case hy126 => intro w' hSw; (try dsimp only at hSw); go_simp; all_goals rfl
    simp only [Act.put, List.setIfInBounds_toArray, List.set_cons_zero, List.set_cons_succ, List.getElem_toArray, List.getElem_cons_zero, List.getElem_cons_succ]
    refine wpAnyH_take (i := 10) (v := ?v127) rfl (by kernel_rfl) (by kernel_rfl) (by kernel_rfl) (fun _ _ _ h => h) (Or.inl ⟨by rfl, ?hy127⟩) hH ?rest127
    case hy127 => intro w' hSw; (try dsimp only at hSw); go_simp; all_goals rfl
    simp only [Act.put, List.setIfInBounds_toArray, List.set_cons_zero, List.set_cons_succ, List.getElem_toArray, List.getElem_cons_zero, List.getElem_cons_succ]
    refine wpAnyH_done (by kernel_rfl) ?_ _
    have BF := hH.2.2.2
    clear hH
    have HF : Hid (107 = A) := by show _ = _; rw [← HA.out]; unfold refP; simp [show x.s = S.x.id by simpa using q1, show x.k ≠ 1 by simpa using q2, q3, q4, show x.l ≠ 1 by simpa using qf, show lands x.k = S.x.fl by simpa using q6, q7, show x.t ≠ 0 by simpa using q8, show x.t ≠ S.x.nextTry by simpa using q9]
    go_wp2
    go_ret
    exact ⟨by rw [← HF.out]; rfl, BF⟩
  | false =>
  have H78 : Hid (¬ (x.t ≠ 0 ∧ x.t ≠ S.x.nextTry)) := by show ¬ _; simpa using q8
  cases qt : (x.t != 0) with
  | true =>
    have q9 : (x.t != S.x.nextTry) = false := by rw [qt] at q8; simpa using q8
    clear q8
    go_wp2
    refine wp_region_held_drew (S := fun w' : World => w'.rangeAt w.heap.size 0 D ∧ w'.rangeAt (w.heap.size + 1) 0 E ∧ w'.cell? ⟨w.heap.size + 1, 4, none⟩ = some (.int .i64 x.t) ∧ Below w.heap.size w w') (by kernel_rfl) ?_ (fun hH => ?_)
    · exact ⟨range_kept RD4 (Below.drew (Below.refl _ _)), range_kept RE4 (Below.drew (Below.refl _ _)), (HC.out _ (range_kept RD4 (Below.drew (Below.refl _ _))) (range_kept RE4 (Below.drew (Below.refl _ _)))).2.2.2.2.2.2.1, Below.drew BD4⟩
    clear BD4 RD4 RE4 c0 c7 c9 r1 r2 r3 r4 r6 r7
    refine wpAnyH_take (i := 0) (v := ?v128) rfl (by kernel_rfl) (by kernel_rfl) (by kernel_rfl) (fun _ _ _ h => h) (Or.inl ⟨by rfl, ?hy128⟩) hH ?rest128
    case hy128 => intro w' hSw; (try dsimp only at hSw); go_simp; all_goals rfl
    simp only [Act.put, List.setIfInBounds_toArray, List.set_cons_zero, List.set_cons_succ, List.getElem_toArray, List.getElem_cons_zero]
    refine wpAnyH_take (i := 1) (v := ?v129) rfl (by kernel_rfl) (by kernel_rfl) (by kernel_rfl) (fun _ _ _ h => h) (Or.inl ⟨by rfl, ?hy129⟩) hH ?rest129
    case hy129 => intro w' hSw; (try dsimp only at hSw); go_simp; all_goals rfl
    simp only [Act.put, List.setIfInBounds_toArray, List.set_cons_zero, List.set_cons_succ, List.getElem_toArray, List.getElem_cons_zero, List.getElem_cons_succ]
    refine wpAnyH_take (i := 2) (v := ?v130) rfl (by kernel_rfl) (by kernel_rfl) (by kernel_rfl) (fun _ _ _ h => h) (Or.inl ⟨by rfl, ?hy130⟩) hH ?rest130
    case hy130 => intro w' hSw; (try dsimp only at hSw); go_simp; all_goals rfl
    simp only [Act.put, List.setIfInBounds_toArray, List.set_cons_zero, List.set_cons_succ, List.getElem_toArray, List.getElem_cons_zero, List.getElem_cons_succ]
    refine wpAnyH_take (i := 3) (v := ?v131) rfl (by kernel_rfl) (by kernel_rfl) (by kernel_rfl) (fun _ _ _ h => h) (Or.inl ⟨by rfl, ?hy131⟩) hH ?rest131
    case hy131 => intro w' hSw; (try dsimp only at hSw); go_simp; all_goals rfl
    simp only [Act.put, List.setIfInBounds_toArray, List.set_cons_zero, List.set_cons_succ, List.getElem_toArray, List.getElem_cons_zero, List.getElem_cons_succ]
    refine wpAnyH_take (i := 4) (v := ?v132) rfl (by kernel_rfl) (by kernel_rfl) (by kernel_rfl) (fun _ _ _ h => h) (Or.inl ⟨by rfl, ?hy132⟩) hH ?rest132
    case hy132 => intro w' hSw; (try dsimp only at hSw); go_simp; all_goals rfl
    simp only [Act.put, List.setIfInBounds_toArray, List.set_cons_zero, List.set_cons_succ, List.getElem_toArray, List.getElem_cons_zero, List.getElem_cons_succ]
    refine wpAnyH_take (i := 5) (v := ?v133) rfl (by kernel_rfl) (by kernel_rfl) (by kernel_rfl) (fun _ _ _ h => h) (Or.inl ⟨by rfl, ?hy133⟩) hH ?rest133
    case hy133 => intro w' hSw; (try dsimp only at hSw); go_simp; all_goals rfl
    simp only [Act.put, List.setIfInBounds_toArray, List.set_cons_zero, List.set_cons_succ, List.getElem_toArray, List.getElem_cons_zero, List.getElem_cons_succ]
    refine wpAnyH_take (i := 6) rfl (by kernel_rfl) (by kernel_rfl) (by kernel_rfl) (fun _ _ _ h => h) (yieldsIf_load_mid (by rfl) _ _ rfl _ _ rfl D _ (fun w' hSw => hSw.1) Tryz.underlying25 rfl HL.out) hH ?_
    simp only [Act.put, List.setIfInBounds_toArray, List.set_cons_zero, List.set_cons_succ, List.getElem_toArray, List.getElem_cons_zero, List.getElem_cons_succ]
    refine wpAnyH_ready (rs := [7]) (by kernel_rfl) (by simp) ?_
    refine AllReadyH.cons rfl (fun K hK => ?_) AllReadyH.nil
    go_simp
    refine (HT.out _).mono ?_
    rintro e w5 ⟨rfl, b5⟩
    refine hK.out _ _ ?_ (fun hH2 => ?_)
    · exact ⟨range_kept hH.1 b5, range_kept hH.2.1 b5, (HC.out _ (range_kept hH.1 b5) (range_kept hH.2.1 b5)).2.2.2.2.2.2.1, andThen hH.2.2.2 b5⟩
    clear hK K hH
    have hH := hH2
    clear hH2
    refine wpAnyH_take (i := 8) (v := ?v134) rfl (by kernel_rfl) (by kernel_rfl) (by kernel_rfl) (fun _ _ _ h => h) (Or.inl ⟨by rfl, ?hy134⟩) hH ?rest134
    case hy134 => intro w' hSw; (try dsimp only at hSw); go_simp; all_goals rfl
    simp only [Act.put, List.setIfInBounds_toArray, List.set_cons_zero, List.set_cons_succ, List.getElem_toArray, List.getElem_cons_zero, List.getElem_cons_succ]
    refine wpAnyH_take (i := 9) (v := ?v135) rfl (by kernel_rfl) (by kernel_rfl) (by kernel_rfl) (fun _ _ _ h => h) (Or.inl ⟨by rfl, ?hy135⟩) hH ?rest135
    case hy135 => intro w' hSw; (try dsimp only at hSw); go_simp; all_goals rfl
    simp only [Act.put, List.setIfInBounds_toArray, List.set_cons_zero, List.set_cons_succ, List.getElem_toArray, List.getElem_cons_zero, List.getElem_cons_succ]
    refine wpAnyH_take (i := 10) (v := ?v136) rfl (by kernel_rfl) (by kernel_rfl) (by kernel_rfl) (fun _ _ _ h => h) (Or.inl ⟨by rfl, ?hy136⟩) hH ?rest136
    case hy136 => intro w' hSw; (try dsimp only at hSw); go_simp; all_goals rfl
    simp only [Act.put, List.setIfInBounds_toArray, List.set_cons_zero, List.set_cons_succ, List.getElem_toArray, List.getElem_cons_zero, List.getElem_cons_succ]
    refine wpAnyH_done (by kernel_rfl) ?_ _
    have BD6 := hH.2.2.2
    have RD6 := hH.1
    have RE6 := hH.2.1
    clear hH
    obtain ⟨c0, c7, c9, r1, r2, r3, r4, r6, r7⟩ := HC.out _ RD6 RE6
    cases qk : (x.k == 7) with
    | false =>
      go_wp2
      refine wp_region_held_drew (S := fun w' : World => w'.rangeAt w.heap.size 0 D ∧ w'.rangeAt (w.heap.size + 1) 0 E ∧ w'.cell? ⟨w.heap.size + 1, 1, none⟩ = some (.int .i64 x.k) ∧ w'.cell? ⟨w.heap.size + 1, 7, none⟩ = some (.int .i64 x.c) ∧ Below w.heap.size w w') (by kernel_rfl) ?_ (fun hH => ?_)
      · exact ⟨range_kept RD6 (Below.drew (Below.refl _ _)), range_kept RE6 (Below.drew (Below.refl _ _)), (HC.out _ (range_kept RD6 (Below.drew (Below.refl _ _))) (range_kept RE6 (Below.drew (Below.refl _ _)))).2.2.2.1, (HC.out _ (range_kept RD6 (Below.drew (Below.refl _ _))) (range_kept RE6 (Below.drew (Below.refl _ _)))).2.2.2.2.2.2.2.2, Below.drew BD6⟩
      clear BD6 RD6 RE6 c0 c7 c9 r1 r2 r3 r4 r6 r7
      refine wpAnyH_take (i := 0) (v := ?v137) rfl (by kernel_rfl) (by kernel_rfl) (by kernel_rfl) (fun _ _ _ h => h) (Or.inl ⟨by rfl, ?hy137⟩) hH ?rest137
      case hy137 => intro w' hSw; (try dsimp only at hSw); go_simp; all_goals rfl
      simp only [Act.put, List.setIfInBounds_toArray, List.set_cons_zero, List.set_cons_succ, List.getElem_toArray, List.getElem_cons_zero]
      refine wpAnyH_take (i := 1) (v := ?v138) rfl (by kernel_rfl) (by kernel_rfl) (by kernel_rfl) (fun _ _ _ h => h) (Or.inl ⟨by rfl, ?hy138⟩) hH ?rest138
      case hy138 => intro w' hSw; (try dsimp only at hSw); go_simp; all_goals rfl
      simp only [Act.put, List.setIfInBounds_toArray, List.set_cons_zero, List.set_cons_succ, List.getElem_toArray, List.getElem_cons_zero, List.getElem_cons_succ]
      refine wpAnyH_take (i := 2) (v := ?v139) rfl (by kernel_rfl) (by kernel_rfl) (by kernel_rfl) (fun _ _ _ h => h) (Or.inl ⟨by rfl, ?hy139⟩) hH ?rest139
      case hy139 => intro w' hSw; (try dsimp only at hSw); go_simp; all_goals rfl
      simp only [Act.put, List.setIfInBounds_toArray, List.set_cons_zero, List.set_cons_succ, List.getElem_toArray, List.getElem_cons_zero, List.getElem_cons_succ]
      refine wpAnyH_take (i := 3) (v := ?v140) rfl (by kernel_rfl) (by kernel_rfl) (by kernel_rfl) (fun _ _ _ h => h) (Or.inl ⟨by rfl, ?hy140⟩) hH ?rest140
      case hy140 => intro w' hSw; (try dsimp only at hSw); go_simp; all_goals rfl
      simp only [Act.put, List.setIfInBounds_toArray, List.set_cons_zero, List.set_cons_succ, List.getElem_toArray, List.getElem_cons_zero, List.getElem_cons_succ]
      refine wpAnyH_take (i := 4) rfl (by kernel_rfl) (by kernel_rfl) (by kernel_rfl) (fun _ _ _ h => h) (Or.inr ⟨by rfl, rfl⟩) hH ?_
      simp only [Act.put, List.setIfInBounds_toArray, List.set_cons_zero, List.set_cons_succ, List.getElem_toArray, List.getElem_cons_zero, List.getElem_cons_succ]
      refine wpAnyH_take (i := 5) rfl (by kernel_rfl) (by kernel_rfl) (by kernel_rfl) (fun _ _ _ h => h) (Or.inr ⟨by rfl, rfl⟩) hH ?_
      simp only [Act.put, List.setIfInBounds_toArray, List.set_cons_zero, List.set_cons_succ, List.getElem_toArray, List.getElem_cons_zero, List.getElem_cons_succ]
      refine wpAnyH_take (i := 6) rfl (by kernel_rfl) (by kernel_rfl) (by kernel_rfl) (fun _ _ _ h => h) (Or.inr ⟨by rfl, rfl⟩) hH ?_
      simp only [Act.put, List.setIfInBounds_toArray, List.set_cons_zero, List.set_cons_succ, List.getElem_toArray, List.getElem_cons_zero, List.getElem_cons_succ]
      refine wpAnyH_take (i := 7) (v := ?v141) rfl (by kernel_rfl) (by kernel_rfl) (by kernel_rfl) (fun _ _ _ h => h) (Or.inl ⟨by rfl, ?hy141⟩) hH ?rest141
      case hy141 => intro w' hSw; (try dsimp only at hSw); go_simp; all_goals rfl
      simp only [Act.put, List.setIfInBounds_toArray, List.set_cons_zero, List.set_cons_succ, List.getElem_toArray, List.getElem_cons_zero, List.getElem_cons_succ]
      refine wpAnyH_take (i := 8) (v := ?v142) rfl (by kernel_rfl) (by kernel_rfl) (by kernel_rfl) (fun _ _ _ h => h) (Or.inl ⟨by rfl, ?hy142⟩) hH ?rest142
      case hy142 => intro w' hSw; (try dsimp only at hSw); go_simp; all_goals rfl
      simp only [Act.put, List.setIfInBounds_toArray, List.set_cons_zero, List.set_cons_succ, List.getElem_toArray, List.getElem_cons_zero, List.getElem_cons_succ]
      refine wpAnyH_take (i := 9) rfl (by kernel_rfl) (by kernel_rfl) (by kernel_rfl) (fun _ _ _ h => h) (Or.inr ⟨by rfl, rfl⟩) hH ?_
      simp only [Act.put, List.setIfInBounds_toArray, List.set_cons_zero, List.set_cons_succ, List.getElem_toArray, List.getElem_cons_zero, List.getElem_cons_succ]
      refine wpAnyH_take (i := 10) rfl (by kernel_rfl) (by kernel_rfl) (by kernel_rfl) (fun _ _ _ h => h) (Or.inr ⟨by rfl, rfl⟩) hH ?_
      simp only [Act.put, List.setIfInBounds_toArray, List.set_cons_zero, List.set_cons_succ, List.getElem_toArray, List.getElem_cons_zero, List.getElem_cons_succ]
      refine wpAnyH_take (i := 11) rfl (by kernel_rfl) (by kernel_rfl) (by kernel_rfl) (fun _ _ _ h => h) (Or.inr ⟨by rfl, rfl⟩) hH ?_
      simp only [Act.put, List.setIfInBounds_toArray, List.set_cons_zero, List.set_cons_succ, List.getElem_toArray, List.getElem_cons_zero, List.getElem_cons_succ]
      refine wpAnyH_take (i := 12) rfl (by kernel_rfl) (by kernel_rfl) (by kernel_rfl) (fun _ _ _ h => h) (Or.inr ⟨by rfl, rfl⟩) hH ?_
      simp only [Act.put, List.setIfInBounds_toArray, List.set_cons_zero, List.set_cons_succ, List.getElem_toArray, List.getElem_cons_zero, List.getElem_cons_succ]
      refine wpAnyH_take (i := 13) rfl (by kernel_rfl) (by kernel_rfl) (by kernel_rfl) (fun _ _ _ h => h) (Or.inr ⟨by rfl, rfl⟩) hH ?_
      simp only [Act.put, List.setIfInBounds_toArray, List.set_cons_zero, List.set_cons_succ, List.getElem_toArray, List.getElem_cons_zero, List.getElem_cons_succ]
      refine wpAnyH_take (i := 14) (v := ?v143) rfl (by kernel_rfl) (by kernel_rfl) (by kernel_rfl) (fun _ _ _ h => h) (Or.inl ⟨by rfl, ?hy143⟩) hH ?rest143
      case hy143 => intro w' hSw; (try dsimp only at hSw); go_simp; all_goals rfl
      simp only [Act.put, List.setIfInBounds_toArray, List.set_cons_zero, List.set_cons_succ, List.getElem_toArray, List.getElem_cons_zero, List.getElem_cons_succ]
      refine wpAnyH_take (i := 15) (v := ?v144) rfl (by kernel_rfl) (by kernel_rfl) (by kernel_rfl) (fun _ _ _ h => h) (Or.inl ⟨by rfl, ?hy144⟩) hH ?rest144
      case hy144 => intro w' hSw; (try dsimp only at hSw); go_simp; all_goals rfl
      simp only [Act.put, List.setIfInBounds_toArray, List.set_cons_zero, List.set_cons_succ, List.getElem_toArray, List.getElem_cons_zero, List.getElem_cons_succ]
      refine wpAnyH_done (by kernel_rfl) ?_ _
      have BF := hH.2.2.2.2
      clear hH
      have HF : Hid (0 = A) := by show _ = _; rw [← HA.out, refP_last (by simpa using q1) (by simpa using q2) q3 q4 (by rintro ⟨e, _⟩; exact absurd e (by simpa using qf)) (by simpa using q6) q7 H78.out (by rintro ⟨e, _⟩; exact absurd e (by simpa using qf)), if_neg (by rintro ⟨e, _⟩; exact absurd e (by simpa using qk))]
      go_wp2
      go_ret
      exact ⟨by rw [← HF.out]; rfl, BF⟩
    | true =>
    cases qc : (x.c != 0) with
    | false =>
      go_wp2
      refine wp_region_held_drew (S := fun w' : World => w'.rangeAt w.heap.size 0 D ∧ w'.rangeAt (w.heap.size + 1) 0 E ∧ w'.cell? ⟨w.heap.size + 1, 1, none⟩ = some (.int .i64 x.k) ∧ w'.cell? ⟨w.heap.size + 1, 7, none⟩ = some (.int .i64 x.c) ∧ Below w.heap.size w w') (by kernel_rfl) ?_ (fun hH => ?_)
      · exact ⟨range_kept RD6 (Below.drew (Below.refl _ _)), range_kept RE6 (Below.drew (Below.refl _ _)), (HC.out _ (range_kept RD6 (Below.drew (Below.refl _ _))) (range_kept RE6 (Below.drew (Below.refl _ _)))).2.2.2.1, (HC.out _ (range_kept RD6 (Below.drew (Below.refl _ _))) (range_kept RE6 (Below.drew (Below.refl _ _)))).2.2.2.2.2.2.2.2, Below.drew BD6⟩
      clear BD6 RD6 RE6 c0 c7 c9 r1 r2 r3 r4 r6 r7
      refine wpAnyH_take (i := 0) (v := ?v145) rfl (by kernel_rfl) (by kernel_rfl) (by kernel_rfl) (fun _ _ _ h => h) (Or.inl ⟨by rfl, ?hy145⟩) hH ?rest145
      case hy145 => intro w' hSw; (try dsimp only at hSw); go_simp; all_goals rfl
      simp only [Act.put, List.setIfInBounds_toArray, List.set_cons_zero, List.set_cons_succ, List.getElem_toArray, List.getElem_cons_zero]
      refine wpAnyH_take (i := 1) (v := ?v146) rfl (by kernel_rfl) (by kernel_rfl) (by kernel_rfl) (fun _ _ _ h => h) (Or.inl ⟨by rfl, ?hy146⟩) hH ?rest146
      case hy146 => intro w' hSw; (try dsimp only at hSw); go_simp; all_goals rfl
      simp only [Act.put, List.setIfInBounds_toArray, List.set_cons_zero, List.set_cons_succ, List.getElem_toArray, List.getElem_cons_zero, List.getElem_cons_succ]
      refine wpAnyH_take (i := 2) (v := ?v147) rfl (by kernel_rfl) (by kernel_rfl) (by kernel_rfl) (fun _ _ _ h => h) (Or.inl ⟨by rfl, ?hy147⟩) hH ?rest147
      case hy147 => intro w' hSw; (try dsimp only at hSw); go_simp; all_goals rfl
      simp only [Act.put, List.setIfInBounds_toArray, List.set_cons_zero, List.set_cons_succ, List.getElem_toArray, List.getElem_cons_zero, List.getElem_cons_succ]
      refine wpAnyH_take (i := 3) (v := ?v148) rfl (by kernel_rfl) (by kernel_rfl) (by kernel_rfl) (fun _ _ _ h => h) (Or.inl ⟨by rfl, ?hy148⟩) hH ?rest148
      case hy148 => intro w' hSw; (try dsimp only at hSw); go_simp; all_goals rfl
      simp only [Act.put, List.setIfInBounds_toArray, List.set_cons_zero, List.set_cons_succ, List.getElem_toArray, List.getElem_cons_zero, List.getElem_cons_succ]
      refine wpAnyH_take (i := 4) (v := ?v149) rfl (by kernel_rfl) (by kernel_rfl) (by kernel_rfl) (fun _ _ _ h => h) (Or.inl ⟨by rfl, ?hy149⟩) hH ?rest149
      case hy149 => intro w' hSw; (try dsimp only at hSw); go_simp; all_goals rfl
      simp only [Act.put, List.setIfInBounds_toArray, List.set_cons_zero, List.set_cons_succ, List.getElem_toArray, List.getElem_cons_zero, List.getElem_cons_succ]
      refine wpAnyH_take (i := 5) (v := ?v150) rfl (by kernel_rfl) (by kernel_rfl) (by kernel_rfl) (fun _ _ _ h => h) (Or.inl ⟨by rfl, ?hy150⟩) hH ?rest150
      case hy150 => intro w' hSw; (try dsimp only at hSw); go_simp; all_goals rfl
      simp only [Act.put, List.setIfInBounds_toArray, List.set_cons_zero, List.set_cons_succ, List.getElem_toArray, List.getElem_cons_zero, List.getElem_cons_succ]
      refine wpAnyH_take (i := 6) (v := ?v151) rfl (by kernel_rfl) (by kernel_rfl) (by kernel_rfl) (fun _ _ _ h => h) (Or.inl ⟨by rfl, ?hy151⟩) hH ?rest151
      case hy151 => intro w' hSw; (try dsimp only at hSw); go_simp; all_goals rfl
      simp only [Act.put, List.setIfInBounds_toArray, List.set_cons_zero, List.set_cons_succ, List.getElem_toArray, List.getElem_cons_zero, List.getElem_cons_succ]
      refine wpAnyH_take (i := 7) (v := ?v152) rfl (by kernel_rfl) (by kernel_rfl) (by kernel_rfl) (fun _ _ _ h => h) (Or.inl ⟨by rfl, ?hy152⟩) hH ?rest152
      case hy152 => intro w' hSw; (try dsimp only at hSw); go_simp; all_goals rfl
      simp only [Act.put, List.setIfInBounds_toArray, List.set_cons_zero, List.set_cons_succ, List.getElem_toArray, List.getElem_cons_zero, List.getElem_cons_succ]
      refine wpAnyH_take (i := 8) (v := ?v153) rfl (by kernel_rfl) (by kernel_rfl) (by kernel_rfl) (fun _ _ _ h => h) (Or.inl ⟨by rfl, ?hy153⟩) hH ?rest153
      case hy153 => intro w' hSw; (try dsimp only at hSw); go_simp; all_goals rfl
      simp only [Act.put, List.setIfInBounds_toArray, List.set_cons_zero, List.set_cons_succ, List.getElem_toArray, List.getElem_cons_zero, List.getElem_cons_succ]
      refine wpAnyH_take (i := 9) rfl (by kernel_rfl) (by kernel_rfl) (by kernel_rfl) (fun _ _ _ h => h) (Or.inr ⟨by rfl, rfl⟩) hH ?_
      simp only [Act.put, List.setIfInBounds_toArray, List.set_cons_zero, List.set_cons_succ, List.getElem_toArray, List.getElem_cons_zero, List.getElem_cons_succ]
      refine wpAnyH_take (i := 10) rfl (by kernel_rfl) (by kernel_rfl) (by kernel_rfl) (fun _ _ _ h => h) (Or.inr ⟨by rfl, rfl⟩) hH ?_
      simp only [Act.put, List.setIfInBounds_toArray, List.set_cons_zero, List.set_cons_succ, List.getElem_toArray, List.getElem_cons_zero, List.getElem_cons_succ]
      refine wpAnyH_take (i := 11) rfl (by kernel_rfl) (by kernel_rfl) (by kernel_rfl) (fun _ _ _ h => h) (Or.inr ⟨by rfl, rfl⟩) hH ?_
      simp only [Act.put, List.setIfInBounds_toArray, List.set_cons_zero, List.set_cons_succ, List.getElem_toArray, List.getElem_cons_zero, List.getElem_cons_succ]
      refine wpAnyH_take (i := 12) rfl (by kernel_rfl) (by kernel_rfl) (by kernel_rfl) (fun _ _ _ h => h) (Or.inr ⟨by rfl, rfl⟩) hH ?_
      simp only [Act.put, List.setIfInBounds_toArray, List.set_cons_zero, List.set_cons_succ, List.getElem_toArray, List.getElem_cons_zero, List.getElem_cons_succ]
      refine wpAnyH_take (i := 13) rfl (by kernel_rfl) (by kernel_rfl) (by kernel_rfl) (fun _ _ _ h => h) (Or.inr ⟨by rfl, rfl⟩) hH ?_
      simp only [Act.put, List.setIfInBounds_toArray, List.set_cons_zero, List.set_cons_succ, List.getElem_toArray, List.getElem_cons_zero, List.getElem_cons_succ]
      refine wpAnyH_take (i := 14) (v := ?v154) rfl (by kernel_rfl) (by kernel_rfl) (by kernel_rfl) (fun _ _ _ h => h) (Or.inl ⟨by rfl, ?hy154⟩) hH ?rest154
      case hy154 => intro w' hSw; (try dsimp only at hSw); go_simp; all_goals rfl
      simp only [Act.put, List.setIfInBounds_toArray, List.set_cons_zero, List.set_cons_succ, List.getElem_toArray, List.getElem_cons_zero, List.getElem_cons_succ]
      refine wpAnyH_take (i := 15) (v := ?v155) rfl (by kernel_rfl) (by kernel_rfl) (by kernel_rfl) (fun _ _ _ h => h) (Or.inl ⟨by rfl, ?hy155⟩) hH ?rest155
      case hy155 => intro w' hSw; (try dsimp only at hSw); go_simp; all_goals rfl
      simp only [Act.put, List.setIfInBounds_toArray, List.set_cons_zero, List.set_cons_succ, List.getElem_toArray, List.getElem_cons_zero, List.getElem_cons_succ]
      refine wpAnyH_done (by kernel_rfl) ?_ _
      have BF := hH.2.2.2.2
      clear hH
      have HF : Hid (0 = A) := by show _ = _; rw [← HA.out, refP_last (by simpa using q1) (by simpa using q2) q3 q4 (by rintro ⟨e, _⟩; exact absurd e (by simpa using qf)) (by simpa using q6) q7 H78.out (by rintro ⟨e, _⟩; exact absurd e (by simpa using qf)), if_neg (by rintro ⟨_, e, _⟩; exact absurd e (by simpa using qc))]
      go_wp2
      go_ret
      exact ⟨by rw [← HF.out]; rfl, BF⟩
    | true =>
    cases qo : (x.c != S.x.outcome) with
    | false =>
      go_wp2
      refine wp_region_held_drew (S := fun w' : World => w'.rangeAt w.heap.size 0 D ∧ w'.rangeAt (w.heap.size + 1) 0 E ∧ w'.cell? ⟨w.heap.size + 1, 1, none⟩ = some (.int .i64 x.k) ∧ w'.cell? ⟨w.heap.size + 1, 7, none⟩ = some (.int .i64 x.c) ∧ Below w.heap.size w w') (by kernel_rfl) ?_ (fun hH => ?_)
      · exact ⟨range_kept RD6 (Below.drew (Below.refl _ _)), range_kept RE6 (Below.drew (Below.refl _ _)), (HC.out _ (range_kept RD6 (Below.drew (Below.refl _ _))) (range_kept RE6 (Below.drew (Below.refl _ _)))).2.2.2.1, (HC.out _ (range_kept RD6 (Below.drew (Below.refl _ _))) (range_kept RE6 (Below.drew (Below.refl _ _)))).2.2.2.2.2.2.2.2, Below.drew BD6⟩
      clear BD6 RD6 RE6 c0 c7 c9 r1 r2 r3 r4 r6 r7
      refine wpAnyH_take (i := 0) (v := ?v156) rfl (by kernel_rfl) (by kernel_rfl) (by kernel_rfl) (fun _ _ _ h => h) (Or.inl ⟨by rfl, ?hy156⟩) hH ?rest156
      case hy156 => intro w' hSw; (try dsimp only at hSw); go_simp; all_goals rfl
      simp only [Act.put, List.setIfInBounds_toArray, List.set_cons_zero, List.set_cons_succ, List.getElem_toArray, List.getElem_cons_zero]
      refine wpAnyH_take (i := 1) (v := ?v157) rfl (by kernel_rfl) (by kernel_rfl) (by kernel_rfl) (fun _ _ _ h => h) (Or.inl ⟨by rfl, ?hy157⟩) hH ?rest157
      case hy157 => intro w' hSw; (try dsimp only at hSw); go_simp; all_goals rfl
      simp only [Act.put, List.setIfInBounds_toArray, List.set_cons_zero, List.set_cons_succ, List.getElem_toArray, List.getElem_cons_zero, List.getElem_cons_succ]
      refine wpAnyH_take (i := 2) (v := ?v158) rfl (by kernel_rfl) (by kernel_rfl) (by kernel_rfl) (fun _ _ _ h => h) (Or.inl ⟨by rfl, ?hy158⟩) hH ?rest158
      case hy158 => intro w' hSw; (try dsimp only at hSw); go_simp; all_goals rfl
      simp only [Act.put, List.setIfInBounds_toArray, List.set_cons_zero, List.set_cons_succ, List.getElem_toArray, List.getElem_cons_zero, List.getElem_cons_succ]
      refine wpAnyH_take (i := 3) (v := ?v159) rfl (by kernel_rfl) (by kernel_rfl) (by kernel_rfl) (fun _ _ _ h => h) (Or.inl ⟨by rfl, ?hy159⟩) hH ?rest159
      case hy159 => intro w' hSw; (try dsimp only at hSw); go_simp; all_goals rfl
      simp only [Act.put, List.setIfInBounds_toArray, List.set_cons_zero, List.set_cons_succ, List.getElem_toArray, List.getElem_cons_zero, List.getElem_cons_succ]
      refine wpAnyH_take (i := 4) (v := ?v160) rfl (by kernel_rfl) (by kernel_rfl) (by kernel_rfl) (fun _ _ _ h => h) (Or.inl ⟨by rfl, ?hy160⟩) hH ?rest160
      case hy160 => intro w' hSw; (try dsimp only at hSw); go_simp; all_goals rfl
      simp only [Act.put, List.setIfInBounds_toArray, List.set_cons_zero, List.set_cons_succ, List.getElem_toArray, List.getElem_cons_zero, List.getElem_cons_succ]
      refine wpAnyH_take (i := 5) (v := ?v161) rfl (by kernel_rfl) (by kernel_rfl) (by kernel_rfl) (fun _ _ _ h => h) (Or.inl ⟨by rfl, ?hy161⟩) hH ?rest161
      case hy161 => intro w' hSw; (try dsimp only at hSw); go_simp; all_goals rfl
      simp only [Act.put, List.setIfInBounds_toArray, List.set_cons_zero, List.set_cons_succ, List.getElem_toArray, List.getElem_cons_zero, List.getElem_cons_succ]
      refine wpAnyH_take (i := 6) (v := ?v162) rfl (by kernel_rfl) (by kernel_rfl) (by kernel_rfl) (fun _ _ _ h => h) (Or.inl ⟨by rfl, ?hy162⟩) hH ?rest162
      case hy162 => intro w' hSw; (try dsimp only at hSw); go_simp; all_goals rfl
      simp only [Act.put, List.setIfInBounds_toArray, List.set_cons_zero, List.set_cons_succ, List.getElem_toArray, List.getElem_cons_zero, List.getElem_cons_succ]
      refine wpAnyH_take (i := 7) (v := ?v163) rfl (by kernel_rfl) (by kernel_rfl) (by kernel_rfl) (fun _ _ _ h => h) (Or.inl ⟨by rfl, ?hy163⟩) hH ?rest163
      case hy163 => intro w' hSw; (try dsimp only at hSw); go_simp; all_goals rfl
      simp only [Act.put, List.setIfInBounds_toArray, List.set_cons_zero, List.set_cons_succ, List.getElem_toArray, List.getElem_cons_zero, List.getElem_cons_succ]
      refine wpAnyH_take (i := 8) (v := ?v164) rfl (by kernel_rfl) (by kernel_rfl) (by kernel_rfl) (fun _ _ _ h => h) (Or.inl ⟨by rfl, ?hy164⟩) hH ?rest164
      case hy164 => intro w' hSw; (try dsimp only at hSw); go_simp; all_goals rfl
      simp only [Act.put, List.setIfInBounds_toArray, List.set_cons_zero, List.set_cons_succ, List.getElem_toArray, List.getElem_cons_zero, List.getElem_cons_succ]
      refine wpAnyH_take (i := 9) (v := ?v165) rfl (by kernel_rfl) (by kernel_rfl) (by kernel_rfl) (fun _ _ _ h => h) (Or.inl ⟨by rfl, ?hy165⟩) hH ?rest165
      case hy165 => intro w' hSw; (try dsimp only at hSw); go_simp; all_goals rfl
      simp only [Act.put, List.setIfInBounds_toArray, List.set_cons_zero, List.set_cons_succ, List.getElem_toArray, List.getElem_cons_zero, List.getElem_cons_succ]
      refine wpAnyH_take (i := 10) (v := ?v166) rfl (by kernel_rfl) (by kernel_rfl) (by kernel_rfl) (fun _ _ _ h => h) (Or.inl ⟨by rfl, ?hy166⟩) hH ?rest166
      case hy166 => intro w' hSw; (try dsimp only at hSw); go_simp; all_goals rfl
      simp only [Act.put, List.setIfInBounds_toArray, List.set_cons_zero, List.set_cons_succ, List.getElem_toArray, List.getElem_cons_zero, List.getElem_cons_succ]
      refine wpAnyH_take (i := 11) rfl (by kernel_rfl) (by kernel_rfl) (by kernel_rfl) (fun _ _ _ h => h) (yieldsIf_load_mid (by rfl) _ _ rfl _ _ rfl D _ (fun w' hSw => hSw.1) Tryz.underlying25 rfl HL.out) hH ?_
      simp only [Act.put, List.setIfInBounds_toArray, List.set_cons_zero, List.set_cons_succ, List.getElem_toArray, List.getElem_cons_zero, List.getElem_cons_succ]
      refine wpAnyH_ready (rs := [12]) (by kernel_rfl) (by simp) ?_
      refine AllReadyH.cons rfl (fun K hK => ?_) AllReadyH.nil
      go_simp
      refine (HU.out _).mono ?_
      rintro e w9 ⟨rfl, b9⟩
      refine hK.out _ _ ?_ (fun hH2 => ?_)
      · exact ⟨range_kept hH.1 b9, range_kept hH.2.1 b9, (HC.out _ (range_kept hH.1 b9) (range_kept hH.2.1 b9)).2.2.2.1, (HC.out _ (range_kept hH.1 b9) (range_kept hH.2.1 b9)).2.2.2.2.2.2.2.2, andThen hH.2.2.2.2 b9⟩
      clear hK K hH
      have hH := hH2
      clear hH2
      refine wpAnyH_take (i := 13) (v := ?v167) rfl (by kernel_rfl) (by kernel_rfl) (by kernel_rfl) (fun _ _ _ h => h) (Or.inl ⟨by rfl, ?hy167⟩) hH ?rest167
      case hy167 => intro w' hSw; (try dsimp only at hSw); go_simp; all_goals rfl
      simp only [Act.put, List.setIfInBounds_toArray, List.set_cons_zero, List.set_cons_succ, List.getElem_toArray, List.getElem_cons_zero, List.getElem_cons_succ]
      refine wpAnyH_take (i := 14) (v := ?v168) rfl (by kernel_rfl) (by kernel_rfl) (by kernel_rfl) (fun _ _ _ h => h) (Or.inl ⟨by rfl, ?hy168⟩) hH ?rest168
      case hy168 => intro w' hSw; (try dsimp only at hSw); go_simp; all_goals rfl
      simp only [Act.put, List.setIfInBounds_toArray, List.set_cons_zero, List.set_cons_succ, List.getElem_toArray, List.getElem_cons_zero, List.getElem_cons_succ]
      refine wpAnyH_take (i := 15) (v := ?v169) rfl (by kernel_rfl) (by kernel_rfl) (by kernel_rfl) (fun _ _ _ h => h) (Or.inl ⟨by rfl, ?hy169⟩) hH ?rest169
      case hy169 => intro w' hSw; (try dsimp only at hSw); go_simp; all_goals rfl
      simp only [Act.put, List.setIfInBounds_toArray, List.set_cons_zero, List.set_cons_succ, List.getElem_toArray, List.getElem_cons_zero, List.getElem_cons_succ]
      refine wpAnyH_done (by kernel_rfl) ?_ _
      have BF := hH.2.2.2.2
      clear hH
      have HF : Hid (0 = A) := by show _ = _; rw [← HA.out, refP_last (by simpa using q1) (by simpa using q2) q3 q4 (by rintro ⟨e, _⟩; exact absurd e (by simpa using qf)) (by simpa using q6) q7 H78.out (by rintro ⟨e, _⟩; exact absurd e (by simpa using qf)), if_neg (by rintro ⟨_, _, e⟩; exact absurd e (by simpa using qo))]
      go_wp2
      go_ret
      exact ⟨by rw [← HF.out]; rfl, BF⟩
    | true =>
      go_wp2
      refine wp_region_held_drew (S := fun w' : World => w'.rangeAt w.heap.size 0 D ∧ w'.rangeAt (w.heap.size + 1) 0 E ∧ w'.cell? ⟨w.heap.size + 1, 1, none⟩ = some (.int .i64 x.k) ∧ w'.cell? ⟨w.heap.size + 1, 7, none⟩ = some (.int .i64 x.c) ∧ Below w.heap.size w w') (by kernel_rfl) ?_ (fun hH => ?_)
      · exact ⟨range_kept RD6 (Below.drew (Below.refl _ _)), range_kept RE6 (Below.drew (Below.refl _ _)), (HC.out _ (range_kept RD6 (Below.drew (Below.refl _ _))) (range_kept RE6 (Below.drew (Below.refl _ _)))).2.2.2.1, (HC.out _ (range_kept RD6 (Below.drew (Below.refl _ _))) (range_kept RE6 (Below.drew (Below.refl _ _)))).2.2.2.2.2.2.2.2, Below.drew BD6⟩
      clear BD6 RD6 RE6 c0 c7 c9 r1 r2 r3 r4 r6 r7
      refine wpAnyH_take (i := 0) (v := ?v170) rfl (by kernel_rfl) (by kernel_rfl) (by kernel_rfl) (fun _ _ _ h => h) (Or.inl ⟨by rfl, ?hy170⟩) hH ?rest170
      case hy170 => intro w' hSw; (try dsimp only at hSw); go_simp; all_goals rfl
      simp only [Act.put, List.setIfInBounds_toArray, List.set_cons_zero, List.set_cons_succ, List.getElem_toArray, List.getElem_cons_zero]
      refine wpAnyH_take (i := 1) (v := ?v171) rfl (by kernel_rfl) (by kernel_rfl) (by kernel_rfl) (fun _ _ _ h => h) (Or.inl ⟨by rfl, ?hy171⟩) hH ?rest171
      case hy171 => intro w' hSw; (try dsimp only at hSw); go_simp; all_goals rfl
      simp only [Act.put, List.setIfInBounds_toArray, List.set_cons_zero, List.set_cons_succ, List.getElem_toArray, List.getElem_cons_zero, List.getElem_cons_succ]
      refine wpAnyH_take (i := 2) (v := ?v172) rfl (by kernel_rfl) (by kernel_rfl) (by kernel_rfl) (fun _ _ _ h => h) (Or.inl ⟨by rfl, ?hy172⟩) hH ?rest172
      case hy172 => intro w' hSw; (try dsimp only at hSw); go_simp; all_goals rfl
      simp only [Act.put, List.setIfInBounds_toArray, List.set_cons_zero, List.set_cons_succ, List.getElem_toArray, List.getElem_cons_zero, List.getElem_cons_succ]
      refine wpAnyH_take (i := 3) (v := ?v173) rfl (by kernel_rfl) (by kernel_rfl) (by kernel_rfl) (fun _ _ _ h => h) (Or.inl ⟨by rfl, ?hy173⟩) hH ?rest173
      case hy173 => intro w' hSw; (try dsimp only at hSw); go_simp; all_goals rfl
      simp only [Act.put, List.setIfInBounds_toArray, List.set_cons_zero, List.set_cons_succ, List.getElem_toArray, List.getElem_cons_zero, List.getElem_cons_succ]
      refine wpAnyH_take (i := 4) (v := ?v174) rfl (by kernel_rfl) (by kernel_rfl) (by kernel_rfl) (fun _ _ _ h => h) (Or.inl ⟨by rfl, ?hy174⟩) hH ?rest174
      case hy174 => intro w' hSw; (try dsimp only at hSw); go_simp; all_goals rfl
      simp only [Act.put, List.setIfInBounds_toArray, List.set_cons_zero, List.set_cons_succ, List.getElem_toArray, List.getElem_cons_zero, List.getElem_cons_succ]
      refine wpAnyH_take (i := 5) (v := ?v175) rfl (by kernel_rfl) (by kernel_rfl) (by kernel_rfl) (fun _ _ _ h => h) (Or.inl ⟨by rfl, ?hy175⟩) hH ?rest175
      case hy175 => intro w' hSw; (try dsimp only at hSw); go_simp; all_goals rfl
      simp only [Act.put, List.setIfInBounds_toArray, List.set_cons_zero, List.set_cons_succ, List.getElem_toArray, List.getElem_cons_zero, List.getElem_cons_succ]
      refine wpAnyH_take (i := 6) (v := ?v176) rfl (by kernel_rfl) (by kernel_rfl) (by kernel_rfl) (fun _ _ _ h => h) (Or.inl ⟨by rfl, ?hy176⟩) hH ?rest176
      case hy176 => intro w' hSw; (try dsimp only at hSw); go_simp; all_goals rfl
      simp only [Act.put, List.setIfInBounds_toArray, List.set_cons_zero, List.set_cons_succ, List.getElem_toArray, List.getElem_cons_zero, List.getElem_cons_succ]
      refine wpAnyH_take (i := 7) (v := ?v177) rfl (by kernel_rfl) (by kernel_rfl) (by kernel_rfl) (fun _ _ _ h => h) (Or.inl ⟨by rfl, ?hy177⟩) hH ?rest177
      case hy177 => intro w' hSw; (try dsimp only at hSw); go_simp; all_goals rfl
      simp only [Act.put, List.setIfInBounds_toArray, List.set_cons_zero, List.set_cons_succ, List.getElem_toArray, List.getElem_cons_zero, List.getElem_cons_succ]
      refine wpAnyH_take (i := 8) (v := ?v178) rfl (by kernel_rfl) (by kernel_rfl) (by kernel_rfl) (fun _ _ _ h => h) (Or.inl ⟨by rfl, ?hy178⟩) hH ?rest178
      case hy178 => intro w' hSw; (try dsimp only at hSw); go_simp; all_goals rfl
      simp only [Act.put, List.setIfInBounds_toArray, List.set_cons_zero, List.set_cons_succ, List.getElem_toArray, List.getElem_cons_zero, List.getElem_cons_succ]
      refine wpAnyH_take (i := 9) (v := ?v179) rfl (by kernel_rfl) (by kernel_rfl) (by kernel_rfl) (fun _ _ _ h => h) (Or.inl ⟨by rfl, ?hy179⟩) hH ?rest179
      case hy179 => intro w' hSw; (try dsimp only at hSw); go_simp; all_goals rfl
      simp only [Act.put, List.setIfInBounds_toArray, List.set_cons_zero, List.set_cons_succ, List.getElem_toArray, List.getElem_cons_zero, List.getElem_cons_succ]
      refine wpAnyH_take (i := 10) (v := ?v180) rfl (by kernel_rfl) (by kernel_rfl) (by kernel_rfl) (fun _ _ _ h => h) (Or.inl ⟨by rfl, ?hy180⟩) hH ?rest180
      case hy180 => intro w' hSw; (try dsimp only at hSw); go_simp; all_goals rfl
      simp only [Act.put, List.setIfInBounds_toArray, List.set_cons_zero, List.set_cons_succ, List.getElem_toArray, List.getElem_cons_zero, List.getElem_cons_succ]
      refine wpAnyH_take (i := 11) rfl (by kernel_rfl) (by kernel_rfl) (by kernel_rfl) (fun _ _ _ h => h) (yieldsIf_load_mid (by rfl) _ _ rfl _ _ rfl D _ (fun w' hSw => hSw.1) Tryz.underlying25 rfl HL.out) hH ?_
      simp only [Act.put, List.setIfInBounds_toArray, List.set_cons_zero, List.set_cons_succ, List.getElem_toArray, List.getElem_cons_zero, List.getElem_cons_succ]
      refine wpAnyH_ready (rs := [12]) (by kernel_rfl) (by simp) ?_
      refine AllReadyH.cons rfl (fun K hK => ?_) AllReadyH.nil
      go_simp
      refine (HU.out _).mono ?_
      rintro e w9 ⟨rfl, b9⟩
      refine hK.out _ _ ?_ (fun hH2 => ?_)
      · exact ⟨range_kept hH.1 b9, range_kept hH.2.1 b9, (HC.out _ (range_kept hH.1 b9) (range_kept hH.2.1 b9)).2.2.2.1, (HC.out _ (range_kept hH.1 b9) (range_kept hH.2.1 b9)).2.2.2.2.2.2.2.2, andThen hH.2.2.2.2 b9⟩
      clear hK K hH
      have hH := hH2
      clear hH2
      refine wpAnyH_take (i := 13) (v := ?v181) rfl (by kernel_rfl) (by kernel_rfl) (by kernel_rfl) (fun _ _ _ h => h) (Or.inl ⟨by rfl, ?hy181⟩) hH ?rest181
      case hy181 => intro w' hSw; (try dsimp only at hSw); go_simp; all_goals rfl
      simp only [Act.put, List.setIfInBounds_toArray, List.set_cons_zero, List.set_cons_succ, List.getElem_toArray, List.getElem_cons_zero, List.getElem_cons_succ]
      refine wpAnyH_take (i := 14) (v := ?v182) rfl (by kernel_rfl) (by kernel_rfl) (by kernel_rfl) (fun _ _ _ h => h) (Or.inl ⟨by rfl, ?hy182⟩) hH ?rest182
      case hy182 => intro w' hSw; (try dsimp only at hSw); go_simp; all_goals rfl
      simp only [Act.put, List.setIfInBounds_toArray, List.set_cons_zero, List.set_cons_succ, List.getElem_toArray, List.getElem_cons_zero, List.getElem_cons_succ]
      refine wpAnyH_take (i := 15) (v := ?v183) rfl (by kernel_rfl) (by kernel_rfl) (by kernel_rfl) (fun _ _ _ h => h) (Or.inl ⟨by rfl, ?hy183⟩) hH ?rest183
      case hy183 => intro w' hSw; (try dsimp only at hSw); go_simp; all_goals rfl
      simp only [Act.put, List.setIfInBounds_toArray, List.set_cons_zero, List.set_cons_succ, List.getElem_toArray, List.getElem_cons_zero, List.getElem_cons_succ]
      refine wpAnyH_done (by kernel_rfl) ?_ _
      have BF := hH.2.2.2.2
      clear hH
      have HF : Hid (109 = A) := by show _ = _; rw [← HA.out, refP_last (by simpa using q1) (by simpa using q2) q3 q4 (by rintro ⟨e, _⟩; exact absurd e (by simpa using qf)) (by simpa using q6) q7 H78.out (by rintro ⟨e, _⟩; exact absurd e (by simpa using qf)), if_pos ⟨by simpa using qk, by simpa using qc, by simpa using qo⟩]
      go_wp2
      go_ret
      exact ⟨by rw [← HF.out]; rfl, BF⟩
  | false =>
    clear q8
    go_wp2
    refine wp_region_held_drew (S := fun w' : World => w'.rangeAt w.heap.size 0 D ∧ w'.rangeAt (w.heap.size + 1) 0 E ∧ w'.cell? ⟨w.heap.size + 1, 4, none⟩ = some (.int .i64 x.t) ∧ Below w.heap.size w w') (by kernel_rfl) ?_ (fun hH => ?_)
    · exact ⟨range_kept RD4 (Below.drew (Below.refl _ _)), range_kept RE4 (Below.drew (Below.refl _ _)), (HC.out _ (range_kept RD4 (Below.drew (Below.refl _ _))) (range_kept RE4 (Below.drew (Below.refl _ _)))).2.2.2.2.2.2.1, Below.drew BD4⟩
    clear BD4 RD4 RE4 c0 c7 c9 r1 r2 r3 r4 r6 r7
    refine wpAnyH_take (i := 0) (v := ?v184) rfl (by kernel_rfl) (by kernel_rfl) (by kernel_rfl) (fun _ _ _ h => h) (Or.inl ⟨by rfl, ?hy184⟩) hH ?rest184
    case hy184 => intro w' hSw; (try dsimp only at hSw); go_simp; all_goals rfl
    simp only [Act.put, List.setIfInBounds_toArray, List.set_cons_zero, List.set_cons_succ, List.getElem_toArray, List.getElem_cons_zero]
    refine wpAnyH_take (i := 1) (v := ?v185) rfl (by kernel_rfl) (by kernel_rfl) (by kernel_rfl) (fun _ _ _ h => h) (Or.inl ⟨by rfl, ?hy185⟩) hH ?rest185
    case hy185 => intro w' hSw; (try dsimp only at hSw); go_simp; all_goals rfl
    simp only [Act.put, List.setIfInBounds_toArray, List.set_cons_zero, List.set_cons_succ, List.getElem_toArray, List.getElem_cons_zero, List.getElem_cons_succ]
    refine wpAnyH_take (i := 2) (v := ?v186) rfl (by kernel_rfl) (by kernel_rfl) (by kernel_rfl) (fun _ _ _ h => h) (Or.inl ⟨by rfl, ?hy186⟩) hH ?rest186
    case hy186 => intro w' hSw; (try dsimp only at hSw); go_simp; all_goals rfl
    simp only [Act.put, List.setIfInBounds_toArray, List.set_cons_zero, List.set_cons_succ, List.getElem_toArray, List.getElem_cons_zero, List.getElem_cons_succ]
    refine wpAnyH_take (i := 3) (v := ?v187) rfl (by kernel_rfl) (by kernel_rfl) (by kernel_rfl) (fun _ _ _ h => h) (Or.inl ⟨by rfl, ?hy187⟩) hH ?rest187
    case hy187 => intro w' hSw; (try dsimp only at hSw); go_simp; all_goals rfl
    simp only [Act.put, List.setIfInBounds_toArray, List.set_cons_zero, List.set_cons_succ, List.getElem_toArray, List.getElem_cons_zero, List.getElem_cons_succ]
    refine wpAnyH_take (i := 4) rfl (by kernel_rfl) (by kernel_rfl) (by kernel_rfl) (fun _ _ _ h => h) (Or.inr ⟨by rfl, rfl⟩) hH ?_
    simp only [Act.put, List.setIfInBounds_toArray, List.set_cons_zero, List.set_cons_succ, List.getElem_toArray, List.getElem_cons_zero, List.getElem_cons_succ]
    refine wpAnyH_take (i := 5) rfl (by kernel_rfl) (by kernel_rfl) (by kernel_rfl) (fun _ _ _ h => h) (Or.inr ⟨by rfl, rfl⟩) hH ?_
    simp only [Act.put, List.setIfInBounds_toArray, List.set_cons_zero, List.set_cons_succ, List.getElem_toArray, List.getElem_cons_zero, List.getElem_cons_succ]
    refine wpAnyH_take (i := 6) rfl (by kernel_rfl) (by kernel_rfl) (by kernel_rfl) (fun _ _ _ h => h) (Or.inr ⟨by rfl, rfl⟩) hH ?_
    simp only [Act.put, List.setIfInBounds_toArray, List.set_cons_zero, List.set_cons_succ, List.getElem_toArray, List.getElem_cons_zero, List.getElem_cons_succ]
    refine wpAnyH_take (i := 7) rfl (by kernel_rfl) (by kernel_rfl) (by kernel_rfl) (fun _ _ _ h => h) (Or.inr ⟨by rfl, rfl⟩) hH ?_
    simp only [Act.put, List.setIfInBounds_toArray, List.set_cons_zero, List.set_cons_succ, List.getElem_toArray, List.getElem_cons_zero, List.getElem_cons_succ]
    refine wpAnyH_take (i := 8) rfl (by kernel_rfl) (by kernel_rfl) (by kernel_rfl) (fun _ _ _ h => h) (Or.inr ⟨by rfl, rfl⟩) hH ?_
    simp only [Act.put, List.setIfInBounds_toArray, List.set_cons_zero, List.set_cons_succ, List.getElem_toArray, List.getElem_cons_zero, List.getElem_cons_succ]
    refine wpAnyH_take (i := 9) (v := ?v188) rfl (by kernel_rfl) (by kernel_rfl) (by kernel_rfl) (fun _ _ _ h => h) (Or.inl ⟨by rfl, ?hy188⟩) hH ?rest188
    case hy188 => intro w' hSw; (try dsimp only at hSw); go_simp; all_goals rfl
    simp only [Act.put, List.setIfInBounds_toArray, List.set_cons_zero, List.set_cons_succ, List.getElem_toArray, List.getElem_cons_zero, List.getElem_cons_succ]
    refine wpAnyH_take (i := 10) (v := ?v189) rfl (by kernel_rfl) (by kernel_rfl) (by kernel_rfl) (fun _ _ _ h => h) (Or.inl ⟨by rfl, ?hy189⟩) hH ?rest189
    case hy189 => intro w' hSw; (try dsimp only at hSw); go_simp; all_goals rfl
    simp only [Act.put, List.setIfInBounds_toArray, List.set_cons_zero, List.set_cons_succ, List.getElem_toArray, List.getElem_cons_zero, List.getElem_cons_succ]
    refine wpAnyH_done (by kernel_rfl) ?_ _
    have BD6 := hH.2.2.2
    have RD6 := hH.1
    have RE6 := hH.2.1
    clear hH
    obtain ⟨c0, c7, c9, r1, r2, r3, r4, r6, r7⟩ := HC.out _ RD6 RE6
    cases qk : (x.k == 7) with
    | false =>
      go_wp2
      refine wp_region_held_drew (S := fun w' : World => w'.rangeAt w.heap.size 0 D ∧ w'.rangeAt (w.heap.size + 1) 0 E ∧ w'.cell? ⟨w.heap.size + 1, 1, none⟩ = some (.int .i64 x.k) ∧ w'.cell? ⟨w.heap.size + 1, 7, none⟩ = some (.int .i64 x.c) ∧ Below w.heap.size w w') (by kernel_rfl) ?_ (fun hH => ?_)
      · exact ⟨range_kept RD6 (Below.drew (Below.refl _ _)), range_kept RE6 (Below.drew (Below.refl _ _)), (HC.out _ (range_kept RD6 (Below.drew (Below.refl _ _))) (range_kept RE6 (Below.drew (Below.refl _ _)))).2.2.2.1, (HC.out _ (range_kept RD6 (Below.drew (Below.refl _ _))) (range_kept RE6 (Below.drew (Below.refl _ _)))).2.2.2.2.2.2.2.2, Below.drew BD6⟩
      clear BD6 RD6 RE6 c0 c7 c9 r1 r2 r3 r4 r6 r7
      refine wpAnyH_take (i := 0) (v := ?v190) rfl (by kernel_rfl) (by kernel_rfl) (by kernel_rfl) (fun _ _ _ h => h) (Or.inl ⟨by rfl, ?hy190⟩) hH ?rest190
      case hy190 => intro w' hSw; (try dsimp only at hSw); go_simp; all_goals rfl
      simp only [Act.put, List.setIfInBounds_toArray, List.set_cons_zero, List.set_cons_succ, List.getElem_toArray, List.getElem_cons_zero]
      refine wpAnyH_take (i := 1) (v := ?v191) rfl (by kernel_rfl) (by kernel_rfl) (by kernel_rfl) (fun _ _ _ h => h) (Or.inl ⟨by rfl, ?hy191⟩) hH ?rest191
      case hy191 => intro w' hSw; (try dsimp only at hSw); go_simp; all_goals rfl
      simp only [Act.put, List.setIfInBounds_toArray, List.set_cons_zero, List.set_cons_succ, List.getElem_toArray, List.getElem_cons_zero, List.getElem_cons_succ]
      refine wpAnyH_take (i := 2) (v := ?v192) rfl (by kernel_rfl) (by kernel_rfl) (by kernel_rfl) (fun _ _ _ h => h) (Or.inl ⟨by rfl, ?hy192⟩) hH ?rest192
      case hy192 => intro w' hSw; (try dsimp only at hSw); go_simp; all_goals rfl
      simp only [Act.put, List.setIfInBounds_toArray, List.set_cons_zero, List.set_cons_succ, List.getElem_toArray, List.getElem_cons_zero, List.getElem_cons_succ]
      refine wpAnyH_take (i := 3) (v := ?v193) rfl (by kernel_rfl) (by kernel_rfl) (by kernel_rfl) (fun _ _ _ h => h) (Or.inl ⟨by rfl, ?hy193⟩) hH ?rest193
      case hy193 => intro w' hSw; (try dsimp only at hSw); go_simp; all_goals rfl
      simp only [Act.put, List.setIfInBounds_toArray, List.set_cons_zero, List.set_cons_succ, List.getElem_toArray, List.getElem_cons_zero, List.getElem_cons_succ]
      refine wpAnyH_take (i := 4) rfl (by kernel_rfl) (by kernel_rfl) (by kernel_rfl) (fun _ _ _ h => h) (Or.inr ⟨by rfl, rfl⟩) hH ?_
      simp only [Act.put, List.setIfInBounds_toArray, List.set_cons_zero, List.set_cons_succ, List.getElem_toArray, List.getElem_cons_zero, List.getElem_cons_succ]
      refine wpAnyH_take (i := 5) rfl (by kernel_rfl) (by kernel_rfl) (by kernel_rfl) (fun _ _ _ h => h) (Or.inr ⟨by rfl, rfl⟩) hH ?_
      simp only [Act.put, List.setIfInBounds_toArray, List.set_cons_zero, List.set_cons_succ, List.getElem_toArray, List.getElem_cons_zero, List.getElem_cons_succ]
      refine wpAnyH_take (i := 6) rfl (by kernel_rfl) (by kernel_rfl) (by kernel_rfl) (fun _ _ _ h => h) (Or.inr ⟨by rfl, rfl⟩) hH ?_
      simp only [Act.put, List.setIfInBounds_toArray, List.set_cons_zero, List.set_cons_succ, List.getElem_toArray, List.getElem_cons_zero, List.getElem_cons_succ]
      refine wpAnyH_take (i := 7) (v := ?v194) rfl (by kernel_rfl) (by kernel_rfl) (by kernel_rfl) (fun _ _ _ h => h) (Or.inl ⟨by rfl, ?hy194⟩) hH ?rest194
      case hy194 => intro w' hSw; (try dsimp only at hSw); go_simp; all_goals rfl
      simp only [Act.put, List.setIfInBounds_toArray, List.set_cons_zero, List.set_cons_succ, List.getElem_toArray, List.getElem_cons_zero, List.getElem_cons_succ]
      refine wpAnyH_take (i := 8) (v := ?v195) rfl (by kernel_rfl) (by kernel_rfl) (by kernel_rfl) (fun _ _ _ h => h) (Or.inl ⟨by rfl, ?hy195⟩) hH ?rest195
      case hy195 => intro w' hSw; (try dsimp only at hSw); go_simp; all_goals rfl
      simp only [Act.put, List.setIfInBounds_toArray, List.set_cons_zero, List.set_cons_succ, List.getElem_toArray, List.getElem_cons_zero, List.getElem_cons_succ]
      refine wpAnyH_take (i := 9) rfl (by kernel_rfl) (by kernel_rfl) (by kernel_rfl) (fun _ _ _ h => h) (Or.inr ⟨by rfl, rfl⟩) hH ?_
      simp only [Act.put, List.setIfInBounds_toArray, List.set_cons_zero, List.set_cons_succ, List.getElem_toArray, List.getElem_cons_zero, List.getElem_cons_succ]
      refine wpAnyH_take (i := 10) rfl (by kernel_rfl) (by kernel_rfl) (by kernel_rfl) (fun _ _ _ h => h) (Or.inr ⟨by rfl, rfl⟩) hH ?_
      simp only [Act.put, List.setIfInBounds_toArray, List.set_cons_zero, List.set_cons_succ, List.getElem_toArray, List.getElem_cons_zero, List.getElem_cons_succ]
      refine wpAnyH_take (i := 11) rfl (by kernel_rfl) (by kernel_rfl) (by kernel_rfl) (fun _ _ _ h => h) (Or.inr ⟨by rfl, rfl⟩) hH ?_
      simp only [Act.put, List.setIfInBounds_toArray, List.set_cons_zero, List.set_cons_succ, List.getElem_toArray, List.getElem_cons_zero, List.getElem_cons_succ]
      refine wpAnyH_take (i := 12) rfl (by kernel_rfl) (by kernel_rfl) (by kernel_rfl) (fun _ _ _ h => h) (Or.inr ⟨by rfl, rfl⟩) hH ?_
      simp only [Act.put, List.setIfInBounds_toArray, List.set_cons_zero, List.set_cons_succ, List.getElem_toArray, List.getElem_cons_zero, List.getElem_cons_succ]
      refine wpAnyH_take (i := 13) rfl (by kernel_rfl) (by kernel_rfl) (by kernel_rfl) (fun _ _ _ h => h) (Or.inr ⟨by rfl, rfl⟩) hH ?_
      simp only [Act.put, List.setIfInBounds_toArray, List.set_cons_zero, List.set_cons_succ, List.getElem_toArray, List.getElem_cons_zero, List.getElem_cons_succ]
      refine wpAnyH_take (i := 14) (v := ?v196) rfl (by kernel_rfl) (by kernel_rfl) (by kernel_rfl) (fun _ _ _ h => h) (Or.inl ⟨by rfl, ?hy196⟩) hH ?rest196
      case hy196 => intro w' hSw; (try dsimp only at hSw); go_simp; all_goals rfl
      simp only [Act.put, List.setIfInBounds_toArray, List.set_cons_zero, List.set_cons_succ, List.getElem_toArray, List.getElem_cons_zero, List.getElem_cons_succ]
      refine wpAnyH_take (i := 15) (v := ?v197) rfl (by kernel_rfl) (by kernel_rfl) (by kernel_rfl) (fun _ _ _ h => h) (Or.inl ⟨by rfl, ?hy197⟩) hH ?rest197
      case hy197 => intro w' hSw; (try dsimp only at hSw); go_simp; all_goals rfl
      simp only [Act.put, List.setIfInBounds_toArray, List.set_cons_zero, List.set_cons_succ, List.getElem_toArray, List.getElem_cons_zero, List.getElem_cons_succ]
      refine wpAnyH_done (by kernel_rfl) ?_ _
      have BF := hH.2.2.2.2
      clear hH
      have HF : Hid (0 = A) := by show _ = _; rw [← HA.out, refP_last (by simpa using q1) (by simpa using q2) q3 q4 (by rintro ⟨e, _⟩; exact absurd e (by simpa using qf)) (by simpa using q6) q7 H78.out (by rintro ⟨e, _⟩; exact absurd e (by simpa using qf)), if_neg (by rintro ⟨e, _⟩; exact absurd e (by simpa using qk))]
      go_wp2
      go_ret
      exact ⟨by rw [← HF.out]; rfl, BF⟩
    | true =>
    cases qc : (x.c != 0) with
    | false =>
      go_wp2
      refine wp_region_held_drew (S := fun w' : World => w'.rangeAt w.heap.size 0 D ∧ w'.rangeAt (w.heap.size + 1) 0 E ∧ w'.cell? ⟨w.heap.size + 1, 1, none⟩ = some (.int .i64 x.k) ∧ w'.cell? ⟨w.heap.size + 1, 7, none⟩ = some (.int .i64 x.c) ∧ Below w.heap.size w w') (by kernel_rfl) ?_ (fun hH => ?_)
      · exact ⟨range_kept RD6 (Below.drew (Below.refl _ _)), range_kept RE6 (Below.drew (Below.refl _ _)), (HC.out _ (range_kept RD6 (Below.drew (Below.refl _ _))) (range_kept RE6 (Below.drew (Below.refl _ _)))).2.2.2.1, (HC.out _ (range_kept RD6 (Below.drew (Below.refl _ _))) (range_kept RE6 (Below.drew (Below.refl _ _)))).2.2.2.2.2.2.2.2, Below.drew BD6⟩
      clear BD6 RD6 RE6 c0 c7 c9 r1 r2 r3 r4 r6 r7
      refine wpAnyH_take (i := 0) (v := ?v198) rfl (by kernel_rfl) (by kernel_rfl) (by kernel_rfl) (fun _ _ _ h => h) (Or.inl ⟨by rfl, ?hy198⟩) hH ?rest198
      case hy198 => intro w' hSw; (try dsimp only at hSw); go_simp; all_goals rfl
      simp only [Act.put, List.setIfInBounds_toArray, List.set_cons_zero, List.set_cons_succ, List.getElem_toArray, List.getElem_cons_zero]
      refine wpAnyH_take (i := 1) (v := ?v199) rfl (by kernel_rfl) (by kernel_rfl) (by kernel_rfl) (fun _ _ _ h => h) (Or.inl ⟨by rfl, ?hy199⟩) hH ?rest199
      case hy199 => intro w' hSw; (try dsimp only at hSw); go_simp; all_goals rfl
      simp only [Act.put, List.setIfInBounds_toArray, List.set_cons_zero, List.set_cons_succ, List.getElem_toArray, List.getElem_cons_zero, List.getElem_cons_succ]
      refine wpAnyH_take (i := 2) (v := ?v200) rfl (by kernel_rfl) (by kernel_rfl) (by kernel_rfl) (fun _ _ _ h => h) (Or.inl ⟨by rfl, ?hy200⟩) hH ?rest200
      case hy200 => intro w' hSw; (try dsimp only at hSw); go_simp; all_goals rfl
      simp only [Act.put, List.setIfInBounds_toArray, List.set_cons_zero, List.set_cons_succ, List.getElem_toArray, List.getElem_cons_zero, List.getElem_cons_succ]
      refine wpAnyH_take (i := 3) (v := ?v201) rfl (by kernel_rfl) (by kernel_rfl) (by kernel_rfl) (fun _ _ _ h => h) (Or.inl ⟨by rfl, ?hy201⟩) hH ?rest201
      case hy201 => intro w' hSw; (try dsimp only at hSw); go_simp; all_goals rfl
      simp only [Act.put, List.setIfInBounds_toArray, List.set_cons_zero, List.set_cons_succ, List.getElem_toArray, List.getElem_cons_zero, List.getElem_cons_succ]
      refine wpAnyH_take (i := 4) (v := ?v202) rfl (by kernel_rfl) (by kernel_rfl) (by kernel_rfl) (fun _ _ _ h => h) (Or.inl ⟨by rfl, ?hy202⟩) hH ?rest202
      case hy202 => intro w' hSw; (try dsimp only at hSw); go_simp; all_goals rfl
      simp only [Act.put, List.setIfInBounds_toArray, List.set_cons_zero, List.set_cons_succ, List.getElem_toArray, List.getElem_cons_zero, List.getElem_cons_succ]
      refine wpAnyH_take (i := 5) (v := ?v203) rfl (by kernel_rfl) (by kernel_rfl) (by kernel_rfl) (fun _ _ _ h => h) (Or.inl ⟨by rfl, ?hy203⟩) hH ?rest203
      case hy203 => intro w' hSw; (try dsimp only at hSw); go_simp; all_goals rfl
      simp only [Act.put, List.setIfInBounds_toArray, List.set_cons_zero, List.set_cons_succ, List.getElem_toArray, List.getElem_cons_zero, List.getElem_cons_succ]
      refine wpAnyH_take (i := 6) (v := ?v204) rfl (by kernel_rfl) (by kernel_rfl) (by kernel_rfl) (fun _ _ _ h => h) (Or.inl ⟨by rfl, ?hy204⟩) hH ?rest204
      case hy204 => intro w' hSw; (try dsimp only at hSw); go_simp; all_goals rfl
      simp only [Act.put, List.setIfInBounds_toArray, List.set_cons_zero, List.set_cons_succ, List.getElem_toArray, List.getElem_cons_zero, List.getElem_cons_succ]
      refine wpAnyH_take (i := 7) (v := ?v205) rfl (by kernel_rfl) (by kernel_rfl) (by kernel_rfl) (fun _ _ _ h => h) (Or.inl ⟨by rfl, ?hy205⟩) hH ?rest205
      case hy205 => intro w' hSw; (try dsimp only at hSw); go_simp; all_goals rfl
      simp only [Act.put, List.setIfInBounds_toArray, List.set_cons_zero, List.set_cons_succ, List.getElem_toArray, List.getElem_cons_zero, List.getElem_cons_succ]
      refine wpAnyH_take (i := 8) (v := ?v206) rfl (by kernel_rfl) (by kernel_rfl) (by kernel_rfl) (fun _ _ _ h => h) (Or.inl ⟨by rfl, ?hy206⟩) hH ?rest206
      case hy206 => intro w' hSw; (try dsimp only at hSw); go_simp; all_goals rfl
      simp only [Act.put, List.setIfInBounds_toArray, List.set_cons_zero, List.set_cons_succ, List.getElem_toArray, List.getElem_cons_zero, List.getElem_cons_succ]
      refine wpAnyH_take (i := 9) rfl (by kernel_rfl) (by kernel_rfl) (by kernel_rfl) (fun _ _ _ h => h) (Or.inr ⟨by rfl, rfl⟩) hH ?_
      simp only [Act.put, List.setIfInBounds_toArray, List.set_cons_zero, List.set_cons_succ, List.getElem_toArray, List.getElem_cons_zero, List.getElem_cons_succ]
      refine wpAnyH_take (i := 10) rfl (by kernel_rfl) (by kernel_rfl) (by kernel_rfl) (fun _ _ _ h => h) (Or.inr ⟨by rfl, rfl⟩) hH ?_
      simp only [Act.put, List.setIfInBounds_toArray, List.set_cons_zero, List.set_cons_succ, List.getElem_toArray, List.getElem_cons_zero, List.getElem_cons_succ]
      refine wpAnyH_take (i := 11) rfl (by kernel_rfl) (by kernel_rfl) (by kernel_rfl) (fun _ _ _ h => h) (Or.inr ⟨by rfl, rfl⟩) hH ?_
      simp only [Act.put, List.setIfInBounds_toArray, List.set_cons_zero, List.set_cons_succ, List.getElem_toArray, List.getElem_cons_zero, List.getElem_cons_succ]
      refine wpAnyH_take (i := 12) rfl (by kernel_rfl) (by kernel_rfl) (by kernel_rfl) (fun _ _ _ h => h) (Or.inr ⟨by rfl, rfl⟩) hH ?_
      simp only [Act.put, List.setIfInBounds_toArray, List.set_cons_zero, List.set_cons_succ, List.getElem_toArray, List.getElem_cons_zero, List.getElem_cons_succ]
      refine wpAnyH_take (i := 13) rfl (by kernel_rfl) (by kernel_rfl) (by kernel_rfl) (fun _ _ _ h => h) (Or.inr ⟨by rfl, rfl⟩) hH ?_
      simp only [Act.put, List.setIfInBounds_toArray, List.set_cons_zero, List.set_cons_succ, List.getElem_toArray, List.getElem_cons_zero, List.getElem_cons_succ]
      refine wpAnyH_take (i := 14) (v := ?v207) rfl (by kernel_rfl) (by kernel_rfl) (by kernel_rfl) (fun _ _ _ h => h) (Or.inl ⟨by rfl, ?hy207⟩) hH ?rest207
      case hy207 => intro w' hSw; (try dsimp only at hSw); go_simp; all_goals rfl
      simp only [Act.put, List.setIfInBounds_toArray, List.set_cons_zero, List.set_cons_succ, List.getElem_toArray, List.getElem_cons_zero, List.getElem_cons_succ]
      refine wpAnyH_take (i := 15) (v := ?v208) rfl (by kernel_rfl) (by kernel_rfl) (by kernel_rfl) (fun _ _ _ h => h) (Or.inl ⟨by rfl, ?hy208⟩) hH ?rest208
      case hy208 => intro w' hSw; (try dsimp only at hSw); go_simp; all_goals rfl
      simp only [Act.put, List.setIfInBounds_toArray, List.set_cons_zero, List.set_cons_succ, List.getElem_toArray, List.getElem_cons_zero, List.getElem_cons_succ]
      refine wpAnyH_done (by kernel_rfl) ?_ _
      have BF := hH.2.2.2.2
      clear hH
      have HF : Hid (0 = A) := by show _ = _; rw [← HA.out, refP_last (by simpa using q1) (by simpa using q2) q3 q4 (by rintro ⟨e, _⟩; exact absurd e (by simpa using qf)) (by simpa using q6) q7 H78.out (by rintro ⟨e, _⟩; exact absurd e (by simpa using qf)), if_neg (by rintro ⟨_, e, _⟩; exact absurd e (by simpa using qc))]
      go_wp2
      go_ret
      exact ⟨by rw [← HF.out]; rfl, BF⟩
    | true =>
    cases qo : (x.c != S.x.outcome) with
    | false =>
      go_wp2
      refine wp_region_held_drew (S := fun w' : World => w'.rangeAt w.heap.size 0 D ∧ w'.rangeAt (w.heap.size + 1) 0 E ∧ w'.cell? ⟨w.heap.size + 1, 1, none⟩ = some (.int .i64 x.k) ∧ w'.cell? ⟨w.heap.size + 1, 7, none⟩ = some (.int .i64 x.c) ∧ Below w.heap.size w w') (by kernel_rfl) ?_ (fun hH => ?_)
      · exact ⟨range_kept RD6 (Below.drew (Below.refl _ _)), range_kept RE6 (Below.drew (Below.refl _ _)), (HC.out _ (range_kept RD6 (Below.drew (Below.refl _ _))) (range_kept RE6 (Below.drew (Below.refl _ _)))).2.2.2.1, (HC.out _ (range_kept RD6 (Below.drew (Below.refl _ _))) (range_kept RE6 (Below.drew (Below.refl _ _)))).2.2.2.2.2.2.2.2, Below.drew BD6⟩
      clear BD6 RD6 RE6 c0 c7 c9 r1 r2 r3 r4 r6 r7
      refine wpAnyH_take (i := 0) (v := ?v209) rfl (by kernel_rfl) (by kernel_rfl) (by kernel_rfl) (fun _ _ _ h => h) (Or.inl ⟨by rfl, ?hy209⟩) hH ?rest209
      case hy209 => intro w' hSw; (try dsimp only at hSw); go_simp; all_goals rfl
      simp only [Act.put, List.setIfInBounds_toArray, List.set_cons_zero, List.set_cons_succ, List.getElem_toArray, List.getElem_cons_zero]
      refine wpAnyH_take (i := 1) (v := ?v210) rfl (by kernel_rfl) (by kernel_rfl) (by kernel_rfl) (fun _ _ _ h => h) (Or.inl ⟨by rfl, ?hy210⟩) hH ?rest210
      case hy210 => intro w' hSw; (try dsimp only at hSw); go_simp; all_goals rfl
      simp only [Act.put, List.setIfInBounds_toArray, List.set_cons_zero, List.set_cons_succ, List.getElem_toArray, List.getElem_cons_zero, List.getElem_cons_succ]
      refine wpAnyH_take (i := 2) (v := ?v211) rfl (by kernel_rfl) (by kernel_rfl) (by kernel_rfl) (fun _ _ _ h => h) (Or.inl ⟨by rfl, ?hy211⟩) hH ?rest211
      case hy211 => intro w' hSw; (try dsimp only at hSw); go_simp; all_goals rfl
      simp only [Act.put, List.setIfInBounds_toArray, List.set_cons_zero, List.set_cons_succ, List.getElem_toArray, List.getElem_cons_zero, List.getElem_cons_succ]
      refine wpAnyH_take (i := 3) (v := ?v212) rfl (by kernel_rfl) (by kernel_rfl) (by kernel_rfl) (fun _ _ _ h => h) (Or.inl ⟨by rfl, ?hy212⟩) hH ?rest212
      case hy212 => intro w' hSw; (try dsimp only at hSw); go_simp; all_goals rfl
      simp only [Act.put, List.setIfInBounds_toArray, List.set_cons_zero, List.set_cons_succ, List.getElem_toArray, List.getElem_cons_zero, List.getElem_cons_succ]
      refine wpAnyH_take (i := 4) (v := ?v213) rfl (by kernel_rfl) (by kernel_rfl) (by kernel_rfl) (fun _ _ _ h => h) (Or.inl ⟨by rfl, ?hy213⟩) hH ?rest213
      case hy213 => intro w' hSw; (try dsimp only at hSw); go_simp; all_goals rfl
      simp only [Act.put, List.setIfInBounds_toArray, List.set_cons_zero, List.set_cons_succ, List.getElem_toArray, List.getElem_cons_zero, List.getElem_cons_succ]
      refine wpAnyH_take (i := 5) (v := ?v214) rfl (by kernel_rfl) (by kernel_rfl) (by kernel_rfl) (fun _ _ _ h => h) (Or.inl ⟨by rfl, ?hy214⟩) hH ?rest214
      case hy214 => intro w' hSw; (try dsimp only at hSw); go_simp; all_goals rfl
      simp only [Act.put, List.setIfInBounds_toArray, List.set_cons_zero, List.set_cons_succ, List.getElem_toArray, List.getElem_cons_zero, List.getElem_cons_succ]
      refine wpAnyH_take (i := 6) (v := ?v215) rfl (by kernel_rfl) (by kernel_rfl) (by kernel_rfl) (fun _ _ _ h => h) (Or.inl ⟨by rfl, ?hy215⟩) hH ?rest215
      case hy215 => intro w' hSw; (try dsimp only at hSw); go_simp; all_goals rfl
      simp only [Act.put, List.setIfInBounds_toArray, List.set_cons_zero, List.set_cons_succ, List.getElem_toArray, List.getElem_cons_zero, List.getElem_cons_succ]
      refine wpAnyH_take (i := 7) (v := ?v216) rfl (by kernel_rfl) (by kernel_rfl) (by kernel_rfl) (fun _ _ _ h => h) (Or.inl ⟨by rfl, ?hy216⟩) hH ?rest216
      case hy216 => intro w' hSw; (try dsimp only at hSw); go_simp; all_goals rfl
      simp only [Act.put, List.setIfInBounds_toArray, List.set_cons_zero, List.set_cons_succ, List.getElem_toArray, List.getElem_cons_zero, List.getElem_cons_succ]
      refine wpAnyH_take (i := 8) (v := ?v217) rfl (by kernel_rfl) (by kernel_rfl) (by kernel_rfl) (fun _ _ _ h => h) (Or.inl ⟨by rfl, ?hy217⟩) hH ?rest217
      case hy217 => intro w' hSw; (try dsimp only at hSw); go_simp; all_goals rfl
      simp only [Act.put, List.setIfInBounds_toArray, List.set_cons_zero, List.set_cons_succ, List.getElem_toArray, List.getElem_cons_zero, List.getElem_cons_succ]
      refine wpAnyH_take (i := 9) (v := ?v218) rfl (by kernel_rfl) (by kernel_rfl) (by kernel_rfl) (fun _ _ _ h => h) (Or.inl ⟨by rfl, ?hy218⟩) hH ?rest218
      case hy218 => intro w' hSw; (try dsimp only at hSw); go_simp; all_goals rfl
      simp only [Act.put, List.setIfInBounds_toArray, List.set_cons_zero, List.set_cons_succ, List.getElem_toArray, List.getElem_cons_zero, List.getElem_cons_succ]
      refine wpAnyH_take (i := 10) (v := ?v219) rfl (by kernel_rfl) (by kernel_rfl) (by kernel_rfl) (fun _ _ _ h => h) (Or.inl ⟨by rfl, ?hy219⟩) hH ?rest219
      case hy219 => intro w' hSw; (try dsimp only at hSw); go_simp; all_goals rfl
      simp only [Act.put, List.setIfInBounds_toArray, List.set_cons_zero, List.set_cons_succ, List.getElem_toArray, List.getElem_cons_zero, List.getElem_cons_succ]
      refine wpAnyH_take (i := 11) rfl (by kernel_rfl) (by kernel_rfl) (by kernel_rfl) (fun _ _ _ h => h) (yieldsIf_load_mid (by rfl) _ _ rfl _ _ rfl D _ (fun w' hSw => hSw.1) Tryz.underlying25 rfl HL.out) hH ?_
      simp only [Act.put, List.setIfInBounds_toArray, List.set_cons_zero, List.set_cons_succ, List.getElem_toArray, List.getElem_cons_zero, List.getElem_cons_succ]
      refine wpAnyH_ready (rs := [12]) (by kernel_rfl) (by simp) ?_
      refine AllReadyH.cons rfl (fun K hK => ?_) AllReadyH.nil
      go_simp
      refine (HU.out _).mono ?_
      rintro e w9 ⟨rfl, b9⟩
      refine hK.out _ _ ?_ (fun hH2 => ?_)
      · exact ⟨range_kept hH.1 b9, range_kept hH.2.1 b9, (HC.out _ (range_kept hH.1 b9) (range_kept hH.2.1 b9)).2.2.2.1, (HC.out _ (range_kept hH.1 b9) (range_kept hH.2.1 b9)).2.2.2.2.2.2.2.2, andThen hH.2.2.2.2 b9⟩
      clear hK K hH
      have hH := hH2
      clear hH2
      refine wpAnyH_take (i := 13) (v := ?v220) rfl (by kernel_rfl) (by kernel_rfl) (by kernel_rfl) (fun _ _ _ h => h) (Or.inl ⟨by rfl, ?hy220⟩) hH ?rest220
      case hy220 => intro w' hSw; (try dsimp only at hSw); go_simp; all_goals rfl
      simp only [Act.put, List.setIfInBounds_toArray, List.set_cons_zero, List.set_cons_succ, List.getElem_toArray, List.getElem_cons_zero, List.getElem_cons_succ]
      refine wpAnyH_take (i := 14) (v := ?v221) rfl (by kernel_rfl) (by kernel_rfl) (by kernel_rfl) (fun _ _ _ h => h) (Or.inl ⟨by rfl, ?hy221⟩) hH ?rest221
      case hy221 => intro w' hSw; (try dsimp only at hSw); go_simp; all_goals rfl
      simp only [Act.put, List.setIfInBounds_toArray, List.set_cons_zero, List.set_cons_succ, List.getElem_toArray, List.getElem_cons_zero, List.getElem_cons_succ]
      refine wpAnyH_take (i := 15) (v := ?v222) rfl (by kernel_rfl) (by kernel_rfl) (by kernel_rfl) (fun _ _ _ h => h) (Or.inl ⟨by rfl, ?hy222⟩) hH ?rest222
      case hy222 => intro w' hSw; (try dsimp only at hSw); go_simp; all_goals rfl
      simp only [Act.put, List.setIfInBounds_toArray, List.set_cons_zero, List.set_cons_succ, List.getElem_toArray, List.getElem_cons_zero, List.getElem_cons_succ]
      refine wpAnyH_done (by kernel_rfl) ?_ _
      have BF := hH.2.2.2.2
      clear hH
      have HF : Hid (0 = A) := by show _ = _; rw [← HA.out, refP_last (by simpa using q1) (by simpa using q2) q3 q4 (by rintro ⟨e, _⟩; exact absurd e (by simpa using qf)) (by simpa using q6) q7 H78.out (by rintro ⟨e, _⟩; exact absurd e (by simpa using qf)), if_neg (by rintro ⟨_, _, e⟩; exact absurd e (by simpa using qo))]
      go_wp2
      go_ret
      exact ⟨by rw [← HF.out]; rfl, BF⟩
    | true =>
      go_wp2
      refine wp_region_held_drew (S := fun w' : World => w'.rangeAt w.heap.size 0 D ∧ w'.rangeAt (w.heap.size + 1) 0 E ∧ w'.cell? ⟨w.heap.size + 1, 1, none⟩ = some (.int .i64 x.k) ∧ w'.cell? ⟨w.heap.size + 1, 7, none⟩ = some (.int .i64 x.c) ∧ Below w.heap.size w w') (by kernel_rfl) ?_ (fun hH => ?_)
      · exact ⟨range_kept RD6 (Below.drew (Below.refl _ _)), range_kept RE6 (Below.drew (Below.refl _ _)), (HC.out _ (range_kept RD6 (Below.drew (Below.refl _ _))) (range_kept RE6 (Below.drew (Below.refl _ _)))).2.2.2.1, (HC.out _ (range_kept RD6 (Below.drew (Below.refl _ _))) (range_kept RE6 (Below.drew (Below.refl _ _)))).2.2.2.2.2.2.2.2, Below.drew BD6⟩
      clear BD6 RD6 RE6 c0 c7 c9 r1 r2 r3 r4 r6 r7
      refine wpAnyH_take (i := 0) (v := ?v223) rfl (by kernel_rfl) (by kernel_rfl) (by kernel_rfl) (fun _ _ _ h => h) (Or.inl ⟨by rfl, ?hy223⟩) hH ?rest223
      case hy223 => intro w' hSw; (try dsimp only at hSw); go_simp; all_goals rfl
      simp only [Act.put, List.setIfInBounds_toArray, List.set_cons_zero, List.set_cons_succ, List.getElem_toArray, List.getElem_cons_zero]
      refine wpAnyH_take (i := 1) (v := ?v224) rfl (by kernel_rfl) (by kernel_rfl) (by kernel_rfl) (fun _ _ _ h => h) (Or.inl ⟨by rfl, ?hy224⟩) hH ?rest224
      case hy224 => intro w' hSw; (try dsimp only at hSw); go_simp; all_goals rfl
      simp only [Act.put, List.setIfInBounds_toArray, List.set_cons_zero, List.set_cons_succ, List.getElem_toArray, List.getElem_cons_zero, List.getElem_cons_succ]
      refine wpAnyH_take (i := 2) (v := ?v225) rfl (by kernel_rfl) (by kernel_rfl) (by kernel_rfl) (fun _ _ _ h => h) (Or.inl ⟨by rfl, ?hy225⟩) hH ?rest225
      case hy225 => intro w' hSw; (try dsimp only at hSw); go_simp; all_goals rfl
      simp only [Act.put, List.setIfInBounds_toArray, List.set_cons_zero, List.set_cons_succ, List.getElem_toArray, List.getElem_cons_zero, List.getElem_cons_succ]
      refine wpAnyH_take (i := 3) (v := ?v226) rfl (by kernel_rfl) (by kernel_rfl) (by kernel_rfl) (fun _ _ _ h => h) (Or.inl ⟨by rfl, ?hy226⟩) hH ?rest226
      case hy226 => intro w' hSw; (try dsimp only at hSw); go_simp; all_goals rfl
      simp only [Act.put, List.setIfInBounds_toArray, List.set_cons_zero, List.set_cons_succ, List.getElem_toArray, List.getElem_cons_zero, List.getElem_cons_succ]
      refine wpAnyH_take (i := 4) (v := ?v227) rfl (by kernel_rfl) (by kernel_rfl) (by kernel_rfl) (fun _ _ _ h => h) (Or.inl ⟨by rfl, ?hy227⟩) hH ?rest227
      case hy227 => intro w' hSw; (try dsimp only at hSw); go_simp; all_goals rfl
      simp only [Act.put, List.setIfInBounds_toArray, List.set_cons_zero, List.set_cons_succ, List.getElem_toArray, List.getElem_cons_zero, List.getElem_cons_succ]
      refine wpAnyH_take (i := 5) (v := ?v228) rfl (by kernel_rfl) (by kernel_rfl) (by kernel_rfl) (fun _ _ _ h => h) (Or.inl ⟨by rfl, ?hy228⟩) hH ?rest228
      case hy228 => intro w' hSw; (try dsimp only at hSw); go_simp; all_goals rfl
      simp only [Act.put, List.setIfInBounds_toArray, List.set_cons_zero, List.set_cons_succ, List.getElem_toArray, List.getElem_cons_zero, List.getElem_cons_succ]
      refine wpAnyH_take (i := 6) (v := ?v229) rfl (by kernel_rfl) (by kernel_rfl) (by kernel_rfl) (fun _ _ _ h => h) (Or.inl ⟨by rfl, ?hy229⟩) hH ?rest229
      case hy229 => intro w' hSw; (try dsimp only at hSw); go_simp; all_goals rfl
      simp only [Act.put, List.setIfInBounds_toArray, List.set_cons_zero, List.set_cons_succ, List.getElem_toArray, List.getElem_cons_zero, List.getElem_cons_succ]
      refine wpAnyH_take (i := 7) (v := ?v230) rfl (by kernel_rfl) (by kernel_rfl) (by kernel_rfl) (fun _ _ _ h => h) (Or.inl ⟨by rfl, ?hy230⟩) hH ?rest230
      case hy230 => intro w' hSw; (try dsimp only at hSw); go_simp; all_goals rfl
      simp only [Act.put, List.setIfInBounds_toArray, List.set_cons_zero, List.set_cons_succ, List.getElem_toArray, List.getElem_cons_zero, List.getElem_cons_succ]
      refine wpAnyH_take (i := 8) (v := ?v231) rfl (by kernel_rfl) (by kernel_rfl) (by kernel_rfl) (fun _ _ _ h => h) (Or.inl ⟨by rfl, ?hy231⟩) hH ?rest231
      case hy231 => intro w' hSw; (try dsimp only at hSw); go_simp; all_goals rfl
      simp only [Act.put, List.setIfInBounds_toArray, List.set_cons_zero, List.set_cons_succ, List.getElem_toArray, List.getElem_cons_zero, List.getElem_cons_succ]
      refine wpAnyH_take (i := 9) (v := ?v232) rfl (by kernel_rfl) (by kernel_rfl) (by kernel_rfl) (fun _ _ _ h => h) (Or.inl ⟨by rfl, ?hy232⟩) hH ?rest232
      case hy232 => intro w' hSw; (try dsimp only at hSw); go_simp; all_goals rfl
      simp only [Act.put, List.setIfInBounds_toArray, List.set_cons_zero, List.set_cons_succ, List.getElem_toArray, List.getElem_cons_zero, List.getElem_cons_succ]
      refine wpAnyH_take (i := 10) (v := ?v233) rfl (by kernel_rfl) (by kernel_rfl) (by kernel_rfl) (fun _ _ _ h => h) (Or.inl ⟨by rfl, ?hy233⟩) hH ?rest233
      case hy233 => intro w' hSw; (try dsimp only at hSw); go_simp; all_goals rfl
      simp only [Act.put, List.setIfInBounds_toArray, List.set_cons_zero, List.set_cons_succ, List.getElem_toArray, List.getElem_cons_zero, List.getElem_cons_succ]
      refine wpAnyH_take (i := 11) rfl (by kernel_rfl) (by kernel_rfl) (by kernel_rfl) (fun _ _ _ h => h) (yieldsIf_load_mid (by rfl) _ _ rfl _ _ rfl D _ (fun w' hSw => hSw.1) Tryz.underlying25 rfl HL.out) hH ?_
      simp only [Act.put, List.setIfInBounds_toArray, List.set_cons_zero, List.set_cons_succ, List.getElem_toArray, List.getElem_cons_zero, List.getElem_cons_succ]
      refine wpAnyH_ready (rs := [12]) (by kernel_rfl) (by simp) ?_
      refine AllReadyH.cons rfl (fun K hK => ?_) AllReadyH.nil
      go_simp
      refine (HU.out _).mono ?_
      rintro e w9 ⟨rfl, b9⟩
      refine hK.out _ _ ?_ (fun hH2 => ?_)
      · exact ⟨range_kept hH.1 b9, range_kept hH.2.1 b9, (HC.out _ (range_kept hH.1 b9) (range_kept hH.2.1 b9)).2.2.2.1, (HC.out _ (range_kept hH.1 b9) (range_kept hH.2.1 b9)).2.2.2.2.2.2.2.2, andThen hH.2.2.2.2 b9⟩
      clear hK K hH
      have hH := hH2
      clear hH2
      refine wpAnyH_take (i := 13) (v := ?v234) rfl (by kernel_rfl) (by kernel_rfl) (by kernel_rfl) (fun _ _ _ h => h) (Or.inl ⟨by rfl, ?hy234⟩) hH ?rest234
      case hy234 => intro w' hSw; (try dsimp only at hSw); go_simp; all_goals rfl
      simp only [Act.put, List.setIfInBounds_toArray, List.set_cons_zero, List.set_cons_succ, List.getElem_toArray, List.getElem_cons_zero, List.getElem_cons_succ]
      refine wpAnyH_take (i := 14) (v := ?v235) rfl (by kernel_rfl) (by kernel_rfl) (by kernel_rfl) (fun _ _ _ h => h) (Or.inl ⟨by rfl, ?hy235⟩) hH ?rest235
      case hy235 => intro w' hSw; (try dsimp only at hSw); go_simp; all_goals rfl
      simp only [Act.put, List.setIfInBounds_toArray, List.set_cons_zero, List.set_cons_succ, List.getElem_toArray, List.getElem_cons_zero, List.getElem_cons_succ]
      refine wpAnyH_take (i := 15) (v := ?v236) rfl (by kernel_rfl) (by kernel_rfl) (by kernel_rfl) (fun _ _ _ h => h) (Or.inl ⟨by rfl, ?hy236⟩) hH ?rest236
      case hy236 => intro w' hSw; (try dsimp only at hSw); go_simp; all_goals rfl
      simp only [Act.put, List.setIfInBounds_toArray, List.set_cons_zero, List.set_cons_succ, List.getElem_toArray, List.getElem_cons_zero, List.getElem_cons_succ]
      refine wpAnyH_done (by kernel_rfl) ?_ _
      have BF := hH.2.2.2.2
      clear hH
      have HF : Hid (109 = A) := by show _ = _; rw [← HA.out, refP_last (by simpa using q1) (by simpa using q2) q3 q4 (by rintro ⟨e, _⟩; exact absurd e (by simpa using qf)) (by simpa using q6) q7 H78.out (by rintro ⟨e, _⟩; exact absurd e (by simpa using qf)), if_pos ⟨by simpa using qk, by simpa using qc, by simpa using qo⟩]
      go_wp2
      go_ret
      exact ⟨by rw [← HF.out]; rfl, BF⟩
theorem refusal_any (S : Sg) (h : SH) (x : Nums) (nm : ByteArray) (d : Value) (w : World) (hK : KindsT w) (hn : 0 ≤ S.x.nx ∧ S.x.nx ≤ 32) (ht : 0 ≤ S.x.tr ∧ S.x.tr ≤ 1000) (hk : 1 ≤ x.k ∧ x.k ≤ 7) : Calls Tryz.prog 16 #[sv S h, rv x nm d] w fun e w' => e = .returned (.int .i64 (refP S.x x)) ∧ Below w.heap.size w w' := by
  cases qf : (x.l == 1) with
  | true => exact refusal_g S h x nm d w hK hn ht hk qf
  | false => exact refusal_n S h x nm d w hK hn ht hk qf
end Go.Proofs.YtgjlkkikgkbamaaGreatDoor
