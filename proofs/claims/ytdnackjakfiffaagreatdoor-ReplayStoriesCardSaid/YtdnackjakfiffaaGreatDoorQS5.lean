import Derived.Test.YtdnackjakfiffaaGreatDoorQS4
import Derived.Test.YtdnackjakfiffaaGreatDoorQS2
/-
  Package saga: refusal.
-/
namespace Go.Proofs.YtdnackjakfiffaaGreatDoor
open Go Go.RowKit
open Wb

/-- the last of the rules -/
theorem refP_last {x : SN} {r : Nums} (h1 : r.s = x.id) (h2 : r.k ≠ 1) (h3 : x.ended = false) (h4 : x.inPh r.k = true) (h5 : ¬ (r.l = 1 ∧ x.ph = 2)) (h6 : lands r.k = x.fl) (h7 : x.onTurn r.k r.p = true) (h8 : ¬ (r.t ≠ 0 ∧ r.t ≠ x.nextTry)) (h9 : ¬ (r.l = 1 ∧ x.behind r.p = true)) : refP x r = if r.k = 7 ∧ r.c ≠ 0 ∧ r.c ≠ x.outcome then 109 else 0 := by
  unfold refP
  rw [if_neg (by simpa using h1), if_neg h2, if_neg (by rw [h3]; exact Bool.false_ne_true), if_neg (by simpa [h4] using h5), if_neg (by simpa using h6), if_neg (by simpa using h7), if_neg h8, if_neg (by simpa using h9)]

set_option maxRecDepth 100000 in
set_option maxHeartbeats 8000000 in
theorem refusal_g (S : Sg) (h : SH) (x : Nums) (nm : ByteArray) (d : Value) (w : World) (hK : KindsT w) (hn : 0 ≤ S.x.nx ∧ S.x.nx ≤ 32) (ht : 0 ≤ S.x.tr ∧ S.x.tr ≤ 1000) (hk : 1 ≤ x.k ∧ x.k ≤ 7) (qf : (x.l == 1) = true) : Calls Tryz.prog 89 #[sv S h, rv x nm d] w fun e w' => e = .returned (.int .i64 (refP S.x x)) ∧ Below w.heap.size w w' := by
  have HN0 : ∀ w', Calls Tryz.prog 37 #[sv S h] w' fun e w'' => e = .returned (.bool S.x.ended) ∧ Below w'.heap.size w' w'' := fun w' => ended_any S h w'
  have HP0 : ∀ w', Below w.heap.size w w' → Calls Tryz.prog 104 #[sv S h, .int .i64 x.k] w' fun e w'' => e = .returned (.bool (S.x.inPh x.k)) ∧ Below w'.heap.size w' w'' := fun w' hb => inPh_any S h x.k w' hk (hK.kept hb)
  have HO0 : ∀ w', Calls Tryz.prog 105 #[sv S h, rv x nm d] w' fun e w'' => e = .returned (.bool (S.x.onTurn x.k x.p)) ∧ Below w'.heap.size w' w'' := fun w' => onTurn_any S h x nm d w' hn
  have HT0 : ∀ w', Calls Tryz.prog 106 #[sv S h] w' fun e w'' => e = .returned (.int .i64 S.x.nextTry) ∧ Below w'.heap.size w' w'' := fun w' => nextTry_any S h w' ht
  have HU0 : ∀ w', Calls Tryz.prog 38 #[sv S h] w' fun e w'' => e = .returned (.int .i64 S.x.outcome) ∧ Below w'.heap.size w' w'' := fun w' => outcome_any S h w'
  have HB0 : ∀ w', Calls Tryz.prog 56 #[sv S h, .int .i64 x.p] w' fun e w'' => e = .returned (.bool (S.x.behind x.p)) ∧ Below w'.heap.size w' w'' := fun w' => behind_any S h x.p w'
  have HKT : Hid (∀ W : World, Below w.heap.size w W → W.cell? ⟨3, x.k.toNat * 2 + 1, none⟩ = some (.bool (lands x.k))) := fun W hb => by have e := ((hK.kept hb) x.k.toNat (by omega)).2; rw [Nat.mul_comm] at e; rw [e]; congr 2; rw [Int.toNat_of_nonneg (by omega)]
  clear hK hn ht
  obtain ⟨A, hA⟩ : ∃ A, refP S.x x = A := ⟨_, rfl⟩
  have HA : Hid (refP S.x x = A) := hA
  rw [hA]
  clear hA
  obtain ⟨D, hD, hL, hE⟩ := sv_letter S h
  obtain ⟨E, hD2, hL2, hE2⟩ := rv_letter x nm d
  rw [hD, hD2]
  try rw [hD] at HN0
  try rw [hD2] at HN0
  try rw [hD] at HP0
  try rw [hD2] at HP0
  try rw [hD] at HO0
  try rw [hD2] at HO0
  try rw [hD] at HT0
  try rw [hD2] at HT0
  try rw [hD] at HU0
  try rw [hD2] at HU0
  try rw [hD] at HB0
  try rw [hD2] at HB0
  have HN : Hid _ := HN0
  have HP : Hid _ := HP0
  have HO : Hid _ := HO0
  have HT : Hid _ := HT0
  have HU : Hid _ := HU0
  have HB : Hid _ := HB0
  have HL : Hid _ := hL
  have HE : Hid (D = scl S h) := hE
  have HL2 : Hid _ := hL2
  have HE2 : Hid (E = rcE x nm d) := hE2
  have HX : Hid (∀ t t2, ((w.alloc (.cells D.toArray t)).alloc (.cells E.toArray t2)).rangeAt w.heap.size 0 D ∧ ((w.alloc (.cells D.toArray t)).alloc (.cells E.toArray t2)).rangeAt (w.heap.size + 1) 0 E ∧ Below w.heap.size w ((w.alloc (.cells D.toArray t)).alloc (.cells E.toArray t2))) := fun t t2 => boxed2 w D E t t2
  clear hD hL hE hD2 hL2 hE2 HN0 HP0 HO0 HT0 HU0 HB0
  have HC : Hid (∀ W : World, W.rangeAt w.heap.size 0 D → W.rangeAt (w.heap.size + 1) 0 E → (W.cell? ⟨w.heap.size, 0, none⟩ = some (.int .i64 S.x.id) ∧ W.cell? ⟨w.heap.size, 7, none⟩ = some (.int .i64 S.x.ph) ∧ W.cell? ⟨w.heap.size, 9, none⟩ = some (.bool S.x.fl) ∧ W.cell? ⟨w.heap.size + 1, 1, none⟩ = some (.int .i64 x.k) ∧ W.cell? ⟨w.heap.size + 1, 2, none⟩ = some (.int .i64 x.s) ∧ W.cell? ⟨w.heap.size + 1, 3, none⟩ = some (.int .i64 x.p) ∧ W.cell? ⟨w.heap.size + 1, 4, none⟩ = some (.int .i64 x.t) ∧ W.cell? ⟨w.heap.size + 1, 6, none⟩ = some (.int .i64 x.l) ∧ W.cell? ⟨w.heap.size + 1, 7, none⟩ = some (.int .i64 x.c))) := fun W a b => ⟨range_cell a 0 _ (by rw [HE.out]; rfl), range_cell a 7 _ (by rw [HE.out]; rfl), range_cell a 9 _ (by rw [HE.out]; rfl), range_cell b 1 _ (by rw [HE2.out]; rfl), range_cell b 2 _ (by rw [HE2.out]; rfl), range_cell b 3 _ (by rw [HE2.out]; rfl), range_cell b 4 _ (by rw [HE2.out]; rfl), range_cell b 6 _ (by rw [HE2.out]; rfl), range_cell b 7 _ (by rw [HE2.out]; rfl)⟩
  clear HE HE2
  have hk0 : 0 ≤ x.k := by omega
  have hk8 : x.k < 8 := by omega
  have BD0 := (HX.out 43 32).2.2
  have RD0 := (HX.out 43 32).1
  have RE0 := (HX.out 43 32).2.1
  obtain ⟨c0, c7, c9, r1, r2, r3, r4, r6, r7⟩ := HC.out _ RD0 RE0
  go_enter Tryz.func89, Tryz.ntmps89
  cases q1 : (x.s != S.x.id) with
  | true =>
    have HF : Hid (101 = A) := by show _ = _; rw [← HA.out]; unfold refP; simp [show x.s ≠ S.x.id by simpa using q1]
    go_wp2
    go_ret
    exact ⟨by rw [← HF.out]; rfl, BD0⟩
  | false =>
  cases q2 : (x.k == 1) with
  | true =>
    have HF : Hid (102 = A) := by show _ = _; rw [← HA.out]; unfold refP; simp [show x.s = S.x.id by simpa using q1, show x.k = 1 by simpa using q2]
    go_wp2
    go_ret
    exact ⟨by rw [← HF.out]; rfl, BD0⟩
  | false =>
  go_wp2_with (first | (refine wpList_load_mid rfl 43 _ rfl w.heap.size 0 rfl D _ RD0 Tryz.underlying43 rfl HL.out ?_) | (refine wpList_load_midG rfl 43 _ rfl w.heap.size 0 rfl D _ RD0 Tryz.underlying43 rfl HL.out ?_))
  refine (HN.out _).mono ?_
  rintro e w1 ⟨rfl, b1⟩
  have BD1 := andThen BD0 b1
  have RD1 := range_kept RD0 b1
  have RE1 := range_kept RE0 b1
  clear BD0 RD0 RE0 b1 c0 c7 c9 r1 r2 r3 r4 r6 r7
  obtain ⟨c0, c7, c9, r1, r2, r3, r4, r6, r7⟩ := HC.out _ RD1 RE1
  clear HX HN
  cases q3 : S.x.ended with
  | true =>
    have HF : Hid (103 = A) := by show _ = _; rw [← HA.out]; unfold refP; simp [show x.s = S.x.id by simpa using q1, show x.k ≠ 1 by simpa using q2, q3]
    go_wp2
    go_ret
    exact ⟨by rw [← HF.out]; rfl, BD1⟩
  | false =>
  go_wp2_with (first | (refine wpList_load_mid rfl 43 _ rfl w.heap.size 0 rfl D _ RD1 Tryz.underlying43 rfl HL.out ?_) | (refine wpList_load_midG rfl 43 _ rfl w.heap.size 0 rfl D _ RD1 Tryz.underlying43 rfl HL.out ?_))
  refine (HP.out _ BD1).mono ?_
  rintro e w2 ⟨rfl, b2⟩
  have BD2 := andThen BD1 b2
  have RD2 := range_kept RD1 b2
  have RE2 := range_kept RE1 b2
  clear BD1 RD1 RE1 b2 c0 c7 c9 r1 r2 r3 r4 r6 r7
  obtain ⟨c0, c7, c9, r1, r2, r3, r4, r6, r7⟩ := HC.out _ RD2 RE2
  clear HP
  cases q4 : S.x.inPh x.k with
  | false =>
    have HF : Hid (104 = A) := by show _ = _; rw [← HA.out]; unfold refP; simp [show x.s = S.x.id by simpa using q1, show x.k ≠ 1 by simpa using q2, q3, q4]
    go_wp2
    go_ret
    exact ⟨by rw [← HF.out]; rfl, BD2⟩
  | true =>
  cases q5 : (S.x.ph == 2) with
  | true =>
    have HF : Hid (104 = A) := by show _ = _; rw [← HA.out]; unfold refP; simp [show x.s = S.x.id by simpa using q1, show x.k ≠ 1 by simpa using q2, q3, q4, show x.l = 1 by simpa using qf, show S.x.ph = 2 by simpa using q5]
    go_wp2
    go_ret
    exact ⟨by rw [← HF.out]; rfl, BD2⟩
  | false =>
  have k1 := HKT.out _ BD2
  go_wp2
  go_quiet (fail)
  have b3 : Below w2.heap.size w2 (w2.drewN nq) := bdrewN (Below.refl _ _) _
  clear k1
  generalize w2.drewN nq = w3 at *
  have BD3 := andThen BD2 b3
  have RD3 := range_kept RD2 b3
  have RE3 := range_kept RE2 b3
  clear BD2 RD2 RE2 b3 c0 c7 c9 r1 r2 r3 r4 r6 r7
  obtain ⟨c0, c7, c9, r1, r2, r3, r4, r6, r7⟩ := HC.out _ RD3 RE3
  cases q6 : (lands x.k == S.x.fl) with
  | false =>
    have HF : Hid (105 = A) := by show _ = _; rw [← HA.out]; unfold refP; simp [show x.s = S.x.id by simpa using q1, show x.k ≠ 1 by simpa using q2, q3, q4, show x.l = 1 by simpa using qf, show S.x.ph ≠ 2 by simpa using q5, show lands x.k ≠ S.x.fl by simpa using q6]
    go_wp2
    go_ret
    exact ⟨by rw [← HF.out]; rfl, BD3⟩
  | true =>
  go_wp2_with (first | (refine wpList_load_mid rfl 43 _ rfl w.heap.size 0 rfl D _ RD3 Tryz.underlying43 rfl HL.out ?_) | (refine wpList_load_mid rfl 32 _ rfl (w.heap.size + 1) 0 rfl E _ RE3 Tryz.underlying32 rfl HL2.out ?_))
  refine (HO.out _).mono ?_
  rintro e w4 ⟨rfl, b4⟩
  have BD4 := andThen BD3 b4
  have RD4 := range_kept RD3 b4
  have RE4 := range_kept RE3 b4
  clear BD3 RD3 RE3 b4 c0 c7 c9 r1 r2 r3 r4 r6 r7
  obtain ⟨c0, c7, c9, r1, r2, r3, r4, r6, r7⟩ := HC.out _ RD4 RE4
  clear HO
  cases q7 : S.x.onTurn x.k x.p with
  | false =>
    have HF : Hid (106 = A) := by show _ = _; rw [← HA.out]; unfold refP; simp [show x.s = S.x.id by simpa using q1, show x.k ≠ 1 by simpa using q2, q3, q4, show x.l = 1 by simpa using qf, show S.x.ph ≠ 2 by simpa using q5, show lands x.k = S.x.fl by simpa using q6, q7]
    go_wp2
    go_ret
    exact ⟨by rw [← HF.out]; rfl, BD4⟩
  | true =>
  cases q8 : (x.t != 0 && x.t != S.x.nextTry) with
  | true =>
    simp only [Bool.and_eq_true] at q8
    obtain ⟨q8, q9⟩ := q8
    go_wp2
    refine wp_region_held_drew (S := fun w' : World => w'.rangeAt w.heap.size 0 D ∧ w'.rangeAt (w.heap.size + 1) 0 E ∧ w'.cell? ⟨w.heap.size + 1, 4, none⟩ = some (.int .i64 x.t) ∧ Below w.heap.size w w') (by kernel_rfl) ?_ (fun hH => ?_)
    · exact ⟨range_kept RD4 (Below.drew (Below.refl _ _)), range_kept RE4 (Below.drew (Below.refl _ _)), (HC.out _ (range_kept RD4 (Below.drew (Below.refl _ _))) (range_kept RE4 (Below.drew (Below.refl _ _)))).2.2.2.2.2.2.1, Below.drew BD4⟩
    clear BD4 RD4 RE4 c0 c7 c9 r1 r2 r3 r4 r6 r7
    refine zqk 0 rfl hH ?_
    simp only [Act.put, List.setIfInBounds_toArray, List.set_cons_zero, List.set_cons_succ, List.getElem_toArray, List.getElem_cons_zero]
    refine zqk 1 rfl hH ?_
    simp only [Act.put, List.setIfInBounds_toArray, List.set_cons_zero, List.set_cons_succ, List.getElem_toArray, List.getElem_cons_zero, List.getElem_cons_succ]
    refine zqk 2 rfl hH ?_
    simp only [Act.put, List.setIfInBounds_toArray, List.set_cons_zero, List.set_cons_succ, List.getElem_toArray, List.getElem_cons_zero, List.getElem_cons_succ]
    refine zqk 3 rfl hH ?_
    simp only [Act.put, List.setIfInBounds_toArray, List.set_cons_zero, List.set_cons_succ, List.getElem_toArray, List.getElem_cons_zero, List.getElem_cons_succ]
    refine zqk 4 rfl hH ?_
    simp only [Act.put, List.setIfInBounds_toArray, List.set_cons_zero, List.set_cons_succ, List.getElem_toArray, List.getElem_cons_zero, List.getElem_cons_succ]
    refine zqk 5 rfl hH ?_
    simp only [Act.put, List.setIfInBounds_toArray, List.set_cons_zero, List.set_cons_succ, List.getElem_toArray, List.getElem_cons_zero, List.getElem_cons_succ]
    refine zql 6 rfl (yieldsIf_load_mid (by rfl) _ _ rfl _ _ rfl D _ (fun w' hSw => hSw.1) Tryz.underlying43 rfl HL.out) hH ?_
    simp only [Act.put, List.setIfInBounds_toArray, List.set_cons_zero, List.set_cons_succ, List.getElem_toArray, List.getElem_cons_zero, List.getElem_cons_succ]
    refine zqr 7 rfl (fun K hK => ?_)
    go_simp
    refine (HT.out _).mono ?_
    rintro e w5 ⟨rfl, b5⟩
    refine hK.out _ _ ?_ (fun hH2 => ?_)
    · exact ⟨range_kept hH.1 b5, range_kept hH.2.1 b5, (HC.out _ (range_kept hH.1 b5) (range_kept hH.2.1 b5)).2.2.2.2.2.2.1, andThen hH.2.2.2 b5⟩
    clear hK K hH
    have hH := hH2
    clear hH2
    refine zqk 8 rfl hH ?_
    simp only [Act.put, List.setIfInBounds_toArray, List.set_cons_zero, List.set_cons_succ, List.getElem_toArray, List.getElem_cons_zero, List.getElem_cons_succ]
    refine zqk 9 rfl hH ?_
    simp only [Act.put, List.setIfInBounds_toArray, List.set_cons_zero, List.set_cons_succ, List.getElem_toArray, List.getElem_cons_zero, List.getElem_cons_succ]
    refine zqk 10 rfl hH ?_
    simp only [Act.put, List.setIfInBounds_toArray, List.set_cons_zero, List.set_cons_succ, List.getElem_toArray, List.getElem_cons_zero, List.getElem_cons_succ]
    refine wpAnyH_done (by kernel_rfl) ?_ _
    have BF := hH.2.2.2
    clear hH
    have HF : Hid (107 = A) := by show _ = _; rw [← HA.out]; unfold refP; simp [show x.s = S.x.id by simpa using q1, show x.k ≠ 1 by simpa using q2, q3, q4, show x.l = 1 by simpa using qf, show S.x.ph ≠ 2 by simpa using q5, show lands x.k = S.x.fl by simpa using q6, q7, show x.t ≠ 0 by simpa using q8, show x.t ≠ S.x.nextTry by simpa using q9]
    go_wp2
    go_ret
    exact ⟨by rw [← HF.out]; rfl, BF⟩
  | false =>
  have H78 : Hid (¬ (x.t ≠ 0 ∧ x.t ≠ S.x.nextTry)) := by show ¬ _; simpa using q8
  rcases Bool.eq_false_or_eq_true (x.t != 0) with qt | qt
  case' inl =>
    have q9 : (x.t != S.x.nextTry) = false := by rw [qt] at q8; simpa using q8
    clear q8
    go_wp2
    refine wp_region_held_drew (S := fun w' : World => w'.rangeAt w.heap.size 0 D ∧ w'.rangeAt (w.heap.size + 1) 0 E ∧ w'.cell? ⟨w.heap.size + 1, 4, none⟩ = some (.int .i64 x.t) ∧ Below w.heap.size w w') (by kernel_rfl) ?_ (fun hH => ?_)
    · exact ⟨range_kept RD4 (Below.drew (Below.refl _ _)), range_kept RE4 (Below.drew (Below.refl _ _)), (HC.out _ (range_kept RD4 (Below.drew (Below.refl _ _))) (range_kept RE4 (Below.drew (Below.refl _ _)))).2.2.2.2.2.2.1, Below.drew BD4⟩
    clear BD4 RD4 RE4 c0 c7 c9 r1 r2 r3 r4 r6 r7
    refine zqk 0 rfl hH ?_
    simp only [Act.put, List.setIfInBounds_toArray, List.set_cons_zero, List.set_cons_succ, List.getElem_toArray, List.getElem_cons_zero]
    refine zqk 1 rfl hH ?_
    simp only [Act.put, List.setIfInBounds_toArray, List.set_cons_zero, List.set_cons_succ, List.getElem_toArray, List.getElem_cons_zero, List.getElem_cons_succ]
    refine zqk 2 rfl hH ?_
    simp only [Act.put, List.setIfInBounds_toArray, List.set_cons_zero, List.set_cons_succ, List.getElem_toArray, List.getElem_cons_zero, List.getElem_cons_succ]
    refine zqk 3 rfl hH ?_
    simp only [Act.put, List.setIfInBounds_toArray, List.set_cons_zero, List.set_cons_succ, List.getElem_toArray, List.getElem_cons_zero, List.getElem_cons_succ]
    refine zqk 4 rfl hH ?_
    simp only [Act.put, List.setIfInBounds_toArray, List.set_cons_zero, List.set_cons_succ, List.getElem_toArray, List.getElem_cons_zero, List.getElem_cons_succ]
    refine zqk 5 rfl hH ?_
    simp only [Act.put, List.setIfInBounds_toArray, List.set_cons_zero, List.set_cons_succ, List.getElem_toArray, List.getElem_cons_zero, List.getElem_cons_succ]
    refine zql 6 rfl (yieldsIf_load_mid (by rfl) _ _ rfl _ _ rfl D _ (fun w' hSw => hSw.1) Tryz.underlying43 rfl HL.out) hH ?_
    simp only [Act.put, List.setIfInBounds_toArray, List.set_cons_zero, List.set_cons_succ, List.getElem_toArray, List.getElem_cons_zero, List.getElem_cons_succ]
    refine zqr 7 rfl (fun K hK => ?_)
    go_simp
    refine (HT.out _).mono ?_
    rintro e w5 ⟨rfl, b5⟩
    refine hK.out _ _ ?_ (fun hH2 => ?_)
    · exact ⟨range_kept hH.1 b5, range_kept hH.2.1 b5, (HC.out _ (range_kept hH.1 b5) (range_kept hH.2.1 b5)).2.2.2.2.2.2.1, andThen hH.2.2.2 b5⟩
    clear hK K hH
    have hH := hH2
    clear hH2
    refine zqk 8 rfl hH ?_
    simp only [Act.put, List.setIfInBounds_toArray, List.set_cons_zero, List.set_cons_succ, List.getElem_toArray, List.getElem_cons_zero, List.getElem_cons_succ]
    refine zqk 9 rfl hH ?_
    simp only [Act.put, List.setIfInBounds_toArray, List.set_cons_zero, List.set_cons_succ, List.getElem_toArray, List.getElem_cons_zero, List.getElem_cons_succ]
    refine zqk 10 rfl hH ?_
    simp only [Act.put, List.setIfInBounds_toArray, List.set_cons_zero, List.set_cons_succ, List.getElem_toArray, List.getElem_cons_zero, List.getElem_cons_succ]
    refine wpAnyH_done (by kernel_rfl) ?_ _
  case' inr =>
    clear q8
    go_wp2
    refine wp_region_held_drew (S := fun w' : World => w'.rangeAt w.heap.size 0 D ∧ w'.rangeAt (w.heap.size + 1) 0 E ∧ w'.cell? ⟨w.heap.size + 1, 4, none⟩ = some (.int .i64 x.t) ∧ Below w.heap.size w w') (by kernel_rfl) ?_ (fun hH => ?_)
    · exact ⟨range_kept RD4 (Below.drew (Below.refl _ _)), range_kept RE4 (Below.drew (Below.refl _ _)), (HC.out _ (range_kept RD4 (Below.drew (Below.refl _ _))) (range_kept RE4 (Below.drew (Below.refl _ _)))).2.2.2.2.2.2.1, Below.drew BD4⟩
    clear BD4 RD4 RE4 c0 c7 c9 r1 r2 r3 r4 r6 r7
    refine zqk 0 rfl hH ?_
    simp only [Act.put, List.setIfInBounds_toArray, List.set_cons_zero, List.set_cons_succ, List.getElem_toArray, List.getElem_cons_zero]
    refine zqk 1 rfl hH ?_
    simp only [Act.put, List.setIfInBounds_toArray, List.set_cons_zero, List.set_cons_succ, List.getElem_toArray, List.getElem_cons_zero, List.getElem_cons_succ]
    refine zqk 2 rfl hH ?_
    simp only [Act.put, List.setIfInBounds_toArray, List.set_cons_zero, List.set_cons_succ, List.getElem_toArray, List.getElem_cons_zero, List.getElem_cons_succ]
    refine zqk 3 rfl hH ?_
    simp only [Act.put, List.setIfInBounds_toArray, List.set_cons_zero, List.set_cons_succ, List.getElem_toArray, List.getElem_cons_zero, List.getElem_cons_succ]
    refine zql 4 rfl (Or.inr ⟨by rfl, rfl⟩) hH ?_
    simp only [Act.put, List.setIfInBounds_toArray, List.set_cons_zero, List.set_cons_succ, List.getElem_toArray, List.getElem_cons_zero, List.getElem_cons_succ]
    refine zql 5 rfl (Or.inr ⟨by rfl, rfl⟩) hH ?_
    simp only [Act.put, List.setIfInBounds_toArray, List.set_cons_zero, List.set_cons_succ, List.getElem_toArray, List.getElem_cons_zero, List.getElem_cons_succ]
    refine zql 6 rfl (Or.inr ⟨by rfl, rfl⟩) hH ?_
    simp only [Act.put, List.setIfInBounds_toArray, List.set_cons_zero, List.set_cons_succ, List.getElem_toArray, List.getElem_cons_zero, List.getElem_cons_succ]
    refine zql 7 rfl (Or.inr ⟨by rfl, rfl⟩) hH ?_
    simp only [Act.put, List.setIfInBounds_toArray, List.set_cons_zero, List.set_cons_succ, List.getElem_toArray, List.getElem_cons_zero, List.getElem_cons_succ]
    refine zql 8 rfl (Or.inr ⟨by rfl, rfl⟩) hH ?_
    simp only [Act.put, List.setIfInBounds_toArray, List.set_cons_zero, List.set_cons_succ, List.getElem_toArray, List.getElem_cons_zero, List.getElem_cons_succ]
    refine zqk 9 rfl hH ?_
    simp only [Act.put, List.setIfInBounds_toArray, List.set_cons_zero, List.set_cons_succ, List.getElem_toArray, List.getElem_cons_zero, List.getElem_cons_succ]
    refine zqk 10 rfl hH ?_
    simp only [Act.put, List.setIfInBounds_toArray, List.set_cons_zero, List.set_cons_succ, List.getElem_toArray, List.getElem_cons_zero, List.getElem_cons_succ]
    refine wpAnyH_done (by kernel_rfl) ?_ _
  all_goals
    have BD6 := hH.2.2.2
    have RD6 := hH.1
    have RE6 := hH.2.1
    clear hH
    obtain ⟨c0, c7, c9, r1, r2, r3, r4, r6, r7⟩ := HC.out _ RD6 RE6
    go_wp2_with (first | (refine wpList_load_mid rfl 43 _ rfl w.heap.size 0 rfl D _ RD6 Tryz.underlying43 rfl HL.out ?_) | (refine wpList_load_midG rfl 43 _ rfl w.heap.size 0 rfl D _ RD6 Tryz.underlying43 rfl HL.out ?_))
    refine (HB.out _).mono ?_
    rintro e w8 ⟨rfl, b8⟩
    have BD8 := andThen BD6 b8
    have RD8 := range_kept RD6 b8
    have RE8 := range_kept RE6 b8
    clear BD6 RD6 RE6 b8 c0 c7 c9 r1 r2 r3 r4 r6 r7
    obtain ⟨c0, c7, c9, r1, r2, r3, r4, r6, r7⟩ := HC.out _ RD8 RE8
    cases qb : S.x.behind x.p with
    | true =>
      have HF : Hid (108 = A) := by show _ = _; rw [← HA.out]; unfold refP; simp [show x.s = S.x.id by simpa using q1, show x.k ≠ 1 by simpa using q2, q3, q4, show x.l = 1 by simpa using qf, show S.x.ph ≠ 2 by simpa using q5, show lands x.k = S.x.fl by simpa using q6, q7, H78.out, qb]
      go_wp2
      go_ret
      exact ⟨by rw [← HF.out]; rfl, BD8⟩
    | false =>
    cases qk : (x.k == 7) with
    | false =>
      go_wp2
      refine wp_region_held_drew (S := fun w' : World => w'.rangeAt w.heap.size 0 D ∧ w'.rangeAt (w.heap.size + 1) 0 E ∧ w'.cell? ⟨w.heap.size + 1, 1, none⟩ = some (.int .i64 x.k) ∧ w'.cell? ⟨w.heap.size + 1, 7, none⟩ = some (.int .i64 x.c) ∧ Below w.heap.size w w') (by kernel_rfl) ?_ (fun hH => ?_)
      · exact ⟨range_kept RD8 (Below.drew (Below.refl _ _)), range_kept RE8 (Below.drew (Below.refl _ _)), (HC.out _ (range_kept RD8 (Below.drew (Below.refl _ _))) (range_kept RE8 (Below.drew (Below.refl _ _)))).2.2.2.1, (HC.out _ (range_kept RD8 (Below.drew (Below.refl _ _))) (range_kept RE8 (Below.drew (Below.refl _ _)))).2.2.2.2.2.2.2.2, Below.drew BD8⟩
      clear BD8 RD8 RE8 c0 c7 c9 r1 r2 r3 r4 r6 r7
      refine zqk 0 rfl hH ?_
      simp only [Act.put, List.setIfInBounds_toArray, List.set_cons_zero, List.set_cons_succ, List.getElem_toArray, List.getElem_cons_zero]
      refine zqk 1 rfl hH ?_
      simp only [Act.put, List.setIfInBounds_toArray, List.set_cons_zero, List.set_cons_succ, List.getElem_toArray, List.getElem_cons_zero, List.getElem_cons_succ]
      refine zqk 2 rfl hH ?_
      simp only [Act.put, List.setIfInBounds_toArray, List.set_cons_zero, List.set_cons_succ, List.getElem_toArray, List.getElem_cons_zero, List.getElem_cons_succ]
      refine zqk 3 rfl hH ?_
      simp only [Act.put, List.setIfInBounds_toArray, List.set_cons_zero, List.set_cons_succ, List.getElem_toArray, List.getElem_cons_zero, List.getElem_cons_succ]
      refine zql 4 rfl (Or.inr ⟨by rfl, rfl⟩) hH ?_
      simp only [Act.put, List.setIfInBounds_toArray, List.set_cons_zero, List.set_cons_succ, List.getElem_toArray, List.getElem_cons_zero, List.getElem_cons_succ]
      refine zql 5 rfl (Or.inr ⟨by rfl, rfl⟩) hH ?_
      simp only [Act.put, List.setIfInBounds_toArray, List.set_cons_zero, List.set_cons_succ, List.getElem_toArray, List.getElem_cons_zero, List.getElem_cons_succ]
      refine zql 6 rfl (Or.inr ⟨by rfl, rfl⟩) hH ?_
      simp only [Act.put, List.setIfInBounds_toArray, List.set_cons_zero, List.set_cons_succ, List.getElem_toArray, List.getElem_cons_zero, List.getElem_cons_succ]
      refine zqk 7 rfl hH ?_
      simp only [Act.put, List.setIfInBounds_toArray, List.set_cons_zero, List.set_cons_succ, List.getElem_toArray, List.getElem_cons_zero, List.getElem_cons_succ]
      refine zqk 8 rfl hH ?_
      simp only [Act.put, List.setIfInBounds_toArray, List.set_cons_zero, List.set_cons_succ, List.getElem_toArray, List.getElem_cons_zero, List.getElem_cons_succ]
      refine zql 9 rfl (Or.inr ⟨by rfl, rfl⟩) hH ?_
      simp only [Act.put, List.setIfInBounds_toArray, List.set_cons_zero, List.set_cons_succ, List.getElem_toArray, List.getElem_cons_zero, List.getElem_cons_succ]
      refine zql 10 rfl (Or.inr ⟨by rfl, rfl⟩) hH ?_
      simp only [Act.put, List.setIfInBounds_toArray, List.set_cons_zero, List.set_cons_succ, List.getElem_toArray, List.getElem_cons_zero, List.getElem_cons_succ]
      refine zql 11 rfl (Or.inr ⟨by rfl, rfl⟩) hH ?_
      simp only [Act.put, List.setIfInBounds_toArray, List.set_cons_zero, List.set_cons_succ, List.getElem_toArray, List.getElem_cons_zero, List.getElem_cons_succ]
      refine zql 12 rfl (Or.inr ⟨by rfl, rfl⟩) hH ?_
      simp only [Act.put, List.setIfInBounds_toArray, List.set_cons_zero, List.set_cons_succ, List.getElem_toArray, List.getElem_cons_zero, List.getElem_cons_succ]
      refine zql 13 rfl (Or.inr ⟨by rfl, rfl⟩) hH ?_
      simp only [Act.put, List.setIfInBounds_toArray, List.set_cons_zero, List.set_cons_succ, List.getElem_toArray, List.getElem_cons_zero, List.getElem_cons_succ]
      refine zqk 14 rfl hH ?_
      simp only [Act.put, List.setIfInBounds_toArray, List.set_cons_zero, List.set_cons_succ, List.getElem_toArray, List.getElem_cons_zero, List.getElem_cons_succ]
      refine zqk 15 rfl hH ?_
      simp only [Act.put, List.setIfInBounds_toArray, List.set_cons_zero, List.set_cons_succ, List.getElem_toArray, List.getElem_cons_zero, List.getElem_cons_succ]
      refine wpAnyH_done (by kernel_rfl) ?_ _
      have BF := hH.2.2.2.2
      clear hH
      have HF : Hid (0 = A) := by show _ = _; rw [← HA.out, refP_last (by simpa using q1) (by simpa using q2) q3 q4 (by rintro ⟨_, e⟩; exact absurd e (by simpa using q5)) (by simpa using q6) q7 H78.out (by rintro ⟨_, e⟩; rw [qb] at e; exact Bool.false_ne_true e), if_neg (by rintro ⟨e, _⟩; exact absurd e (by simpa using qk))]
      go_wp2
      go_ret
      exact ⟨by rw [← HF.out]; rfl, BF⟩
    | true =>
    cases qc : (x.c != 0) with
    | false =>
      go_wp2
      refine wp_region_held_drew (S := fun w' : World => w'.rangeAt w.heap.size 0 D ∧ w'.rangeAt (w.heap.size + 1) 0 E ∧ w'.cell? ⟨w.heap.size + 1, 1, none⟩ = some (.int .i64 x.k) ∧ w'.cell? ⟨w.heap.size + 1, 7, none⟩ = some (.int .i64 x.c) ∧ Below w.heap.size w w') (by kernel_rfl) ?_ (fun hH => ?_)
      · exact ⟨range_kept RD8 (Below.drew (Below.refl _ _)), range_kept RE8 (Below.drew (Below.refl _ _)), (HC.out _ (range_kept RD8 (Below.drew (Below.refl _ _))) (range_kept RE8 (Below.drew (Below.refl _ _)))).2.2.2.1, (HC.out _ (range_kept RD8 (Below.drew (Below.refl _ _))) (range_kept RE8 (Below.drew (Below.refl _ _)))).2.2.2.2.2.2.2.2, Below.drew BD8⟩
      clear BD8 RD8 RE8 c0 c7 c9 r1 r2 r3 r4 r6 r7
      refine zqk 0 rfl hH ?_
      simp only [Act.put, List.setIfInBounds_toArray, List.set_cons_zero, List.set_cons_succ, List.getElem_toArray, List.getElem_cons_zero]
      refine zqk 1 rfl hH ?_
      simp only [Act.put, List.setIfInBounds_toArray, List.set_cons_zero, List.set_cons_succ, List.getElem_toArray, List.getElem_cons_zero, List.getElem_cons_succ]
      refine zqk 2 rfl hH ?_
      simp only [Act.put, List.setIfInBounds_toArray, List.set_cons_zero, List.set_cons_succ, List.getElem_toArray, List.getElem_cons_zero, List.getElem_cons_succ]
      refine zqk 3 rfl hH ?_
      simp only [Act.put, List.setIfInBounds_toArray, List.set_cons_zero, List.set_cons_succ, List.getElem_toArray, List.getElem_cons_zero, List.getElem_cons_succ]
      refine zqk 4 rfl hH ?_
      simp only [Act.put, List.setIfInBounds_toArray, List.set_cons_zero, List.set_cons_succ, List.getElem_toArray, List.getElem_cons_zero, List.getElem_cons_succ]
      refine zqk 5 rfl hH ?_
      simp only [Act.put, List.setIfInBounds_toArray, List.set_cons_zero, List.set_cons_succ, List.getElem_toArray, List.getElem_cons_zero, List.getElem_cons_succ]
      refine zqk 6 rfl hH ?_
      simp only [Act.put, List.setIfInBounds_toArray, List.set_cons_zero, List.set_cons_succ, List.getElem_toArray, List.getElem_cons_zero, List.getElem_cons_succ]
      refine zqk 7 rfl hH ?_
      simp only [Act.put, List.setIfInBounds_toArray, List.set_cons_zero, List.set_cons_succ, List.getElem_toArray, List.getElem_cons_zero, List.getElem_cons_succ]
      refine zqk 8 rfl hH ?_
      simp only [Act.put, List.setIfInBounds_toArray, List.set_cons_zero, List.set_cons_succ, List.getElem_toArray, List.getElem_cons_zero, List.getElem_cons_succ]
      refine zql 9 rfl (Or.inr ⟨by rfl, rfl⟩) hH ?_
      simp only [Act.put, List.setIfInBounds_toArray, List.set_cons_zero, List.set_cons_succ, List.getElem_toArray, List.getElem_cons_zero, List.getElem_cons_succ]
      refine zql 10 rfl (Or.inr ⟨by rfl, rfl⟩) hH ?_
      simp only [Act.put, List.setIfInBounds_toArray, List.set_cons_zero, List.set_cons_succ, List.getElem_toArray, List.getElem_cons_zero, List.getElem_cons_succ]
      refine zql 11 rfl (Or.inr ⟨by rfl, rfl⟩) hH ?_
      simp only [Act.put, List.setIfInBounds_toArray, List.set_cons_zero, List.set_cons_succ, List.getElem_toArray, List.getElem_cons_zero, List.getElem_cons_succ]
      refine zql 12 rfl (Or.inr ⟨by rfl, rfl⟩) hH ?_
      simp only [Act.put, List.setIfInBounds_toArray, List.set_cons_zero, List.set_cons_succ, List.getElem_toArray, List.getElem_cons_zero, List.getElem_cons_succ]
      refine zql 13 rfl (Or.inr ⟨by rfl, rfl⟩) hH ?_
      simp only [Act.put, List.setIfInBounds_toArray, List.set_cons_zero, List.set_cons_succ, List.getElem_toArray, List.getElem_cons_zero, List.getElem_cons_succ]
      refine zqk 14 rfl hH ?_
      simp only [Act.put, List.setIfInBounds_toArray, List.set_cons_zero, List.set_cons_succ, List.getElem_toArray, List.getElem_cons_zero, List.getElem_cons_succ]
      refine zqk 15 rfl hH ?_
      simp only [Act.put, List.setIfInBounds_toArray, List.set_cons_zero, List.set_cons_succ, List.getElem_toArray, List.getElem_cons_zero, List.getElem_cons_succ]
      refine wpAnyH_done (by kernel_rfl) ?_ _
      have BF := hH.2.2.2.2
      clear hH
      have HF : Hid (0 = A) := by show _ = _; rw [← HA.out, refP_last (by simpa using q1) (by simpa using q2) q3 q4 (by rintro ⟨_, e⟩; exact absurd e (by simpa using q5)) (by simpa using q6) q7 H78.out (by rintro ⟨_, e⟩; rw [qb] at e; exact Bool.false_ne_true e), if_neg (by rintro ⟨_, e, _⟩; exact absurd e (by simpa using qc))]
      go_wp2
      go_ret
      exact ⟨by rw [← HF.out]; rfl, BF⟩
    | true =>
    go_wp2
    refine wp_region_held_drew (S := fun w' : World => w'.rangeAt w.heap.size 0 D ∧ w'.rangeAt (w.heap.size + 1) 0 E ∧ w'.cell? ⟨w.heap.size + 1, 1, none⟩ = some (.int .i64 x.k) ∧ w'.cell? ⟨w.heap.size + 1, 7, none⟩ = some (.int .i64 x.c) ∧ Below w.heap.size w w') (by kernel_rfl) ?_ (fun hH => ?_)
    · exact ⟨range_kept RD8 (Below.drew (Below.refl _ _)), range_kept RE8 (Below.drew (Below.refl _ _)), (HC.out _ (range_kept RD8 (Below.drew (Below.refl _ _))) (range_kept RE8 (Below.drew (Below.refl _ _)))).2.2.2.1, (HC.out _ (range_kept RD8 (Below.drew (Below.refl _ _))) (range_kept RE8 (Below.drew (Below.refl _ _)))).2.2.2.2.2.2.2.2, Below.drew BD8⟩
    clear BD8 RD8 RE8 c0 c7 c9 r1 r2 r3 r4 r6 r7
    refine zqk 0 rfl hH ?_
    simp only [Act.put, List.setIfInBounds_toArray, List.set_cons_zero, List.set_cons_succ, List.getElem_toArray, List.getElem_cons_zero]
    refine zqk 1 rfl hH ?_
    simp only [Act.put, List.setIfInBounds_toArray, List.set_cons_zero, List.set_cons_succ, List.getElem_toArray, List.getElem_cons_zero, List.getElem_cons_succ]
    refine zqk 2 rfl hH ?_
    simp only [Act.put, List.setIfInBounds_toArray, List.set_cons_zero, List.set_cons_succ, List.getElem_toArray, List.getElem_cons_zero, List.getElem_cons_succ]
    refine zqk 3 rfl hH ?_
    simp only [Act.put, List.setIfInBounds_toArray, List.set_cons_zero, List.set_cons_succ, List.getElem_toArray, List.getElem_cons_zero, List.getElem_cons_succ]
    refine zqk 4 rfl hH ?_
    simp only [Act.put, List.setIfInBounds_toArray, List.set_cons_zero, List.set_cons_succ, List.getElem_toArray, List.getElem_cons_zero, List.getElem_cons_succ]
    refine zqk 5 rfl hH ?_
    simp only [Act.put, List.setIfInBounds_toArray, List.set_cons_zero, List.set_cons_succ, List.getElem_toArray, List.getElem_cons_zero, List.getElem_cons_succ]
    refine zqk 6 rfl hH ?_
    simp only [Act.put, List.setIfInBounds_toArray, List.set_cons_zero, List.set_cons_succ, List.getElem_toArray, List.getElem_cons_zero, List.getElem_cons_succ]
    refine zqk 7 rfl hH ?_
    simp only [Act.put, List.setIfInBounds_toArray, List.set_cons_zero, List.set_cons_succ, List.getElem_toArray, List.getElem_cons_zero, List.getElem_cons_succ]
    refine zqk 8 rfl hH ?_
    simp only [Act.put, List.setIfInBounds_toArray, List.set_cons_zero, List.set_cons_succ, List.getElem_toArray, List.getElem_cons_zero, List.getElem_cons_succ]
    refine zqk 9 rfl hH ?_
    simp only [Act.put, List.setIfInBounds_toArray, List.set_cons_zero, List.set_cons_succ, List.getElem_toArray, List.getElem_cons_zero, List.getElem_cons_succ]
    refine zqk 10 rfl hH ?_
    simp only [Act.put, List.setIfInBounds_toArray, List.set_cons_zero, List.set_cons_succ, List.getElem_toArray, List.getElem_cons_zero, List.getElem_cons_succ]
    refine zql 11 rfl (yieldsIf_load_mid (by rfl) _ _ rfl _ _ rfl D _ (fun w' hSw => hSw.1) Tryz.underlying43 rfl HL.out) hH ?_
    simp only [Act.put, List.setIfInBounds_toArray, List.set_cons_zero, List.set_cons_succ, List.getElem_toArray, List.getElem_cons_zero, List.getElem_cons_succ]
    refine zqr 12 rfl (fun K hK => ?_)
    go_simp
    refine (HU.out _).mono ?_
    rintro e w9 ⟨rfl, b9⟩
    refine hK.out _ _ ?_ (fun hH2 => ?_)
    · exact ⟨range_kept hH.1 b9, range_kept hH.2.1 b9, (HC.out _ (range_kept hH.1 b9) (range_kept hH.2.1 b9)).2.2.2.1, (HC.out _ (range_kept hH.1 b9) (range_kept hH.2.1 b9)).2.2.2.2.2.2.2.2, andThen hH.2.2.2.2 b9⟩
    clear hK K hH
    have hH := hH2
    clear hH2
    refine zqk 13 rfl hH ?_
    simp only [Act.put, List.setIfInBounds_toArray, List.set_cons_zero, List.set_cons_succ, List.getElem_toArray, List.getElem_cons_zero, List.getElem_cons_succ]
    refine zqk 14 rfl hH ?_
    simp only [Act.put, List.setIfInBounds_toArray, List.set_cons_zero, List.set_cons_succ, List.getElem_toArray, List.getElem_cons_zero, List.getElem_cons_succ]
    refine zqk 15 rfl hH ?_
    simp only [Act.put, List.setIfInBounds_toArray, List.set_cons_zero, List.set_cons_succ, List.getElem_toArray, List.getElem_cons_zero, List.getElem_cons_succ]
    refine wpAnyH_done (by kernel_rfl) ?_ _
    have BF := hH.2.2.2.2
    clear hH
    cases qo : (x.c != S.x.outcome) with
    | false =>
      have HF : Hid (0 = A) := by show _ = _; rw [← HA.out, refP_last (by simpa using q1) (by simpa using q2) q3 q4 (by rintro ⟨_, e⟩; exact absurd e (by simpa using q5)) (by simpa using q6) q7 H78.out (by rintro ⟨_, e⟩; rw [qb] at e; exact Bool.false_ne_true e), if_neg (by rintro ⟨_, _, e⟩; exact absurd e (by simpa using qo))]
      go_wp2
      go_ret
      exact ⟨by rw [← HF.out]; rfl, BF⟩
    | true =>
      have HF : Hid (109 = A) := by show _ = _; rw [← HA.out, refP_last (by simpa using q1) (by simpa using q2) q3 q4 (by rintro ⟨_, e⟩; exact absurd e (by simpa using q5)) (by simpa using q6) q7 H78.out (by rintro ⟨_, e⟩; rw [qb] at e; exact Bool.false_ne_true e), if_pos ⟨by simpa using qk, by simpa using qc, by simpa using qo⟩]
      go_wp2
      go_ret
      exact ⟨by rw [← HF.out]; rfl, BF⟩
set_option maxRecDepth 100000 in
set_option maxHeartbeats 8000000 in
theorem refusal_n (S : Sg) (h : SH) (x : Nums) (nm : ByteArray) (d : Value) (w : World) (hK : KindsT w) (hn : 0 ≤ S.x.nx ∧ S.x.nx ≤ 32) (ht : 0 ≤ S.x.tr ∧ S.x.tr ≤ 1000) (hk : 1 ≤ x.k ∧ x.k ≤ 7) (qf : (x.l == 1) = false) : Calls Tryz.prog 89 #[sv S h, rv x nm d] w fun e w' => e = .returned (.int .i64 (refP S.x x)) ∧ Below w.heap.size w w' := by
  have HN0 : ∀ w', Calls Tryz.prog 37 #[sv S h] w' fun e w'' => e = .returned (.bool S.x.ended) ∧ Below w'.heap.size w' w'' := fun w' => ended_any S h w'
  have HP0 : ∀ w', Below w.heap.size w w' → Calls Tryz.prog 104 #[sv S h, .int .i64 x.k] w' fun e w'' => e = .returned (.bool (S.x.inPh x.k)) ∧ Below w'.heap.size w' w'' := fun w' hb => inPh_any S h x.k w' hk (hK.kept hb)
  have HO0 : ∀ w', Calls Tryz.prog 105 #[sv S h, rv x nm d] w' fun e w'' => e = .returned (.bool (S.x.onTurn x.k x.p)) ∧ Below w'.heap.size w' w'' := fun w' => onTurn_any S h x nm d w' hn
  have HT0 : ∀ w', Calls Tryz.prog 106 #[sv S h] w' fun e w'' => e = .returned (.int .i64 S.x.nextTry) ∧ Below w'.heap.size w' w'' := fun w' => nextTry_any S h w' ht
  have HU0 : ∀ w', Calls Tryz.prog 38 #[sv S h] w' fun e w'' => e = .returned (.int .i64 S.x.outcome) ∧ Below w'.heap.size w' w'' := fun w' => outcome_any S h w'
  have HKT : Hid (∀ W : World, Below w.heap.size w W → W.cell? ⟨3, x.k.toNat * 2 + 1, none⟩ = some (.bool (lands x.k))) := fun W hb => by have e := ((hK.kept hb) x.k.toNat (by omega)).2; rw [Nat.mul_comm] at e; rw [e]; congr 2; rw [Int.toNat_of_nonneg (by omega)]
  clear hK hn ht
  obtain ⟨A, hA⟩ : ∃ A, refP S.x x = A := ⟨_, rfl⟩
  have HA : Hid (refP S.x x = A) := hA
  rw [hA]
  clear hA
  obtain ⟨D, hD, hL, hE⟩ := sv_letter S h
  obtain ⟨E, hD2, hL2, hE2⟩ := rv_letter x nm d
  rw [hD, hD2]
  try rw [hD] at HN0
  try rw [hD2] at HN0
  try rw [hD] at HP0
  try rw [hD2] at HP0
  try rw [hD] at HO0
  try rw [hD2] at HO0
  try rw [hD] at HT0
  try rw [hD2] at HT0
  try rw [hD] at HU0
  try rw [hD2] at HU0
  have HN : Hid _ := HN0
  have HP : Hid _ := HP0
  have HO : Hid _ := HO0
  have HT : Hid _ := HT0
  have HU : Hid _ := HU0
  have HL : Hid _ := hL
  have HE : Hid (D = scl S h) := hE
  have HL2 : Hid _ := hL2
  have HE2 : Hid (E = rcE x nm d) := hE2
  have HX : Hid (∀ t t2, ((w.alloc (.cells D.toArray t)).alloc (.cells E.toArray t2)).rangeAt w.heap.size 0 D ∧ ((w.alloc (.cells D.toArray t)).alloc (.cells E.toArray t2)).rangeAt (w.heap.size + 1) 0 E ∧ Below w.heap.size w ((w.alloc (.cells D.toArray t)).alloc (.cells E.toArray t2))) := fun t t2 => boxed2 w D E t t2
  clear hD hL hE hD2 hL2 hE2 HN0 HP0 HO0 HT0 HU0
  have HC : Hid (∀ W : World, W.rangeAt w.heap.size 0 D → W.rangeAt (w.heap.size + 1) 0 E → (W.cell? ⟨w.heap.size, 0, none⟩ = some (.int .i64 S.x.id) ∧ W.cell? ⟨w.heap.size, 7, none⟩ = some (.int .i64 S.x.ph) ∧ W.cell? ⟨w.heap.size, 9, none⟩ = some (.bool S.x.fl) ∧ W.cell? ⟨w.heap.size + 1, 1, none⟩ = some (.int .i64 x.k) ∧ W.cell? ⟨w.heap.size + 1, 2, none⟩ = some (.int .i64 x.s) ∧ W.cell? ⟨w.heap.size + 1, 3, none⟩ = some (.int .i64 x.p) ∧ W.cell? ⟨w.heap.size + 1, 4, none⟩ = some (.int .i64 x.t) ∧ W.cell? ⟨w.heap.size + 1, 6, none⟩ = some (.int .i64 x.l) ∧ W.cell? ⟨w.heap.size + 1, 7, none⟩ = some (.int .i64 x.c))) := fun W a b => ⟨range_cell a 0 _ (by rw [HE.out]; rfl), range_cell a 7 _ (by rw [HE.out]; rfl), range_cell a 9 _ (by rw [HE.out]; rfl), range_cell b 1 _ (by rw [HE2.out]; rfl), range_cell b 2 _ (by rw [HE2.out]; rfl), range_cell b 3 _ (by rw [HE2.out]; rfl), range_cell b 4 _ (by rw [HE2.out]; rfl), range_cell b 6 _ (by rw [HE2.out]; rfl), range_cell b 7 _ (by rw [HE2.out]; rfl)⟩
  clear HE HE2
  have hk0 : 0 ≤ x.k := by omega
  have hk8 : x.k < 8 := by omega
  have BD0 := (HX.out 43 32).2.2
  have RD0 := (HX.out 43 32).1
  have RE0 := (HX.out 43 32).2.1
  obtain ⟨c0, c7, c9, r1, r2, r3, r4, r6, r7⟩ := HC.out _ RD0 RE0
  go_enter Tryz.func89, Tryz.ntmps89
  cases q1 : (x.s != S.x.id) with
  | true =>
    have HF : Hid (101 = A) := by show _ = _; rw [← HA.out]; unfold refP; simp [show x.s ≠ S.x.id by simpa using q1]
    go_wp2
    go_ret
    exact ⟨by rw [← HF.out]; rfl, BD0⟩
  | false =>
  cases q2 : (x.k == 1) with
  | true =>
    have HF : Hid (102 = A) := by show _ = _; rw [← HA.out]; unfold refP; simp [show x.s = S.x.id by simpa using q1, show x.k = 1 by simpa using q2]
    go_wp2
    go_ret
    exact ⟨by rw [← HF.out]; rfl, BD0⟩
  | false =>
  go_wp2_with (first | (refine wpList_load_mid rfl 43 _ rfl w.heap.size 0 rfl D _ RD0 Tryz.underlying43 rfl HL.out ?_) | (refine wpList_load_midG rfl 43 _ rfl w.heap.size 0 rfl D _ RD0 Tryz.underlying43 rfl HL.out ?_))
  refine (HN.out _).mono ?_
  rintro e w1 ⟨rfl, b1⟩
  have BD1 := andThen BD0 b1
  have RD1 := range_kept RD0 b1
  have RE1 := range_kept RE0 b1
  clear BD0 RD0 RE0 b1 c0 c7 c9 r1 r2 r3 r4 r6 r7
  obtain ⟨c0, c7, c9, r1, r2, r3, r4, r6, r7⟩ := HC.out _ RD1 RE1
  clear HX HN
  cases q3 : S.x.ended with
  | true =>
    have HF : Hid (103 = A) := by show _ = _; rw [← HA.out]; unfold refP; simp [show x.s = S.x.id by simpa using q1, show x.k ≠ 1 by simpa using q2, q3]
    go_wp2
    go_ret
    exact ⟨by rw [← HF.out]; rfl, BD1⟩
  | false =>
  go_wp2_with (first | (refine wpList_load_mid rfl 43 _ rfl w.heap.size 0 rfl D _ RD1 Tryz.underlying43 rfl HL.out ?_) | (refine wpList_load_midG rfl 43 _ rfl w.heap.size 0 rfl D _ RD1 Tryz.underlying43 rfl HL.out ?_))
  refine (HP.out _ BD1).mono ?_
  rintro e w2 ⟨rfl, b2⟩
  have BD2 := andThen BD1 b2
  have RD2 := range_kept RD1 b2
  have RE2 := range_kept RE1 b2
  clear BD1 RD1 RE1 b2 c0 c7 c9 r1 r2 r3 r4 r6 r7
  obtain ⟨c0, c7, c9, r1, r2, r3, r4, r6, r7⟩ := HC.out _ RD2 RE2
  clear HP
  cases q4 : S.x.inPh x.k with
  | false =>
    have HF : Hid (104 = A) := by show _ = _; rw [← HA.out]; unfold refP; simp [show x.s = S.x.id by simpa using q1, show x.k ≠ 1 by simpa using q2, q3, q4]
    go_wp2
    go_ret
    exact ⟨by rw [← HF.out]; rfl, BD2⟩
  | true =>
  have k1 := HKT.out _ BD2
  go_wp2
  go_quiet (fail)
  have b3 : Below w2.heap.size w2 (w2.drewN nq) := bdrewN (Below.refl _ _) _
  clear k1
  generalize w2.drewN nq = w3 at *
  have BD3 := andThen BD2 b3
  have RD3 := range_kept RD2 b3
  have RE3 := range_kept RE2 b3
  clear BD2 RD2 RE2 b3 c0 c7 c9 r1 r2 r3 r4 r6 r7
  obtain ⟨c0, c7, c9, r1, r2, r3, r4, r6, r7⟩ := HC.out _ RD3 RE3
  cases q6 : (lands x.k == S.x.fl) with
  | false =>
    have HF : Hid (105 = A) := by show _ = _; rw [← HA.out]; unfold refP; simp [show x.s = S.x.id by simpa using q1, show x.k ≠ 1 by simpa using q2, q3, q4, show x.l ≠ 1 by simpa using qf, show lands x.k ≠ S.x.fl by simpa using q6]
    go_wp2
    go_ret
    exact ⟨by rw [← HF.out]; rfl, BD3⟩
  | true =>
  go_wp2_with (first | (refine wpList_load_mid rfl 43 _ rfl w.heap.size 0 rfl D _ RD3 Tryz.underlying43 rfl HL.out ?_) | (refine wpList_load_mid rfl 32 _ rfl (w.heap.size + 1) 0 rfl E _ RE3 Tryz.underlying32 rfl HL2.out ?_))
  refine (HO.out _).mono ?_
  rintro e w4 ⟨rfl, b4⟩
  have BD4 := andThen BD3 b4
  have RD4 := range_kept RD3 b4
  have RE4 := range_kept RE3 b4
  clear BD3 RD3 RE3 b4 c0 c7 c9 r1 r2 r3 r4 r6 r7
  obtain ⟨c0, c7, c9, r1, r2, r3, r4, r6, r7⟩ := HC.out _ RD4 RE4
  clear HO
  cases q7 : S.x.onTurn x.k x.p with
  | false =>
    have HF : Hid (106 = A) := by show _ = _; rw [← HA.out]; unfold refP; simp [show x.s = S.x.id by simpa using q1, show x.k ≠ 1 by simpa using q2, q3, q4, show x.l ≠ 1 by simpa using qf, show lands x.k = S.x.fl by simpa using q6, q7]
    go_wp2
    go_ret
    exact ⟨by rw [← HF.out]; rfl, BD4⟩
  | true =>
  cases q8 : (x.t != 0 && x.t != S.x.nextTry) with
  | true =>
    simp only [Bool.and_eq_true] at q8
    obtain ⟨q8, q9⟩ := q8
    go_wp2
    refine wp_region_held_drew (S := fun w' : World => w'.rangeAt w.heap.size 0 D ∧ w'.rangeAt (w.heap.size + 1) 0 E ∧ w'.cell? ⟨w.heap.size + 1, 4, none⟩ = some (.int .i64 x.t) ∧ Below w.heap.size w w') (by kernel_rfl) ?_ (fun hH => ?_)
    · exact ⟨range_kept RD4 (Below.drew (Below.refl _ _)), range_kept RE4 (Below.drew (Below.refl _ _)), (HC.out _ (range_kept RD4 (Below.drew (Below.refl _ _))) (range_kept RE4 (Below.drew (Below.refl _ _)))).2.2.2.2.2.2.1, Below.drew BD4⟩
    clear BD4 RD4 RE4 c0 c7 c9 r1 r2 r3 r4 r6 r7
    refine zqk 0 rfl hH ?_
    simp only [Act.put, List.setIfInBounds_toArray, List.set_cons_zero, List.set_cons_succ, List.getElem_toArray, List.getElem_cons_zero]
    refine zqk 1 rfl hH ?_
    simp only [Act.put, List.setIfInBounds_toArray, List.set_cons_zero, List.set_cons_succ, List.getElem_toArray, List.getElem_cons_zero, List.getElem_cons_succ]
    refine zqk 2 rfl hH ?_
    simp only [Act.put, List.setIfInBounds_toArray, List.set_cons_zero, List.set_cons_succ, List.getElem_toArray, List.getElem_cons_zero, List.getElem_cons_succ]
    refine zqk 3 rfl hH ?_
    simp only [Act.put, List.setIfInBounds_toArray, List.set_cons_zero, List.set_cons_succ, List.getElem_toArray, List.getElem_cons_zero, List.getElem_cons_succ]
    refine zqk 4 rfl hH ?_
    simp only [Act.put, List.setIfInBounds_toArray, List.set_cons_zero, List.set_cons_succ, List.getElem_toArray, List.getElem_cons_zero, List.getElem_cons_succ]
    refine zqk 5 rfl hH ?_
    simp only [Act.put, List.setIfInBounds_toArray, List.set_cons_zero, List.set_cons_succ, List.getElem_toArray, List.getElem_cons_zero, List.getElem_cons_succ]
    refine zql 6 rfl (yieldsIf_load_mid (by rfl) _ _ rfl _ _ rfl D _ (fun w' hSw => hSw.1) Tryz.underlying43 rfl HL.out) hH ?_
    simp only [Act.put, List.setIfInBounds_toArray, List.set_cons_zero, List.set_cons_succ, List.getElem_toArray, List.getElem_cons_zero, List.getElem_cons_succ]
    refine zqr 7 rfl (fun K hK => ?_)
    go_simp
    refine (HT.out _).mono ?_
    rintro e w5 ⟨rfl, b5⟩
    refine hK.out _ _ ?_ (fun hH2 => ?_)
    · exact ⟨range_kept hH.1 b5, range_kept hH.2.1 b5, (HC.out _ (range_kept hH.1 b5) (range_kept hH.2.1 b5)).2.2.2.2.2.2.1, andThen hH.2.2.2 b5⟩
    clear hK K hH
    have hH := hH2
    clear hH2
    refine zqk 8 rfl hH ?_
    simp only [Act.put, List.setIfInBounds_toArray, List.set_cons_zero, List.set_cons_succ, List.getElem_toArray, List.getElem_cons_zero, List.getElem_cons_succ]
    refine zqk 9 rfl hH ?_
    simp only [Act.put, List.setIfInBounds_toArray, List.set_cons_zero, List.set_cons_succ, List.getElem_toArray, List.getElem_cons_zero, List.getElem_cons_succ]
    refine zqk 10 rfl hH ?_
    simp only [Act.put, List.setIfInBounds_toArray, List.set_cons_zero, List.set_cons_succ, List.getElem_toArray, List.getElem_cons_zero, List.getElem_cons_succ]
    refine wpAnyH_done (by kernel_rfl) ?_ _
    have BF := hH.2.2.2
    clear hH
    have HF : Hid (107 = A) := by show _ = _; rw [← HA.out]; unfold refP; simp [show x.s = S.x.id by simpa using q1, show x.k ≠ 1 by simpa using q2, q3, q4, show x.l ≠ 1 by simpa using qf, show lands x.k = S.x.fl by simpa using q6, q7, show x.t ≠ 0 by simpa using q8, show x.t ≠ S.x.nextTry by simpa using q9]
    go_wp2
    go_ret
    exact ⟨by rw [← HF.out]; rfl, BF⟩
  | false =>
  have H78 : Hid (¬ (x.t ≠ 0 ∧ x.t ≠ S.x.nextTry)) := by show ¬ _; simpa using q8
  rcases Bool.eq_false_or_eq_true (x.t != 0) with qt | qt
  case' inl =>
    have q9 : (x.t != S.x.nextTry) = false := by rw [qt] at q8; simpa using q8
    clear q8
    go_wp2
    refine wp_region_held_drew (S := fun w' : World => w'.rangeAt w.heap.size 0 D ∧ w'.rangeAt (w.heap.size + 1) 0 E ∧ w'.cell? ⟨w.heap.size + 1, 4, none⟩ = some (.int .i64 x.t) ∧ Below w.heap.size w w') (by kernel_rfl) ?_ (fun hH => ?_)
    · exact ⟨range_kept RD4 (Below.drew (Below.refl _ _)), range_kept RE4 (Below.drew (Below.refl _ _)), (HC.out _ (range_kept RD4 (Below.drew (Below.refl _ _))) (range_kept RE4 (Below.drew (Below.refl _ _)))).2.2.2.2.2.2.1, Below.drew BD4⟩
    clear BD4 RD4 RE4 c0 c7 c9 r1 r2 r3 r4 r6 r7
    refine zqk 0 rfl hH ?_
    simp only [Act.put, List.setIfInBounds_toArray, List.set_cons_zero, List.set_cons_succ, List.getElem_toArray, List.getElem_cons_zero]
    refine zqk 1 rfl hH ?_
    simp only [Act.put, List.setIfInBounds_toArray, List.set_cons_zero, List.set_cons_succ, List.getElem_toArray, List.getElem_cons_zero, List.getElem_cons_succ]
    refine zqk 2 rfl hH ?_
    simp only [Act.put, List.setIfInBounds_toArray, List.set_cons_zero, List.set_cons_succ, List.getElem_toArray, List.getElem_cons_zero, List.getElem_cons_succ]
    refine zqk 3 rfl hH ?_
    simp only [Act.put, List.setIfInBounds_toArray, List.set_cons_zero, List.set_cons_succ, List.getElem_toArray, List.getElem_cons_zero, List.getElem_cons_succ]
    refine zqk 4 rfl hH ?_
    simp only [Act.put, List.setIfInBounds_toArray, List.set_cons_zero, List.set_cons_succ, List.getElem_toArray, List.getElem_cons_zero, List.getElem_cons_succ]
    refine zqk 5 rfl hH ?_
    simp only [Act.put, List.setIfInBounds_toArray, List.set_cons_zero, List.set_cons_succ, List.getElem_toArray, List.getElem_cons_zero, List.getElem_cons_succ]
    refine zql 6 rfl (yieldsIf_load_mid (by rfl) _ _ rfl _ _ rfl D _ (fun w' hSw => hSw.1) Tryz.underlying43 rfl HL.out) hH ?_
    simp only [Act.put, List.setIfInBounds_toArray, List.set_cons_zero, List.set_cons_succ, List.getElem_toArray, List.getElem_cons_zero, List.getElem_cons_succ]
    refine zqr 7 rfl (fun K hK => ?_)
    go_simp
    refine (HT.out _).mono ?_
    rintro e w5 ⟨rfl, b5⟩
    refine hK.out _ _ ?_ (fun hH2 => ?_)
    · exact ⟨range_kept hH.1 b5, range_kept hH.2.1 b5, (HC.out _ (range_kept hH.1 b5) (range_kept hH.2.1 b5)).2.2.2.2.2.2.1, andThen hH.2.2.2 b5⟩
    clear hK K hH
    have hH := hH2
    clear hH2
    refine zqk 8 rfl hH ?_
    simp only [Act.put, List.setIfInBounds_toArray, List.set_cons_zero, List.set_cons_succ, List.getElem_toArray, List.getElem_cons_zero, List.getElem_cons_succ]
    refine zqk 9 rfl hH ?_
    simp only [Act.put, List.setIfInBounds_toArray, List.set_cons_zero, List.set_cons_succ, List.getElem_toArray, List.getElem_cons_zero, List.getElem_cons_succ]
    refine zqk 10 rfl hH ?_
    simp only [Act.put, List.setIfInBounds_toArray, List.set_cons_zero, List.set_cons_succ, List.getElem_toArray, List.getElem_cons_zero, List.getElem_cons_succ]
    refine wpAnyH_done (by kernel_rfl) ?_ _
  case' inr =>
    clear q8
    go_wp2
    refine wp_region_held_drew (S := fun w' : World => w'.rangeAt w.heap.size 0 D ∧ w'.rangeAt (w.heap.size + 1) 0 E ∧ w'.cell? ⟨w.heap.size + 1, 4, none⟩ = some (.int .i64 x.t) ∧ Below w.heap.size w w') (by kernel_rfl) ?_ (fun hH => ?_)
    · exact ⟨range_kept RD4 (Below.drew (Below.refl _ _)), range_kept RE4 (Below.drew (Below.refl _ _)), (HC.out _ (range_kept RD4 (Below.drew (Below.refl _ _))) (range_kept RE4 (Below.drew (Below.refl _ _)))).2.2.2.2.2.2.1, Below.drew BD4⟩
    clear BD4 RD4 RE4 c0 c7 c9 r1 r2 r3 r4 r6 r7
    refine zqk 0 rfl hH ?_
    simp only [Act.put, List.setIfInBounds_toArray, List.set_cons_zero, List.set_cons_succ, List.getElem_toArray, List.getElem_cons_zero]
    refine zqk 1 rfl hH ?_
    simp only [Act.put, List.setIfInBounds_toArray, List.set_cons_zero, List.set_cons_succ, List.getElem_toArray, List.getElem_cons_zero, List.getElem_cons_succ]
    refine zqk 2 rfl hH ?_
    simp only [Act.put, List.setIfInBounds_toArray, List.set_cons_zero, List.set_cons_succ, List.getElem_toArray, List.getElem_cons_zero, List.getElem_cons_succ]
    refine zqk 3 rfl hH ?_
    simp only [Act.put, List.setIfInBounds_toArray, List.set_cons_zero, List.set_cons_succ, List.getElem_toArray, List.getElem_cons_zero, List.getElem_cons_succ]
    refine zql 4 rfl (Or.inr ⟨by rfl, rfl⟩) hH ?_
    simp only [Act.put, List.setIfInBounds_toArray, List.set_cons_zero, List.set_cons_succ, List.getElem_toArray, List.getElem_cons_zero, List.getElem_cons_succ]
    refine zql 5 rfl (Or.inr ⟨by rfl, rfl⟩) hH ?_
    simp only [Act.put, List.setIfInBounds_toArray, List.set_cons_zero, List.set_cons_succ, List.getElem_toArray, List.getElem_cons_zero, List.getElem_cons_succ]
    refine zql 6 rfl (Or.inr ⟨by rfl, rfl⟩) hH ?_
    simp only [Act.put, List.setIfInBounds_toArray, List.set_cons_zero, List.set_cons_succ, List.getElem_toArray, List.getElem_cons_zero, List.getElem_cons_succ]
    refine zql 7 rfl (Or.inr ⟨by rfl, rfl⟩) hH ?_
    simp only [Act.put, List.setIfInBounds_toArray, List.set_cons_zero, List.set_cons_succ, List.getElem_toArray, List.getElem_cons_zero, List.getElem_cons_succ]
    refine zql 8 rfl (Or.inr ⟨by rfl, rfl⟩) hH ?_
    simp only [Act.put, List.setIfInBounds_toArray, List.set_cons_zero, List.set_cons_succ, List.getElem_toArray, List.getElem_cons_zero, List.getElem_cons_succ]
    refine zqk 9 rfl hH ?_
    simp only [Act.put, List.setIfInBounds_toArray, List.set_cons_zero, List.set_cons_succ, List.getElem_toArray, List.getElem_cons_zero, List.getElem_cons_succ]
    refine zqk 10 rfl hH ?_
    simp only [Act.put, List.setIfInBounds_toArray, List.set_cons_zero, List.set_cons_succ, List.getElem_toArray, List.getElem_cons_zero, List.getElem_cons_succ]
    refine wpAnyH_done (by kernel_rfl) ?_ _
  all_goals
    have BD6 := hH.2.2.2
    have RD6 := hH.1
    have RE6 := hH.2.1
    clear hH
    obtain ⟨c0, c7, c9, r1, r2, r3, r4, r6, r7⟩ := HC.out _ RD6 RE6
    cases qk : (x.k == 7) with
    | false =>
      go_wp2
      refine wp_region_held_drew (S := fun w' : World => w'.rangeAt w.heap.size 0 D ∧ w'.rangeAt (w.heap.size + 1) 0 E ∧ w'.cell? ⟨w.heap.size + 1, 1, none⟩ = some (.int .i64 x.k) ∧ w'.cell? ⟨w.heap.size + 1, 7, none⟩ = some (.int .i64 x.c) ∧ Below w.heap.size w w') (by kernel_rfl) ?_ (fun hH => ?_)
      · exact ⟨range_kept RD6 (Below.drew (Below.refl _ _)), range_kept RE6 (Below.drew (Below.refl _ _)), (HC.out _ (range_kept RD6 (Below.drew (Below.refl _ _))) (range_kept RE6 (Below.drew (Below.refl _ _)))).2.2.2.1, (HC.out _ (range_kept RD6 (Below.drew (Below.refl _ _))) (range_kept RE6 (Below.drew (Below.refl _ _)))).2.2.2.2.2.2.2.2, Below.drew BD6⟩
      clear BD6 RD6 RE6 c0 c7 c9 r1 r2 r3 r4 r6 r7
      refine zqk 0 rfl hH ?_
      simp only [Act.put, List.setIfInBounds_toArray, List.set_cons_zero, List.set_cons_succ, List.getElem_toArray, List.getElem_cons_zero]
      refine zqk 1 rfl hH ?_
      simp only [Act.put, List.setIfInBounds_toArray, List.set_cons_zero, List.set_cons_succ, List.getElem_toArray, List.getElem_cons_zero, List.getElem_cons_succ]
      refine zqk 2 rfl hH ?_
      simp only [Act.put, List.setIfInBounds_toArray, List.set_cons_zero, List.set_cons_succ, List.getElem_toArray, List.getElem_cons_zero, List.getElem_cons_succ]
      refine zqk 3 rfl hH ?_
      simp only [Act.put, List.setIfInBounds_toArray, List.set_cons_zero, List.set_cons_succ, List.getElem_toArray, List.getElem_cons_zero, List.getElem_cons_succ]
      refine zql 4 rfl (Or.inr ⟨by rfl, rfl⟩) hH ?_
      simp only [Act.put, List.setIfInBounds_toArray, List.set_cons_zero, List.set_cons_succ, List.getElem_toArray, List.getElem_cons_zero, List.getElem_cons_succ]
      refine zql 5 rfl (Or.inr ⟨by rfl, rfl⟩) hH ?_
      simp only [Act.put, List.setIfInBounds_toArray, List.set_cons_zero, List.set_cons_succ, List.getElem_toArray, List.getElem_cons_zero, List.getElem_cons_succ]
      refine zql 6 rfl (Or.inr ⟨by rfl, rfl⟩) hH ?_
      simp only [Act.put, List.setIfInBounds_toArray, List.set_cons_zero, List.set_cons_succ, List.getElem_toArray, List.getElem_cons_zero, List.getElem_cons_succ]
      refine zqk 7 rfl hH ?_
      simp only [Act.put, List.setIfInBounds_toArray, List.set_cons_zero, List.set_cons_succ, List.getElem_toArray, List.getElem_cons_zero, List.getElem_cons_succ]
      refine zqk 8 rfl hH ?_
      simp only [Act.put, List.setIfInBounds_toArray, List.set_cons_zero, List.set_cons_succ, List.getElem_toArray, List.getElem_cons_zero, List.getElem_cons_succ]
      refine zql 9 rfl (Or.inr ⟨by rfl, rfl⟩) hH ?_
      simp only [Act.put, List.setIfInBounds_toArray, List.set_cons_zero, List.set_cons_succ, List.getElem_toArray, List.getElem_cons_zero, List.getElem_cons_succ]
      refine zql 10 rfl (Or.inr ⟨by rfl, rfl⟩) hH ?_
      simp only [Act.put, List.setIfInBounds_toArray, List.set_cons_zero, List.set_cons_succ, List.getElem_toArray, List.getElem_cons_zero, List.getElem_cons_succ]
      refine zql 11 rfl (Or.inr ⟨by rfl, rfl⟩) hH ?_
      simp only [Act.put, List.setIfInBounds_toArray, List.set_cons_zero, List.set_cons_succ, List.getElem_toArray, List.getElem_cons_zero, List.getElem_cons_succ]
      refine zql 12 rfl (Or.inr ⟨by rfl, rfl⟩) hH ?_
      simp only [Act.put, List.setIfInBounds_toArray, List.set_cons_zero, List.set_cons_succ, List.getElem_toArray, List.getElem_cons_zero, List.getElem_cons_succ]
      refine zql 13 rfl (Or.inr ⟨by rfl, rfl⟩) hH ?_
      simp only [Act.put, List.setIfInBounds_toArray, List.set_cons_zero, List.set_cons_succ, List.getElem_toArray, List.getElem_cons_zero, List.getElem_cons_succ]
      refine zqk 14 rfl hH ?_
      simp only [Act.put, List.setIfInBounds_toArray, List.set_cons_zero, List.set_cons_succ, List.getElem_toArray, List.getElem_cons_zero, List.getElem_cons_succ]
      refine zqk 15 rfl hH ?_
      simp only [Act.put, List.setIfInBounds_toArray, List.set_cons_zero, List.set_cons_succ, List.getElem_toArray, List.getElem_cons_zero, List.getElem_cons_succ]
      refine wpAnyH_done (by kernel_rfl) ?_ _
      have BF := hH.2.2.2.2
      clear hH
      have HF : Hid (0 = A) := by show _ = _; rw [← HA.out, refP_last (by simpa using q1) (by simpa using q2) q3 q4 (by rintro ⟨e, _⟩; exact absurd e (by simpa using qf)) (by simpa using q6) q7 H78.out (by rintro ⟨e, _⟩; exact absurd e (by simpa using qf)), if_neg (by rintro ⟨e, _⟩; exact absurd e (by simpa using qk))]
      go_wp2
      go_ret
      exact ⟨by rw [← HF.out]; rfl, BF⟩
    | true =>
    cases qc : (x.c != 0) with
    | false =>
      go_wp2
      refine wp_region_held_drew (S := fun w' : World => w'.rangeAt w.heap.size 0 D ∧ w'.rangeAt (w.heap.size + 1) 0 E ∧ w'.cell? ⟨w.heap.size + 1, 1, none⟩ = some (.int .i64 x.k) ∧ w'.cell? ⟨w.heap.size + 1, 7, none⟩ = some (.int .i64 x.c) ∧ Below w.heap.size w w') (by kernel_rfl) ?_ (fun hH => ?_)
      · exact ⟨range_kept RD6 (Below.drew (Below.refl _ _)), range_kept RE6 (Below.drew (Below.refl _ _)), (HC.out _ (range_kept RD6 (Below.drew (Below.refl _ _))) (range_kept RE6 (Below.drew (Below.refl _ _)))).2.2.2.1, (HC.out _ (range_kept RD6 (Below.drew (Below.refl _ _))) (range_kept RE6 (Below.drew (Below.refl _ _)))).2.2.2.2.2.2.2.2, Below.drew BD6⟩
      clear BD6 RD6 RE6 c0 c7 c9 r1 r2 r3 r4 r6 r7
      refine zqk 0 rfl hH ?_
      simp only [Act.put, List.setIfInBounds_toArray, List.set_cons_zero, List.set_cons_succ, List.getElem_toArray, List.getElem_cons_zero]
      refine zqk 1 rfl hH ?_
      simp only [Act.put, List.setIfInBounds_toArray, List.set_cons_zero, List.set_cons_succ, List.getElem_toArray, List.getElem_cons_zero, List.getElem_cons_succ]
      refine zqk 2 rfl hH ?_
      simp only [Act.put, List.setIfInBounds_toArray, List.set_cons_zero, List.set_cons_succ, List.getElem_toArray, List.getElem_cons_zero, List.getElem_cons_succ]
      refine zqk 3 rfl hH ?_
      simp only [Act.put, List.setIfInBounds_toArray, List.set_cons_zero, List.set_cons_succ, List.getElem_toArray, List.getElem_cons_zero, List.getElem_cons_succ]
      refine zqk 4 rfl hH ?_
      simp only [Act.put, List.setIfInBounds_toArray, List.set_cons_zero, List.set_cons_succ, List.getElem_toArray, List.getElem_cons_zero, List.getElem_cons_succ]
      refine zqk 5 rfl hH ?_
      simp only [Act.put, List.setIfInBounds_toArray, List.set_cons_zero, List.set_cons_succ, List.getElem_toArray, List.getElem_cons_zero, List.getElem_cons_succ]
      refine zqk 6 rfl hH ?_
      simp only [Act.put, List.setIfInBounds_toArray, List.set_cons_zero, List.set_cons_succ, List.getElem_toArray, List.getElem_cons_zero, List.getElem_cons_succ]
      refine zqk 7 rfl hH ?_
      simp only [Act.put, List.setIfInBounds_toArray, List.set_cons_zero, List.set_cons_succ, List.getElem_toArray, List.getElem_cons_zero, List.getElem_cons_succ]
      refine zqk 8 rfl hH ?_
      simp only [Act.put, List.setIfInBounds_toArray, List.set_cons_zero, List.set_cons_succ, List.getElem_toArray, List.getElem_cons_zero, List.getElem_cons_succ]
      refine zql 9 rfl (Or.inr ⟨by rfl, rfl⟩) hH ?_
      simp only [Act.put, List.setIfInBounds_toArray, List.set_cons_zero, List.set_cons_succ, List.getElem_toArray, List.getElem_cons_zero, List.getElem_cons_succ]
      refine zql 10 rfl (Or.inr ⟨by rfl, rfl⟩) hH ?_
      simp only [Act.put, List.setIfInBounds_toArray, List.set_cons_zero, List.set_cons_succ, List.getElem_toArray, List.getElem_cons_zero, List.getElem_cons_succ]
      refine zql 11 rfl (Or.inr ⟨by rfl, rfl⟩) hH ?_
      simp only [Act.put, List.setIfInBounds_toArray, List.set_cons_zero, List.set_cons_succ, List.getElem_toArray, List.getElem_cons_zero, List.getElem_cons_succ]
      refine zql 12 rfl (Or.inr ⟨by rfl, rfl⟩) hH ?_
      simp only [Act.put, List.setIfInBounds_toArray, List.set_cons_zero, List.set_cons_succ, List.getElem_toArray, List.getElem_cons_zero, List.getElem_cons_succ]
      refine zql 13 rfl (Or.inr ⟨by rfl, rfl⟩) hH ?_
      simp only [Act.put, List.setIfInBounds_toArray, List.set_cons_zero, List.set_cons_succ, List.getElem_toArray, List.getElem_cons_zero, List.getElem_cons_succ]
      refine zqk 14 rfl hH ?_
      simp only [Act.put, List.setIfInBounds_toArray, List.set_cons_zero, List.set_cons_succ, List.getElem_toArray, List.getElem_cons_zero, List.getElem_cons_succ]
      refine zqk 15 rfl hH ?_
      simp only [Act.put, List.setIfInBounds_toArray, List.set_cons_zero, List.set_cons_succ, List.getElem_toArray, List.getElem_cons_zero, List.getElem_cons_succ]
      refine wpAnyH_done (by kernel_rfl) ?_ _
      have BF := hH.2.2.2.2
      clear hH
      have HF : Hid (0 = A) := by show _ = _; rw [← HA.out, refP_last (by simpa using q1) (by simpa using q2) q3 q4 (by rintro ⟨e, _⟩; exact absurd e (by simpa using qf)) (by simpa using q6) q7 H78.out (by rintro ⟨e, _⟩; exact absurd e (by simpa using qf)), if_neg (by rintro ⟨_, e, _⟩; exact absurd e (by simpa using qc))]
      go_wp2
      go_ret
      exact ⟨by rw [← HF.out]; rfl, BF⟩
    | true =>
    go_wp2
    refine wp_region_held_drew (S := fun w' : World => w'.rangeAt w.heap.size 0 D ∧ w'.rangeAt (w.heap.size + 1) 0 E ∧ w'.cell? ⟨w.heap.size + 1, 1, none⟩ = some (.int .i64 x.k) ∧ w'.cell? ⟨w.heap.size + 1, 7, none⟩ = some (.int .i64 x.c) ∧ Below w.heap.size w w') (by kernel_rfl) ?_ (fun hH => ?_)
    · exact ⟨range_kept RD6 (Below.drew (Below.refl _ _)), range_kept RE6 (Below.drew (Below.refl _ _)), (HC.out _ (range_kept RD6 (Below.drew (Below.refl _ _))) (range_kept RE6 (Below.drew (Below.refl _ _)))).2.2.2.1, (HC.out _ (range_kept RD6 (Below.drew (Below.refl _ _))) (range_kept RE6 (Below.drew (Below.refl _ _)))).2.2.2.2.2.2.2.2, Below.drew BD6⟩
    clear BD6 RD6 RE6 c0 c7 c9 r1 r2 r3 r4 r6 r7
    refine zqk 0 rfl hH ?_
    simp only [Act.put, List.setIfInBounds_toArray, List.set_cons_zero, List.set_cons_succ, List.getElem_toArray, List.getElem_cons_zero]
    refine zqk 1 rfl hH ?_
    simp only [Act.put, List.setIfInBounds_toArray, List.set_cons_zero, List.set_cons_succ, List.getElem_toArray, List.getElem_cons_zero, List.getElem_cons_succ]
    refine zqk 2 rfl hH ?_
    simp only [Act.put, List.setIfInBounds_toArray, List.set_cons_zero, List.set_cons_succ, List.getElem_toArray, List.getElem_cons_zero, List.getElem_cons_succ]
    refine zqk 3 rfl hH ?_
    simp only [Act.put, List.setIfInBounds_toArray, List.set_cons_zero, List.set_cons_succ, List.getElem_toArray, List.getElem_cons_zero, List.getElem_cons_succ]
    refine zqk 4 rfl hH ?_
    simp only [Act.put, List.setIfInBounds_toArray, List.set_cons_zero, List.set_cons_succ, List.getElem_toArray, List.getElem_cons_zero, List.getElem_cons_succ]
    refine zqk 5 rfl hH ?_
    simp only [Act.put, List.setIfInBounds_toArray, List.set_cons_zero, List.set_cons_succ, List.getElem_toArray, List.getElem_cons_zero, List.getElem_cons_succ]
    refine zqk 6 rfl hH ?_
    simp only [Act.put, List.setIfInBounds_toArray, List.set_cons_zero, List.set_cons_succ, List.getElem_toArray, List.getElem_cons_zero, List.getElem_cons_succ]
    refine zqk 7 rfl hH ?_
    simp only [Act.put, List.setIfInBounds_toArray, List.set_cons_zero, List.set_cons_succ, List.getElem_toArray, List.getElem_cons_zero, List.getElem_cons_succ]
    refine zqk 8 rfl hH ?_
    simp only [Act.put, List.setIfInBounds_toArray, List.set_cons_zero, List.set_cons_succ, List.getElem_toArray, List.getElem_cons_zero, List.getElem_cons_succ]
    refine zqk 9 rfl hH ?_
    simp only [Act.put, List.setIfInBounds_toArray, List.set_cons_zero, List.set_cons_succ, List.getElem_toArray, List.getElem_cons_zero, List.getElem_cons_succ]
    refine zqk 10 rfl hH ?_
    simp only [Act.put, List.setIfInBounds_toArray, List.set_cons_zero, List.set_cons_succ, List.getElem_toArray, List.getElem_cons_zero, List.getElem_cons_succ]
    refine zql 11 rfl (yieldsIf_load_mid (by rfl) _ _ rfl _ _ rfl D _ (fun w' hSw => hSw.1) Tryz.underlying43 rfl HL.out) hH ?_
    simp only [Act.put, List.setIfInBounds_toArray, List.set_cons_zero, List.set_cons_succ, List.getElem_toArray, List.getElem_cons_zero, List.getElem_cons_succ]
    refine zqr 12 rfl (fun K hK => ?_)
    go_simp
    refine (HU.out _).mono ?_
    rintro e w9 ⟨rfl, b9⟩
    refine hK.out _ _ ?_ (fun hH2 => ?_)
    · exact ⟨range_kept hH.1 b9, range_kept hH.2.1 b9, (HC.out _ (range_kept hH.1 b9) (range_kept hH.2.1 b9)).2.2.2.1, (HC.out _ (range_kept hH.1 b9) (range_kept hH.2.1 b9)).2.2.2.2.2.2.2.2, andThen hH.2.2.2.2 b9⟩
    clear hK K hH
    have hH := hH2
    clear hH2
    refine zqk 13 rfl hH ?_
    simp only [Act.put, List.setIfInBounds_toArray, List.set_cons_zero, List.set_cons_succ, List.getElem_toArray, List.getElem_cons_zero, List.getElem_cons_succ]
    refine zqk 14 rfl hH ?_
    simp only [Act.put, List.setIfInBounds_toArray, List.set_cons_zero, List.set_cons_succ, List.getElem_toArray, List.getElem_cons_zero, List.getElem_cons_succ]
    refine zqk 15 rfl hH ?_
    simp only [Act.put, List.setIfInBounds_toArray, List.set_cons_zero, List.set_cons_succ, List.getElem_toArray, List.getElem_cons_zero, List.getElem_cons_succ]
    refine wpAnyH_done (by kernel_rfl) ?_ _
    have BF := hH.2.2.2.2
    clear hH
    cases qo : (x.c != S.x.outcome) with
    | false =>
      have HF : Hid (0 = A) := by show _ = _; rw [← HA.out, refP_last (by simpa using q1) (by simpa using q2) q3 q4 (by rintro ⟨e, _⟩; exact absurd e (by simpa using qf)) (by simpa using q6) q7 H78.out (by rintro ⟨e, _⟩; exact absurd e (by simpa using qf)), if_neg (by rintro ⟨_, _, e⟩; exact absurd e (by simpa using qo))]
      go_wp2
      go_ret
      exact ⟨by rw [← HF.out]; rfl, BF⟩
    | true =>
      have HF : Hid (109 = A) := by show _ = _; rw [← HA.out, refP_last (by simpa using q1) (by simpa using q2) q3 q4 (by rintro ⟨e, _⟩; exact absurd e (by simpa using qf)) (by simpa using q6) q7 H78.out (by rintro ⟨e, _⟩; exact absurd e (by simpa using qf)), if_pos ⟨by simpa using qk, by simpa using qc, by simpa using qo⟩]
      go_wp2
      go_ret
      exact ⟨by rw [← HF.out]; rfl, BF⟩
theorem refusal_any (S : Sg) (h : SH) (x : Nums) (nm : ByteArray) (d : Value) (w : World) (hK : KindsT w) (hn : 0 ≤ S.x.nx ∧ S.x.nx ≤ 32) (ht : 0 ≤ S.x.tr ∧ S.x.tr ≤ 1000) (hk : 1 ≤ x.k ∧ x.k ≤ 7) : Calls Tryz.prog 89 #[sv S h, rv x nm d] w fun e w' => e = .returned (.int .i64 (refP S.x x)) ∧ Below w.heap.size w w' := by
  cases qf : (x.l == 1) with
  | true => exact refusal_g S h x nm d w hK hn ht hk qf
  | false => exact refusal_n S h x nm d w hK hn ht hk qf
end Go.Proofs.YtdnackjakfiffaaGreatDoor
