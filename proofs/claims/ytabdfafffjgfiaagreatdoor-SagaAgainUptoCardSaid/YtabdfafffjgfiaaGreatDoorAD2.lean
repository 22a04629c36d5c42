import Derived.Deep.CutRange
import Derived.Test.YtabdfafffjgfiaaGreatDoorAD1
set_option maxRecDepth 100000
set_option maxHeartbeats 4000000
namespace Go.Proofs.YtabdfafffjgfiaaGreatDoor
open Go Go.RowKit
open Wb

theorem rref_40 (S : Sg) (h : SH) (x : Nums) (nm : ByteArray) (d : Value) (w : World) (hg : 1 ≤ S.x.ph ∧ S.x.ph ≤ 4) (hn : 0 ≤ S.x.nx ∧ S.x.nx ≤ 32) (hnc : S.x.nx ≤ S.x.cnt) (ht : 0 ≤ S.x.tr ∧ S.x.tr ≤ 1000) (_hv : 0 ≤ S.x.piv) (hk : x.k = 4) (hl : x.l = 0) : Calls Tryz.prog 95 #[sv S h, rv x nm d] w fun e w' => e = .returned (.int .i64 (refP S.x { x with t := 0 })) ∧ Below w.heap.size w w' := by
 have HTU0 : ∀ w', Calls Tryz.prog 113 #[sv S h, rv x nm d] w' fun e w'' => e = .returned (.bool (rturnP S.x x.k x.p)) ∧ Below w'.heap.size w' w'' := fun w' => rturn_any S h x nm d w' hn
 have hon : S.x.ph = 1 ∨ S.x.ph = 2 → S.x.onTurn x.k x.p = rturnP S.x x.k x.p := fun hp => (rturn_on S.x x.k x.p ⟨hn.1, hnc⟩ hp).symm
 obtain ⟨b, hb⟩ : ∃ b, rturnP S.x x.k x.p = b := ⟨_, rfl⟩
 rw [hb] at HTU0 hon
 rw [hk] at hon
 obtain ⟨A, hA⟩ : ∃ A, refP S.x { x with t := 0 } = A := ⟨_, rfl⟩
 have HA : Hid (refP S.x { x with t := 0 } = A) := hA
 rw [hA]
 clear hA hb
 obtain ⟨N, hN⟩ : ∃ N, S.x.nextTry = N := ⟨_, rfl⟩
 have HNT : Hid (min (S.x.tr + 1) 1000 = N) := hN
 have i1 : IntKind.i64.wrap (S.x.tr + 1) = S.x.tr + 1 := IntWalk.i64_in _ (by omega)
 obtain ⟨D, hD, hL, hE⟩ := sv_letter S h
 obtain ⟨E, hD2, hL2, hE2⟩ := rv_letter x nm d
 rw [hD, hD2]
 try rw [hD] at HTU0
 try rw [hD2] at HTU0
 have HTU : Hid _ := HTU0
 have HL : Hid _ := hL
 have HE : Hid (D = scl S h) := hE
 have HL2 : Hid _ := hL2
 have HE2 : Hid (E = rcE x nm d) := hE2
 have HX : Hid (∀ t t2, ((w.alloc (.cells D.toArray t)).alloc (.cells E.toArray t2)).rangeAt w.heap.size 0 D ∧ ((w.alloc (.cells D.toArray t)).alloc (.cells E.toArray t2)).rangeAt (w.heap.size + 1) 0 E ∧ Below w.heap.size w ((w.alloc (.cells D.toArray t)).alloc (.cells E.toArray t2))) := fun t t2 => boxed2 w D E t t2
 clear hD hL hE hD2 hL2 hE2 HTU0
 have HC : Hid (∀ W : World, W.rangeAt w.heap.size 0 D → W.rangeAt (w.heap.size + 1) 0 E → W.cell? ⟨w.heap.size, 0, none⟩ = some (.int .i64 S.x.id) ∧ W.cell? ⟨w.heap.size, 3, none⟩ = some (.int .i64 S.x.piv) ∧ W.cell? ⟨w.heap.size, 7, none⟩ = some (.int .i64 S.x.ph) ∧ W.cell? ⟨w.heap.size, 9, none⟩ = some (.bool S.x.fl) ∧ W.cell? ⟨w.heap.size + 1, 1, none⟩ = some (.int .i64 4) ∧ W.cell? ⟨w.heap.size + 1, 2, none⟩ = some (.int .i64 x.s) ∧ W.cell? ⟨w.heap.size + 1, 3, none⟩ = some (.int .i64 x.p) ∧ W.cell? ⟨w.heap.size + 1, 4, none⟩ = some (.int .i64 x.t) ∧ W.cell? ⟨w.heap.size + 1, 6, none⟩ = some (.int .i64 0) ∧ W.cell? ⟨w.heap.size + 1, 7, none⟩ = some (.int .i64 x.c)) := fun W a b => ⟨range_cell a 0 _ (by rw [HE.out]; rfl), range_cell a 3 _ (by rw [HE.out]; rfl), range_cell a 7 _ (by rw [HE.out]; rfl), range_cell a 9 _ (by rw [HE.out]; rfl), range_cell b 1 _ (by rw [HE2.out, ← hk]; rfl), range_cell b 2 _ (by rw [HE2.out]; rfl), range_cell b 3 _ (by rw [HE2.out]; rfl), range_cell b 4 _ (by rw [HE2.out]; rfl), range_cell b 6 _ (by rw [HE2.out, ← hl]; rfl), range_cell b 7 _ (by rw [HE2.out]; rfl)⟩
 have HX1 : Hid _ := HX.out 25 37
 clear HX
 have c10 := range_cell HX1.out.1 10 (.int .i64 S.x.tr) (by rw [HE.out]; rfl)
 obtain ⟨c0, c3, c7, c9, r1, r2, r3, r4, r6, r7⟩ := HC.out _ HX1.out.1 HX1.out.2.1
 go_enter Tryz.func95, Tryz.ntmps95
 go_upto_if 53 with fail
 go_cut [8] from 8 to 53 (fun s8 wx => s8 = .int .i64 N ∧ wx = (w.alloc (.cells D.toArray 25)).alloc (.cells E.toArray 37))
 case first =>
  cases hT : decide (1000 < S.x.tr + 1) with
  | true =>
   have hNe : N = 1000 := by have e := HNT.out; simp at hT; omega
   go_wp2
   go_meet
   exact ⟨by rw [hNe], rfl⟩
  | false =>
   have hNe : N = S.x.tr + 1 := by have e := HNT.out; simp at hT; omega
   go_wp2
   go_meet
   exact ⟨by rw [hNe], rfl⟩
 case rest =>
  obtain ⟨rfl, rfl⟩ := hcut
  have RD0 := HX1.out.1
  have RE0 := HX1.out.2.1
  have BD0 := HX1.out.2.2
  clear HX1 i1 c10 c0 c3 c7 c9 r1 r2 r3 r4 r6 r7
  go_wp2_with (first | (refine wpList_load_mid rfl 25 _ rfl w.heap.size 0 rfl D _ RD0 Tryz.underlying25 rfl HL.out ?_) | (refine wpList_load_mid rfl 37 _ rfl (w.heap.size + 1) 0 rfl E _ RE0 Tryz.underlying37 rfl HL2.out ?_) | fail)
  refine (HTU.out _).mono ?_
  rintro e w1 ⟨rfl, b1⟩
  have BD1 := andThen BD0 b1
  have RD1 := range_kept RD0 b1
  have RE1 := range_kept RE0 b1
  clear BD0 RD0 RE0 b1 HTU
  obtain ⟨c0, c3, c7, c9, r1, r2, r3, r4, r6, r7⟩ := HC.out _ RD1 RE1
  cases q1 : (x.s != S.x.id) with
  | true =>
   have HF : Hid (101 = A) := by show _ = _; rw [← HA.out]; simp [refP, show x.s ≠ S.x.id by simpa using q1]
   go_wp2
   go_ret
   exact ⟨by rw [← HF.out]; rfl, BD1⟩
  | false =>
   have hph : S.x.ph = 1 ∨ S.x.ph = 2 ∨ S.x.ph = 3 ∨ S.x.ph = 4 := by omega
   rcases hph with hp | hp | hp | hp
   ·rw [hp] at c7
    have ho := hon (.inl hp)
    cases qf : S.x.fl with
    | false =>
     rw [qf] at c9
     have HF : Hid (105 = A) := by show _ = _; rw [← HA.out]; simp [refP, show x.s = S.x.id by simpa using q1, hk, hp, SN.ended, SN.inPh, kph, hl, lands, qf]
     go_wp2
     go_ret
     exact ⟨by rw [← HF.out]; rfl, BD1⟩
    | true =>
     rw [qf] at c9
     cases b with
     | false =>
      have HF : Hid (106 = A) := by show _ = _; rw [← HA.out]; simp [refP, show x.s = S.x.id by simpa using q1, hk, hp, SN.ended, SN.inPh, kph, hl, lands, qf, ho]
      go_wp2
      go_ret
      exact ⟨by rw [← HF.out]; rfl, BD1⟩
     | true =>
      have HF : Hid (0 = A) := by show _ = _; rw [← HA.out]; simp [refP, show x.s = S.x.id by simpa using q1, hk, hp, SN.ended, SN.inPh, kph, hl, lands, qf, ho]
      go_wp2
      go_ret
      exact ⟨by rw [← HF.out]; rfl, BD1⟩
   ·rw [hp] at c7
    have ho := hon (.inr hp)
    cases qf : S.x.fl with
    | false =>
     rw [qf] at c9
     have HF : Hid (105 = A) := by show _ = _; rw [← HA.out]; simp [refP, show x.s = S.x.id by simpa using q1, hk, hp, SN.ended, SN.inPh, kph, hl, lands, qf]
     go_wp2
     go_ret
     exact ⟨by rw [← HF.out]; rfl, BD1⟩
    | true =>
     rw [qf] at c9
     cases b with
     | false =>
      have HF : Hid (106 = A) := by show _ = _; rw [← HA.out]; simp [refP, show x.s = S.x.id by simpa using q1, hk, hp, SN.ended, SN.inPh, kph, hl, lands, qf, ho]
      go_wp2
      go_ret
      exact ⟨by rw [← HF.out]; rfl, BD1⟩
     | true =>
      have HF : Hid (0 = A) := by show _ = _; rw [← HA.out]; simp [refP, show x.s = S.x.id by simpa using q1, hk, hp, SN.ended, SN.inPh, kph, hl, lands, qf, ho]
      go_wp2
      go_ret
      exact ⟨by rw [← HF.out]; rfl, BD1⟩
   ·rw [hp] at c7
    have HF : Hid (103 = A) := by show _ = _; rw [← HA.out]; simp [refP, show x.s = S.x.id by simpa using q1, hk, hp, SN.ended]
    go_wp2
    go_ret
    exact ⟨by rw [← HF.out]; rfl, BD1⟩
   ·rw [hp] at c7
    have HF : Hid (103 = A) := by show _ = _; rw [← HA.out]; simp [refP, show x.s = S.x.id by simpa using q1, hk, hp, SN.ended]
    go_wp2
    go_ret
    exact ⟨by rw [← HF.out]; rfl, BD1⟩
theorem rref_41 (S : Sg) (h : SH) (x : Nums) (nm : ByteArray) (d : Value) (w : World) (hg : 1 ≤ S.x.ph ∧ S.x.ph ≤ 4) (hn : 0 ≤ S.x.nx ∧ S.x.nx ≤ 32) (hnc : S.x.nx ≤ S.x.cnt) (ht : 0 ≤ S.x.tr ∧ S.x.tr ≤ 1000) (hv : 0 ≤ S.x.piv) (hk : x.k = 4) (hl : x.l = 1) : Calls Tryz.prog 95 #[sv S h, rv x nm d] w fun e w' => e = .returned (.int .i64 (refP S.x { x with t := 0 })) ∧ Below w.heap.size w w' := by
 have HTU0 : ∀ w', Calls Tryz.prog 113 #[sv S h, rv x nm d] w' fun e w'' => e = .returned (.bool (rturnP S.x x.k x.p)) ∧ Below w'.heap.size w' w'' := fun w' => rturn_any S h x nm d w' hn
 have hon : S.x.ph = 1 ∨ S.x.ph = 2 → S.x.onTurn x.k x.p = rturnP S.x x.k x.p := fun hp => (rturn_on S.x x.k x.p ⟨hn.1, hnc⟩ hp).symm
 obtain ⟨b, hb⟩ : ∃ b, rturnP S.x x.k x.p = b := ⟨_, rfl⟩
 rw [hb] at HTU0 hon
 rw [hk] at hon
 obtain ⟨A, hA⟩ : ∃ A, refP S.x { x with t := 0 } = A := ⟨_, rfl⟩
 have HA : Hid (refP S.x { x with t := 0 } = A) := hA
 rw [hA]
 clear hA hb
 obtain ⟨N, hN⟩ : ∃ N, S.x.nextTry = N := ⟨_, rfl⟩
 have HNT : Hid (min (S.x.tr + 1) 1000 = N) := hN
 have i1 : IntKind.i64.wrap (S.x.tr + 1) = S.x.tr + 1 := IntWalk.i64_in _ (by omega)
 obtain ⟨D, hD, hL, hE⟩ := sv_letter S h
 obtain ⟨E, hD2, hL2, hE2⟩ := rv_letter x nm d
 rw [hD, hD2]
 try rw [hD] at HTU0
 try rw [hD2] at HTU0
 have HTU : Hid _ := HTU0
 have HL : Hid _ := hL
 have HE : Hid (D = scl S h) := hE
 have HL2 : Hid _ := hL2
 have HE2 : Hid (E = rcE x nm d) := hE2
 have HX : Hid (∀ t t2, ((w.alloc (.cells D.toArray t)).alloc (.cells E.toArray t2)).rangeAt w.heap.size 0 D ∧ ((w.alloc (.cells D.toArray t)).alloc (.cells E.toArray t2)).rangeAt (w.heap.size + 1) 0 E ∧ Below w.heap.size w ((w.alloc (.cells D.toArray t)).alloc (.cells E.toArray t2))) := fun t t2 => boxed2 w D E t t2
 clear hD hL hE hD2 hL2 hE2 HTU0
 have HC : Hid (∀ W : World, W.rangeAt w.heap.size 0 D → W.rangeAt (w.heap.size + 1) 0 E → W.cell? ⟨w.heap.size, 0, none⟩ = some (.int .i64 S.x.id) ∧ W.cell? ⟨w.heap.size, 3, none⟩ = some (.int .i64 S.x.piv) ∧ W.cell? ⟨w.heap.size, 7, none⟩ = some (.int .i64 S.x.ph) ∧ W.cell? ⟨w.heap.size, 9, none⟩ = some (.bool S.x.fl) ∧ W.cell? ⟨w.heap.size + 1, 1, none⟩ = some (.int .i64 4) ∧ W.cell? ⟨w.heap.size + 1, 2, none⟩ = some (.int .i64 x.s) ∧ W.cell? ⟨w.heap.size + 1, 3, none⟩ = some (.int .i64 x.p) ∧ W.cell? ⟨w.heap.size + 1, 4, none⟩ = some (.int .i64 x.t) ∧ W.cell? ⟨w.heap.size + 1, 6, none⟩ = some (.int .i64 1) ∧ W.cell? ⟨w.heap.size + 1, 7, none⟩ = some (.int .i64 x.c)) := fun W a b => ⟨range_cell a 0 _ (by rw [HE.out]; rfl), range_cell a 3 _ (by rw [HE.out]; rfl), range_cell a 7 _ (by rw [HE.out]; rfl), range_cell a 9 _ (by rw [HE.out]; rfl), range_cell b 1 _ (by rw [HE2.out, ← hk]; rfl), range_cell b 2 _ (by rw [HE2.out]; rfl), range_cell b 3 _ (by rw [HE2.out]; rfl), range_cell b 4 _ (by rw [HE2.out]; rfl), range_cell b 6 _ (by rw [HE2.out, ← hl]; rfl), range_cell b 7 _ (by rw [HE2.out]; rfl)⟩
 have HX1 : Hid _ := HX.out 25 37
 clear HX
 have c10 := range_cell HX1.out.1 10 (.int .i64 S.x.tr) (by rw [HE.out]; rfl)
 obtain ⟨c0, c3, c7, c9, r1, r2, r3, r4, r6, r7⟩ := HC.out _ HX1.out.1 HX1.out.2.1
 go_enter Tryz.func95, Tryz.ntmps95
 go_upto_if 53 with fail
 go_cut [8] from 8 to 53 (fun s8 wx => s8 = .int .i64 N ∧ wx = (w.alloc (.cells D.toArray 25)).alloc (.cells E.toArray 37))
 case first =>
  cases hT : decide (1000 < S.x.tr + 1) with
  | true =>
   have hNe : N = 1000 := by have e := HNT.out; simp at hT; omega
   go_wp2
   go_meet
   exact ⟨by rw [hNe], rfl⟩
  | false =>
   have hNe : N = S.x.tr + 1 := by have e := HNT.out; simp at hT; omega
   go_wp2
   go_meet
   exact ⟨by rw [hNe], rfl⟩
 case rest =>
  obtain ⟨rfl, rfl⟩ := hcut
  have RD0 := HX1.out.1
  have RE0 := HX1.out.2.1
  have BD0 := HX1.out.2.2
  clear HX1 i1 c10 c0 c3 c7 c9 r1 r2 r3 r4 r6 r7
  go_wp2_with (first | (refine wpList_load_mid rfl 25 _ rfl w.heap.size 0 rfl D _ RD0 Tryz.underlying25 rfl HL.out ?_) | (refine wpList_load_mid rfl 37 _ rfl (w.heap.size + 1) 0 rfl E _ RE0 Tryz.underlying37 rfl HL2.out ?_) | fail)
  refine (HTU.out _).mono ?_
  rintro e w1 ⟨rfl, b1⟩
  have BD1 := andThen BD0 b1
  have RD1 := range_kept RD0 b1
  have RE1 := range_kept RE0 b1
  clear BD0 RD0 RE0 b1 HTU
  obtain ⟨c0, c3, c7, c9, r1, r2, r3, r4, r6, r7⟩ := HC.out _ RD1 RE1
  cases q1 : (x.s != S.x.id) with
  | true =>
   have HF : Hid (101 = A) := by show _ = _; rw [← HA.out]; simp [refP, show x.s ≠ S.x.id by simpa using q1]
   go_wp2
   go_ret
   exact ⟨by rw [← HF.out]; rfl, BD1⟩
  | false =>
   have hph : S.x.ph = 1 ∨ S.x.ph = 2 ∨ S.x.ph = 3 ∨ S.x.ph = 4 := by omega
   rcases hph with hp | hp | hp | hp
   ·rw [hp] at c7
    have ho := hon (.inl hp)
    cases qf : S.x.fl with
    | false =>
     rw [qf] at c9
     have HF : Hid (105 = A) := by show _ = _; rw [← HA.out]; simp [refP, show x.s = S.x.id by simpa using q1, hk, hp, SN.ended, SN.inPh, kph, hl, lands, qf]
     go_wp2
     go_ret
     exact ⟨by rw [← HF.out]; rfl, BD1⟩
    | true =>
     rw [qf] at c9
     cases b with
     | false =>
      have HF : Hid (106 = A) := by show _ = _; rw [← HA.out]; simp [refP, show x.s = S.x.id by simpa using q1, hk, hp, SN.ended, SN.inPh, kph, hl, lands, qf, ho]
      go_wp2
      go_ret
      exact ⟨by rw [← HF.out]; rfl, BD1⟩
     | true =>
      cases q8 : decide (0 < S.x.piv) with
      | false =>
       have HF : Hid (0 = A) := by show _ = _; rw [← HA.out]; simp [refP, show x.s = S.x.id by simpa using q1, hk, hp, SN.ended, SN.inPh, kph, hl, lands, qf, ho, SN.behind, show S.x.piv = 0 by simp at q8; omega]
       go_wp2
       go_ret
       exact ⟨by rw [← HF.out]; rfl, BD1⟩
      | true =>
       cases q9 : decide (S.x.piv ≤ x.p) with
       | true =>
        have HF : Hid (108 = A) := by show _ = _; rw [← HA.out]; simp [refP, show x.s = S.x.id by simpa using q1, hk, hp, SN.ended, SN.inPh, kph, hl, lands, qf, ho, SN.behind, show S.x.piv ≠ 0 by simp at q8; omega, show S.x.piv ≤ x.p by simpa using q9]
        go_wp2
        go_ret
        exact ⟨by rw [← HF.out]; rfl, BD1⟩
       | false =>
        have HF : Hid (0 = A) := by show _ = _; rw [← HA.out]; simp [refP, show x.s = S.x.id by simpa using q1, hk, hp, SN.ended, SN.inPh, kph, hl, lands, qf, ho, SN.behind, show ¬ (S.x.piv ≤ x.p) by simpa using q9]
        go_wp2
        go_ret
        exact ⟨by rw [← HF.out]; rfl, BD1⟩
   ·rw [hp] at c7
    have HF : Hid (104 = A) := by show _ = _; rw [← HA.out]; simp [refP, show x.s = S.x.id by simpa using q1, hk, hp, SN.ended, SN.inPh, kph, hl]
    go_wp2
    go_ret
    exact ⟨by rw [← HF.out]; rfl, BD1⟩
   ·rw [hp] at c7
    have HF : Hid (103 = A) := by show _ = _; rw [← HA.out]; simp [refP, show x.s = S.x.id by simpa using q1, hk, hp, SN.ended]
    go_wp2
    go_ret
    exact ⟨by rw [← HF.out]; rfl, BD1⟩
   ·rw [hp] at c7
    have HF : Hid (103 = A) := by show _ = _; rw [← HA.out]; simp [refP, show x.s = S.x.id by simpa using q1, hk, hp, SN.ended]
    go_wp2
    go_ret
    exact ⟨by rw [← HF.out]; rfl, BD1⟩
theorem rref_6 (S : Sg) (h : SH) (x : Nums) (nm : ByteArray) (d : Value) (w : World) (hg : 1 ≤ S.x.ph ∧ S.x.ph ≤ 4) (hn : 0 ≤ S.x.nx ∧ S.x.nx ≤ 32) (hnc : S.x.nx ≤ S.x.cnt) (ht : 0 ≤ S.x.tr ∧ S.x.tr ≤ 1000) (_hv : 0 ≤ S.x.piv) (hk : x.k = 6) (hl : x.l = 0) : Calls Tryz.prog 95 #[sv S h, rv x nm d] w fun e w' => e = .returned (.int .i64 (refP S.x { x with t := 0 })) ∧ Below w.heap.size w w' := by
 have HTU0 : ∀ w', Calls Tryz.prog 113 #[sv S h, rv x nm d] w' fun e w'' => e = .returned (.bool (rturnP S.x x.k x.p)) ∧ Below w'.heap.size w' w'' := fun w' => rturn_any S h x nm d w' hn
 have hon : S.x.ph = 1 ∨ S.x.ph = 2 → S.x.onTurn x.k x.p = rturnP S.x x.k x.p := fun hp => (rturn_on S.x x.k x.p ⟨hn.1, hnc⟩ hp).symm
 obtain ⟨b, hb⟩ : ∃ b, rturnP S.x x.k x.p = b := ⟨_, rfl⟩
 rw [hb] at HTU0 hon
 rw [hk] at hon
 obtain ⟨A, hA⟩ : ∃ A, refP S.x { x with t := 0 } = A := ⟨_, rfl⟩
 have HA : Hid (refP S.x { x with t := 0 } = A) := hA
 rw [hA]
 clear hA hb
 obtain ⟨N, hN⟩ : ∃ N, S.x.nextTry = N := ⟨_, rfl⟩
 have HNT : Hid (min (S.x.tr + 1) 1000 = N) := hN
 have i1 : IntKind.i64.wrap (S.x.tr + 1) = S.x.tr + 1 := IntWalk.i64_in _ (by omega)
 obtain ⟨D, hD, hL, hE⟩ := sv_letter S h
 obtain ⟨E, hD2, hL2, hE2⟩ := rv_letter x nm d
 rw [hD, hD2]
 try rw [hD] at HTU0
 try rw [hD2] at HTU0
 have HTU : Hid _ := HTU0
 have HL : Hid _ := hL
 have HE : Hid (D = scl S h) := hE
 have HL2 : Hid _ := hL2
 have HE2 : Hid (E = rcE x nm d) := hE2
 have HX : Hid (∀ t t2, ((w.alloc (.cells D.toArray t)).alloc (.cells E.toArray t2)).rangeAt w.heap.size 0 D ∧ ((w.alloc (.cells D.toArray t)).alloc (.cells E.toArray t2)).rangeAt (w.heap.size + 1) 0 E ∧ Below w.heap.size w ((w.alloc (.cells D.toArray t)).alloc (.cells E.toArray t2))) := fun t t2 => boxed2 w D E t t2
 clear hD hL hE hD2 hL2 hE2 HTU0
 have HC : Hid (∀ W : World, W.rangeAt w.heap.size 0 D → W.rangeAt (w.heap.size + 1) 0 E → W.cell? ⟨w.heap.size, 0, none⟩ = some (.int .i64 S.x.id) ∧ W.cell? ⟨w.heap.size, 3, none⟩ = some (.int .i64 S.x.piv) ∧ W.cell? ⟨w.heap.size, 7, none⟩ = some (.int .i64 S.x.ph) ∧ W.cell? ⟨w.heap.size, 9, none⟩ = some (.bool S.x.fl) ∧ W.cell? ⟨w.heap.size + 1, 1, none⟩ = some (.int .i64 6) ∧ W.cell? ⟨w.heap.size + 1, 2, none⟩ = some (.int .i64 x.s) ∧ W.cell? ⟨w.heap.size + 1, 3, none⟩ = some (.int .i64 x.p) ∧ W.cell? ⟨w.heap.size + 1, 4, none⟩ = some (.int .i64 x.t) ∧ W.cell? ⟨w.heap.size + 1, 6, none⟩ = some (.int .i64 0) ∧ W.cell? ⟨w.heap.size + 1, 7, none⟩ = some (.int .i64 x.c)) := fun W a b => ⟨range_cell a 0 _ (by rw [HE.out]; rfl), range_cell a 3 _ (by rw [HE.out]; rfl), range_cell a 7 _ (by rw [HE.out]; rfl), range_cell a 9 _ (by rw [HE.out]; rfl), range_cell b 1 _ (by rw [HE2.out, ← hk]; rfl), range_cell b 2 _ (by rw [HE2.out]; rfl), range_cell b 3 _ (by rw [HE2.out]; rfl), range_cell b 4 _ (by rw [HE2.out]; rfl), range_cell b 6 _ (by rw [HE2.out, ← hl]; rfl), range_cell b 7 _ (by rw [HE2.out]; rfl)⟩
 have HX1 : Hid _ := HX.out 25 37
 clear HX
 have c10 := range_cell HX1.out.1 10 (.int .i64 S.x.tr) (by rw [HE.out]; rfl)
 obtain ⟨c0, c3, c7, c9, r1, r2, r3, r4, r6, r7⟩ := HC.out _ HX1.out.1 HX1.out.2.1
 go_enter Tryz.func95, Tryz.ntmps95
 go_upto_if 53 with fail
 go_cut [8] from 8 to 53 (fun s8 wx => s8 = .int .i64 N ∧ wx = (w.alloc (.cells D.toArray 25)).alloc (.cells E.toArray 37))
 case first =>
  cases hT : decide (1000 < S.x.tr + 1) with
  | true =>
   have hNe : N = 1000 := by have e := HNT.out; simp at hT; omega
   go_wp2
   go_meet
   exact ⟨by rw [hNe], rfl⟩
  | false =>
   have hNe : N = S.x.tr + 1 := by have e := HNT.out; simp at hT; omega
   go_wp2
   go_meet
   exact ⟨by rw [hNe], rfl⟩
 case rest =>
  obtain ⟨rfl, rfl⟩ := hcut
  have RD0 := HX1.out.1
  have RE0 := HX1.out.2.1
  have BD0 := HX1.out.2.2
  clear HX1 i1 c10 c0 c3 c7 c9 r1 r2 r3 r4 r6 r7
  go_wp2_with (first | (refine wpList_load_mid rfl 25 _ rfl w.heap.size 0 rfl D _ RD0 Tryz.underlying25 rfl HL.out ?_) | (refine wpList_load_mid rfl 37 _ rfl (w.heap.size + 1) 0 rfl E _ RE0 Tryz.underlying37 rfl HL2.out ?_) | fail)
  refine (HTU.out _).mono ?_
  rintro e w1 ⟨rfl, b1⟩
  have BD1 := andThen BD0 b1
  have RD1 := range_kept RD0 b1
  have RE1 := range_kept RE0 b1
  clear BD0 RD0 RE0 b1 HTU
  obtain ⟨c0, c3, c7, c9, r1, r2, r3, r4, r6, r7⟩ := HC.out _ RD1 RE1
  cases q1 : (x.s != S.x.id) with
  | true =>
   have HF : Hid (101 = A) := by show _ = _; rw [← HA.out]; simp [refP, show x.s ≠ S.x.id by simpa using q1]
   go_wp2
   go_ret
   exact ⟨by rw [← HF.out]; rfl, BD1⟩
  | false =>
   have hph : S.x.ph = 1 ∨ S.x.ph = 2 ∨ S.x.ph = 3 ∨ S.x.ph = 4 := by omega
   rcases hph with hp | hp | hp | hp
   ·rw [hp] at c7
    have HF : Hid (104 = A) := by show _ = _; rw [← HA.out]; simp [refP, show x.s = S.x.id by simpa using q1, hk, hp, SN.ended, SN.inPh, kph, hl]
    go_wp2
    go_ret
    exact ⟨by rw [← HF.out]; rfl, BD1⟩
   ·rw [hp] at c7
    have ho := hon (.inr hp)
    cases qf : S.x.fl with
    | false =>
     rw [qf] at c9
     have HF : Hid (105 = A) := by show _ = _; rw [← HA.out]; simp [refP, show x.s = S.x.id by simpa using q1, hk, hp, SN.ended, SN.inPh, kph, hl, lands, qf]
     go_wp2
     go_ret
     exact ⟨by rw [← HF.out]; rfl, BD1⟩
    | true =>
     rw [qf] at c9
     cases b with
     | false =>
      have HF : Hid (106 = A) := by show _ = _; rw [← HA.out]; simp [refP, show x.s = S.x.id by simpa using q1, hk, hp, SN.ended, SN.inPh, kph, hl, lands, qf, ho]
      go_wp2
      go_ret
      exact ⟨by rw [← HF.out]; rfl, BD1⟩
     | true =>
      have HF : Hid (0 = A) := by show _ = _; rw [← HA.out]; simp [refP, show x.s = S.x.id by simpa using q1, hk, hp, SN.ended, SN.inPh, kph, hl, lands, qf, ho]
      go_wp2
      go_ret
      exact ⟨by rw [← HF.out]; rfl, BD1⟩
   ·rw [hp] at c7
    have HF : Hid (103 = A) := by show _ = _; rw [← HA.out]; simp [refP, show x.s = S.x.id by simpa using q1, hk, hp, SN.ended]
    go_wp2
    go_ret
    exact ⟨by rw [← HF.out]; rfl, BD1⟩
   ·rw [hp] at c7
    have HF : Hid (103 = A) := by show _ = _; rw [← HA.out]; simp [refP, show x.s = S.x.id by simpa using q1, hk, hp, SN.ended]
    go_wp2
    go_ret
    exact ⟨by rw [← HF.out]; rfl, BD1⟩
theorem rref_7 (S : Sg) (h : SH) (x : Nums) (nm : ByteArray) (d : Value) (w : World) (hg : 1 ≤ S.x.ph ∧ S.x.ph ≤ 4) (hn : 0 ≤ S.x.nx ∧ S.x.nx ≤ 32) (hnc : S.x.nx ≤ S.x.cnt) (ht : 0 ≤ S.x.tr ∧ S.x.tr ≤ 1000) (_hv : 0 ≤ S.x.piv) (hk : x.k = 7) (hl : x.l = 0) : Calls Tryz.prog 95 #[sv S h, rv x nm d] w fun e w' => e = .returned (.int .i64 (refP S.x { x with t := 0 })) ∧ Below w.heap.size w w' := by
 have HTU0 : ∀ w', Calls Tryz.prog 113 #[sv S h, rv x nm d] w' fun e w'' => e = .returned (.bool (rturnP S.x x.k x.p)) ∧ Below w'.heap.size w' w'' := fun w' => rturn_any S h x nm d w' hn
 have hon : S.x.ph = 1 ∨ S.x.ph = 2 → S.x.onTurn x.k x.p = rturnP S.x x.k x.p := fun hp => (rturn_on S.x x.k x.p ⟨hn.1, hnc⟩ hp).symm
 obtain ⟨b, hb⟩ : ∃ b, rturnP S.x x.k x.p = b := ⟨_, rfl⟩
 rw [hb] at HTU0 hon
 rw [hk] at hon
 obtain ⟨A, hA⟩ : ∃ A, refP S.x { x with t := 0 } = A := ⟨_, rfl⟩
 have HA : Hid (refP S.x { x with t := 0 } = A) := hA
 rw [hA]
 clear hA hb
 obtain ⟨N, hN⟩ : ∃ N, S.x.nextTry = N := ⟨_, rfl⟩
 have HNT : Hid (min (S.x.tr + 1) 1000 = N) := hN
 have i1 : IntKind.i64.wrap (S.x.tr + 1) = S.x.tr + 1 := IntWalk.i64_in _ (by omega)
 obtain ⟨D, hD, hL, hE⟩ := sv_letter S h
 obtain ⟨E, hD2, hL2, hE2⟩ := rv_letter x nm d
 rw [hD, hD2]
 try rw [hD] at HTU0
 try rw [hD2] at HTU0
 have HTU : Hid _ := HTU0
 have HL : Hid _ := hL
 have HE : Hid (D = scl S h) := hE
 have HL2 : Hid _ := hL2
 have HE2 : Hid (E = rcE x nm d) := hE2
 have HX : Hid (∀ t t2, ((w.alloc (.cells D.toArray t)).alloc (.cells E.toArray t2)).rangeAt w.heap.size 0 D ∧ ((w.alloc (.cells D.toArray t)).alloc (.cells E.toArray t2)).rangeAt (w.heap.size + 1) 0 E ∧ Below w.heap.size w ((w.alloc (.cells D.toArray t)).alloc (.cells E.toArray t2))) := fun t t2 => boxed2 w D E t t2
 clear hD hL hE hD2 hL2 hE2 HTU0
 have HC : Hid (∀ W : World, W.rangeAt w.heap.size 0 D → W.rangeAt (w.heap.size + 1) 0 E → W.cell? ⟨w.heap.size, 0, none⟩ = some (.int .i64 S.x.id) ∧ W.cell? ⟨w.heap.size, 3, none⟩ = some (.int .i64 S.x.piv) ∧ W.cell? ⟨w.heap.size, 7, none⟩ = some (.int .i64 S.x.ph) ∧ W.cell? ⟨w.heap.size, 9, none⟩ = some (.bool S.x.fl) ∧ W.cell? ⟨w.heap.size + 1, 1, none⟩ = some (.int .i64 7) ∧ W.cell? ⟨w.heap.size + 1, 2, none⟩ = some (.int .i64 x.s) ∧ W.cell? ⟨w.heap.size + 1, 3, none⟩ = some (.int .i64 x.p) ∧ W.cell? ⟨w.heap.size + 1, 4, none⟩ = some (.int .i64 x.t) ∧ W.cell? ⟨w.heap.size + 1, 6, none⟩ = some (.int .i64 0) ∧ W.cell? ⟨w.heap.size + 1, 7, none⟩ = some (.int .i64 x.c)) := fun W a b => ⟨range_cell a 0 _ (by rw [HE.out]; rfl), range_cell a 3 _ (by rw [HE.out]; rfl), range_cell a 7 _ (by rw [HE.out]; rfl), range_cell a 9 _ (by rw [HE.out]; rfl), range_cell b 1 _ (by rw [HE2.out, ← hk]; rfl), range_cell b 2 _ (by rw [HE2.out]; rfl), range_cell b 3 _ (by rw [HE2.out]; rfl), range_cell b 4 _ (by rw [HE2.out]; rfl), range_cell b 6 _ (by rw [HE2.out, ← hl]; rfl), range_cell b 7 _ (by rw [HE2.out]; rfl)⟩
 have HX1 : Hid _ := HX.out 25 37
 clear HX
 have c10 := range_cell HX1.out.1 10 (.int .i64 S.x.tr) (by rw [HE.out]; rfl)
 obtain ⟨c0, c3, c7, c9, r1, r2, r3, r4, r6, r7⟩ := HC.out _ HX1.out.1 HX1.out.2.1
 go_enter Tryz.func95, Tryz.ntmps95
 go_upto_if 53 with fail
 go_cut [8] from 8 to 53 (fun s8 wx => s8 = .int .i64 N ∧ wx = (w.alloc (.cells D.toArray 25)).alloc (.cells E.toArray 37))
 case first =>
  cases hT : decide (1000 < S.x.tr + 1) with
  | true =>
   have hNe : N = 1000 := by have e := HNT.out; simp at hT; omega
   go_wp2
   go_meet
   exact ⟨by rw [hNe], rfl⟩
  | false =>
   have hNe : N = S.x.tr + 1 := by have e := HNT.out; simp at hT; omega
   go_wp2
   go_meet
   exact ⟨by rw [hNe], rfl⟩
 case rest =>
  obtain ⟨rfl, rfl⟩ := hcut
  have RD0 := HX1.out.1
  have RE0 := HX1.out.2.1
  have BD0 := HX1.out.2.2
  clear HX1 i1 c10 c0 c3 c7 c9 r1 r2 r3 r4 r6 r7
  go_wp2_with (first | (refine wpList_load_mid rfl 25 _ rfl w.heap.size 0 rfl D _ RD0 Tryz.underlying25 rfl HL.out ?_) | (refine wpList_load_mid rfl 37 _ rfl (w.heap.size + 1) 0 rfl E _ RE0 Tryz.underlying37 rfl HL2.out ?_) | fail)
  refine (HTU.out _).mono ?_
  rintro e w1 ⟨rfl, b1⟩
  have BD1 := andThen BD0 b1
  have RD1 := range_kept RD0 b1
  have RE1 := range_kept RE0 b1
  clear BD0 RD0 RE0 b1 HTU
  obtain ⟨c0, c3, c7, c9, r1, r2, r3, r4, r6, r7⟩ := HC.out _ RD1 RE1
  cases q1 : (x.s != S.x.id) with
  | true =>
   have HF : Hid (101 = A) := by show _ = _; rw [← HA.out]; simp [refP, show x.s ≠ S.x.id by simpa using q1]
   go_wp2
   go_ret
   exact ⟨by rw [← HF.out]; rfl, BD1⟩
  | false =>
   have hph : S.x.ph = 1 ∨ S.x.ph = 2 ∨ S.x.ph = 3 ∨ S.x.ph = 4 := by omega
   rcases hph with hp | hp | hp | hp
   ·rw [hp] at c7
    have ho := hon (.inl hp)
    cases qf : S.x.fl with
    | true =>
     rw [qf] at c9
     have HF : Hid (105 = A) := by show _ = _; rw [← HA.out]; simp [refP, show x.s = S.x.id by simpa using q1, hk, hp, SN.ended, SN.inPh, kph, hl, lands, qf]
     go_wp2
     go_ret
     exact ⟨by rw [← HF.out]; rfl, BD1⟩
    | false =>
     rw [qf] at c9
     cases b with
     | false =>
      have HF : Hid (106 = A) := by show _ = _; rw [← HA.out]; simp [refP, show x.s = S.x.id by simpa using q1, hk, hp, SN.ended, SN.inPh, kph, hl, lands, qf, ho]
      go_wp2
      go_ret
      exact ⟨by rw [← HF.out]; rfl, BD1⟩
     | true =>
      cases q8 : (x.c != 0) with
      | false =>
       have HF : Hid (0 = A) := by show _ = _; rw [← HA.out]; simp [refP, show x.s = S.x.id by simpa using q1, hk, hp, SN.ended, SN.inPh, kph, hl, lands, qf, ho, SN.outcome, SN.fwd, show x.c = 0 by simpa using q8]
       go_wp2
       go_ret
       exact ⟨by rw [← HF.out]; rfl, BD1⟩
      | true =>
       cases q9 : (x.c != 1) with
       | true =>
        have HF : Hid (109 = A) := by show _ = _; rw [← HA.out]; simp [refP, show x.s = S.x.id by simpa using q1, hk, hp, SN.ended, SN.inPh, kph, hl, lands, qf, ho, SN.outcome, SN.fwd, show x.c ≠ 0 by simpa using q8, show x.c ≠ 1 by simpa using q9]
        go_wp2
        go_ret
        exact ⟨by rw [← HF.out]; rfl, BD1⟩
       | false =>
        have HF : Hid (0 = A) := by show _ = _; rw [← HA.out]; simp [refP, show x.s = S.x.id by simpa using q1, hk, hp, SN.ended, SN.inPh, kph, hl, lands, qf, ho, SN.outcome, SN.fwd, show x.c = 1 by simpa using q9]
        go_wp2
        go_ret
        exact ⟨by rw [← HF.out]; rfl, BD1⟩
   ·rw [hp] at c7
    have ho := hon (.inr hp)
    cases qf : S.x.fl with
    | true =>
     rw [qf] at c9
     have HF : Hid (105 = A) := by show _ = _; rw [← HA.out]; simp [refP, show x.s = S.x.id by simpa using q1, hk, hp, SN.ended, SN.inPh, kph, hl, lands, qf]
     go_wp2
     go_ret
     exact ⟨by rw [← HF.out]; rfl, BD1⟩
    | false =>
     rw [qf] at c9
     cases b with
     | false =>
      have HF : Hid (106 = A) := by show _ = _; rw [← HA.out]; simp [refP, show x.s = S.x.id by simpa using q1, hk, hp, SN.ended, SN.inPh, kph, hl, lands, qf, ho]
      go_wp2
      go_ret
      exact ⟨by rw [← HF.out]; rfl, BD1⟩
     | true =>
      cases q8 : (x.c != 0) with
      | false =>
       have HF : Hid (0 = A) := by show _ = _; rw [← HA.out]; simp [refP, show x.s = S.x.id by simpa using q1, hk, hp, SN.ended, SN.inPh, kph, hl, lands, qf, ho, SN.outcome, SN.fwd, show x.c = 0 by simpa using q8]
       go_wp2
       go_ret
       exact ⟨by rw [← HF.out]; rfl, BD1⟩
      | true =>
       cases q9 : (x.c != 2) with
       | true =>
        have HF : Hid (109 = A) := by show _ = _; rw [← HA.out]; simp [refP, show x.s = S.x.id by simpa using q1, hk, hp, SN.ended, SN.inPh, kph, hl, lands, qf, ho, SN.outcome, SN.fwd, show x.c ≠ 0 by simpa using q8, show x.c ≠ 2 by simpa using q9]
        go_wp2
        go_ret
        exact ⟨by rw [← HF.out]; rfl, BD1⟩
       | false =>
        have HF : Hid (0 = A) := by show _ = _; rw [← HA.out]; simp [refP, show x.s = S.x.id by simpa using q1, hk, hp, SN.ended, SN.inPh, kph, hl, lands, qf, ho, SN.outcome, SN.fwd, show x.c = 2 by simpa using q9]
        go_wp2
        go_ret
        exact ⟨by rw [← HF.out]; rfl, BD1⟩
   ·rw [hp] at c7
    have HF : Hid (103 = A) := by show _ = _; rw [← HA.out]; simp [refP, show x.s = S.x.id by simpa using q1, hk, hp, SN.ended]
    go_wp2
    go_ret
    exact ⟨by rw [← HF.out]; rfl, BD1⟩
   ·rw [hp] at c7
    have HF : Hid (103 = A) := by show _ = _; rw [← HA.out]; simp [refP, show x.s = S.x.id by simpa using q1, hk, hp, SN.ended]
    go_wp2
    go_ret
    exact ⟨by rw [← HF.out]; rfl, BD1⟩
end Go.Proofs.YtabdfafffjgfiaaGreatDoor
