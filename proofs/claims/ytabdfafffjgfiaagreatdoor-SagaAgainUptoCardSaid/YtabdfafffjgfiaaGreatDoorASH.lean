import Derived.Lib.SlBytesConst
import Derived.Test.YtabdfafffjgfiaaGreatDoorASA
set_option maxRecDepth 100000
set_option maxHeartbeats 4000000
namespace Go.Proofs.YtabdfafffjgfiaaGreatDoor
open Go Go.RowKit
open Wb

def upK (x : SN) (j : Nat) : List Int := (([2, 3, 4, 5, 6, 7] : List Int).take (j - 2)).filter x.may
theorem upK_next (x : SN) (j : Nat) (h2 : 2 ≤ j) (h7 : j ≤ 7) : upK x (j + 1) = if x.may j then upK x j ++ [(j : Int)] else upK x j := by
 have e : ([2, 3, 4, 5, 6, 7] : List Int).take (j + 1 - 2) = ([2, 3, 4, 5, 6, 7] : List Int).take (j - 2) ++ [(j : Int)] := by
  obtain rfl | rfl | rfl | rfl | rfl | rfl : j = 2 ∨ j = 3 ∨ j = 4 ∨ j = 5 ∨ j = 6 ∨ j = 7 := by omega
  all_goals rfl
 unfold upK
 rw [e, List.filter_append]
 by_cases h : x.may j = true <;> simp [h]
theorem roI_weak {B B2 : Nat} {w : World} {v : Value} {l : List Int} (h : Fld.RoI B2 w v l) (hB : B ≤ B2) : Fld.RoI B w v l := by
 refine ⟨h.1, ?_⟩
 rcases h.2 with h1 | ⟨g, cap, cur, e, hb, rest⟩
 ·exact .inl h1
 ·exact .inr ⟨g, cap, cur, e, Nat.le_trans hB hb, rest⟩
theorem roI_block {B : Nat} {w : World} {v : Value} {l : List Int} (h : Fld.RoI B w v l) (g : Nat) (e : v.ownBlock = some g) : B ≤ g := by
 rcases h.2 with ⟨rfl, _⟩ | ⟨g', cap, cur, rfl, h1, _⟩
 ·simp [Value.ownBlock] at e
 ·simp [Value.ownBlock] at e
  omega
theorem upK_len (x : SN) (j : Nat) : (upK x j).length ≤ 6 := by
 unfold upK
 refine Nat.le_trans (List.length_filter_le _ _) ?_
 simp
 omega
theorem kinds_bool (w : World) (h : KindsT w) (j : Nat) (hj : j < 8) : w.cell? ⟨0, j * 2 + 1, none⟩ = some (.bool (lands j)) := by
 have e := (h j hj).2
 rwa [Nat.mul_comm] at e
theorem allowed_c (S : Sg) (h : SH) (w : World) (k : SgAt w S h) (hT : Text.TabP 3 .i32 Text.Tx.lets w) (hnm : S.nm.size ≤ 140737488355000) (hc : chkS S = false) : Calls Tryz.prog 7 #[sv S h] w fun e w' => e = .returned (.slice none 0 0) ∧ Below w.heap.size w w' := by
 have HCK0 : ∀ w', Below w.heap.size w w' → Calls Tryz.prog 29 #[sv S h] w' fun e w'' => e = .returned (.int .i64 100) ∧ Below w'.heap.size w' w'' := fun w' hb => by have e := scheck_any S h w' (k.kept hb) (hT.kept hb) hnm; rw [hc] at e; exact e
 obtain ⟨D, hD, hL, hE⟩ := sv_letter S h
 rw [hD] at HCK0 ⊢
 have HCK : Hid _ := HCK0
 have HL : Hid _ := hL
 have HE : Hid (D = scl S h) := hE
 have HX : Hid (∀ t, (w.alloc (.cells D.toArray t)).rangeAt w.heap.size 0 D ∧ Below w.heap.size w (w.alloc (.cells D.toArray t))) := fun t => boxed w D t
 clear hD hL hE HCK0
 clear k hT hnm HE hc
 go_enter Tryz.func7, Tryz.ntmps7
 go_wp2_with (first | (refine wpList_load_mid rfl 25 _ rfl w.heap.size 0 rfl D _ (HX.out _).1 Tryz.underlying25 rfl HL.out ?_) | (refine wpList_load_midG rfl 25 _ rfl w.heap.size 0 rfl D _ (HX.out _).1 Tryz.underlying25 rfl HL.out ?_))
 refine (HCK.out _ (HX.out _).2).mono ?_
 rintro e w1 ⟨rfl, b1⟩
 have B1 := andThen (HX.out _).2 b1
 go_wp2
 go_ret
 exact ⟨rfl, B1⟩
theorem allowed_e (S : Sg) (h : SH) (w : World) (k : SgAt w S h) (hT : Text.TabP 3 .i32 Text.Tx.lets w) (hnm : S.nm.size ≤ 140737488355000) (hc : chkS S = true) (he : S.x.ended = true) : Calls Tryz.prog 7 #[sv S h] w fun e w' => e = .returned (.slice none 0 0) ∧ Below w.heap.size w w' := by
 have HCK0 : ∀ w', Below w.heap.size w w' → Calls Tryz.prog 29 #[sv S h] w' fun e w'' => e = .returned (.int .i64 0) ∧ Below w'.heap.size w' w'' := fun w' hb => by have e := scheck_any S h w' (k.kept hb) (hT.kept hb) hnm; rw [hc] at e; exact e
 have HEN0 : ∀ w', Calls Tryz.prog 30 #[sv S h] w' fun e w'' => e = .returned (.bool true) ∧ Below w'.heap.size w' w'' := fun w' => by rw [← he]; exact ended_any S h w'
 obtain ⟨D, hD, hL, hE⟩ := sv_letter S h
 rw [hD] at HCK0 HEN0 ⊢
 have HCK : Hid _ := HCK0
 have HEN : Hid _ := HEN0
 have HL : Hid _ := hL
 have HE : Hid (D = scl S h) := hE
 have HX : Hid (∀ t, (w.alloc (.cells D.toArray t)).rangeAt w.heap.size 0 D ∧ Below w.heap.size w (w.alloc (.cells D.toArray t))) := fun t => boxed w D t
 clear hD hL hE HCK0 HEN0
 clear k hT hnm HE hc he
 go_enter Tryz.func7, Tryz.ntmps7
 go_wp2_with (first | (refine wpList_load_mid rfl 25 _ rfl w.heap.size 0 rfl D _ (HX.out _).1 Tryz.underlying25 rfl HL.out ?_) | (refine wpList_load_midG rfl 25 _ rfl w.heap.size 0 rfl D _ (HX.out _).1 Tryz.underlying25 rfl HL.out ?_))
 refine (HCK.out _ (HX.out _).2).mono ?_
 rintro e w1 ⟨rfl, b1⟩
 have B1 := andThen (HX.out _).2 b1
 have R1 := range_kept (HX.out _).1 b1
 clear b1 HX HCK
 go_wp2_with (first | (refine wpList_load_mid rfl 25 _ rfl w.heap.size 0 rfl D _ R1 Tryz.underlying25 rfl HL.out ?_) | (refine wpList_load_midG rfl 25 _ rfl w.heap.size 0 rfl D _ R1 Tryz.underlying25 rfl HL.out ?_))
 refine (HEN.out _).mono ?_
 rintro e w2 ⟨rfl, b2⟩
 have B2 := andThen B1 b2
 clear b2 B1 R1 HEN
 go_wp2
 go_ret
 exact ⟨rfl, B2⟩
theorem allowed_l (S : Sg) (h : SH) (w : World) (k : SgAt w S h) (hT : Text.TabP 3 .i32 Text.Tx.lets w) (hK : KindsT w) (hnm : S.nm.size ≤ 140737488355000) (hc : chkS S = true) (he : S.x.ended = false) : Calls Tryz.prog 7 #[sv S h] w fun e w' => ∃ v, e = .returned v ∧ Fld.RoI (w.heap.size + 1) w' v (upK S.x 8) ∧ Below w.heap.size w w' := by
 have HCK0 : ∀ w', Below w.heap.size w w' → Calls Tryz.prog 29 #[sv S h] w' fun e w'' => e = .returned (.int .i64 0) ∧ Below w'.heap.size w' w'' := fun w' hb => by have e := scheck_any S h w' (k.kept hb) (hT.kept hb) hnm; rw [hc] at e; exact e
 have HEN0 : ∀ w', Calls Tryz.prog 30 #[sv S h] w' fun e w'' => e = .returned (.bool false) ∧ Below w'.heap.size w' w'' := fun w' => by rw [← he]; exact ended_any S h w'
 have HIP0 : ∀ (j : Nat) (w' : World), 2 ≤ j → j ≤ 7 → Below w.heap.size w w' → Calls Tryz.prog 31 #[sv S h, .int .i64 (j : Int)] w' fun e w'' => e = .returned (.bool (S.x.inPh j)) ∧ Below w'.heap.size w' w'' := fun j w' h2 h7 hb => inPh_any S h j w' (by omega) (hK.kept hb)
 have HAE0 : ∀ w', Calls Tryz.prog 32 #[sv S h] w' fun e w'' => e = .returned (.bool S.x.atEnd) ∧ Below w'.heap.size w' w'' := fun w' => atEnd_any S h w'
 have HKB : Hid (∀ (j : Nat) (w' : World), j < 8 → Below w.heap.size w w' → w'.cell? ⟨0, j * 2 + 1, none⟩ = some (.bool (lands j))) := fun j w' hj hb => kinds_bool w' (hK.kept hb) j hj
 obtain ⟨D, hD, hL, hE⟩ := sv_letter S h
 rw [hD] at HCK0 HEN0 HIP0 HAE0 ⊢
 have HCK : Hid _ := HCK0
 have HEN : Hid _ := HEN0
 have HIP : Hid _ := HIP0
 have HAE : Hid _ := HAE0
 have HL : Hid _ := hL
 have HE : Hid (D = scl S h) := hE
 have HX : Hid (∀ t, (w.alloc (.cells D.toArray t)).rangeAt w.heap.size 0 D ∧ Below w.heap.size w (w.alloc (.cells D.toArray t))) := fun t => boxed w D t
 clear hD hL hE HCK0 HEN0 HIP0 HAE0
 clear k hT hnm hc he hK
 go_enter Tryz.func7, Tryz.ntmps7
 go_wp2_with (first | (refine wpList_load_mid rfl 25 _ rfl w.heap.size 0 rfl D _ (HX.out _).1 Tryz.underlying25 rfl HL.out ?_) | (refine wpList_load_midG rfl 25 _ rfl w.heap.size 0 rfl D _ (HX.out _).1 Tryz.underlying25 rfl HL.out ?_))
 refine (HCK.out _ (HX.out _).2).mono ?_
 rintro e w1 ⟨rfl, b1⟩
 have B1 := andThen (HX.out _).2 b1
 have R1 := range_kept (HX.out _).1 b1
 clear b1 HX HCK
 go_wp2_with (first | (refine wpList_load_mid rfl 25 _ rfl w.heap.size 0 rfl D _ R1 Tryz.underlying25 rfl HL.out ?_) | (refine wpList_load_midG rfl 25 _ rfl w.heap.size 0 rfl D _ R1 Tryz.underlying25 rfl HL.out ?_))
 refine (HEN.out _).mono ?_
 rintro e w2 ⟨rfl, b2⟩
 have B2 := andThen B1 b2
 have R2 := range_kept R1 b2
 clear b2 B1 R1 HEN
 go_wp2
 go_loopw [3, 4] (fun o i wr => ∃ j : Nat, 2 ≤ j ∧ j ≤ 8 ∧ i = .int .i64 (j : Int) ∧ Fld.RoI (w.heap.size + 1) wr o (upK S.x j) ∧ wr.rangeAt w.heap.size 0 D ∧ Below w.heap.size w wr) (fun _ i _ => 8 - (intOf i).toNat)
 case atStart => exact ⟨2, by omega, by omega, rfl, Fld.roI_nil _ _, R2, B2⟩
 case round =>
  obtain ⟨j, hj2, hj8, rfl, ho, hR, hbel⟩ := hrel
  by_cases hlt : j ≤ 7
  ·have h7 : ((j : Int) ≤ 7) = True := by simp; omega
   have h8 : (j : Int) < 8 := by omega
   have h80 : (0 : Int) ≤ (j : Int) := by omega
   have hjn : j < 8 := by omega
   have HS : Hid (∀ w' : World, w'.rangeAt w.heap.size 0 D → Below wr.heap.size wr w' → w'.rangeAt w.heap.size 0 D ∧ w'.cell? ⟨w.heap.size, 9, none⟩ = some (.bool S.x.fl) ∧ w'.cell? ⟨0, j * 2 + 1, none⟩ = some (.bool (lands j)) ∧ Below wr.heap.size wr w') := fun w' hr hb => ⟨hr, range_cell hr 9 _ (by rw [HE.out]; rfl), HKB.out j w' hjn (andThen hbel hb), hb⟩
   have HO : Hid (Fld.RoI (w.heap.size + 1) wr u3 (upK S.x j)) := ho
   have HBEL : Hid (Below w.heap.size w wr) := hbel
   have HNX : Hid (upK S.x (j + 1) = if S.x.may j then upK S.x j ++ [(j : Int)] else upK S.x j) := upK_next S.x j hj2 hlt
   clear ho
   cases m1 : S.x.inPh j with
   | false =>
    go_wp2
    refine wp_region_held_drew (S := fun w' : World => w'.rangeAt w.heap.size 0 D ∧ w'.cell? ⟨w.heap.size, 9, none⟩ = some (.bool S.x.fl) ∧ w'.cell? ⟨0, j * 2 + 1, none⟩ = some (.bool (lands j)) ∧ Below wr.heap.size wr w') (by kernel_rfl) ?_ (fun hH => ?_)
    ·exact HS.out _ (range_kept hR (Below.drew (Below.refl _ _))) (Below.drew (Below.refl _ _))
    refine zql 0 rfl (yieldsIf_load_mid (by rfl) _ _ rfl _ _ rfl D _ (fun w' hSw => hSw.1) Tryz.underlying25 rfl HL.out) hH ?_
    simp only [zq]
    refine zqk 1 rfl hH ?_
    simp only [zq]
    refine zqr 2 rfl (fun K hK => ?_)
    go_simp
    refine (HIP.out j _ hj2 hlt (andThen HBEL.out hH.2.2.2)).mono ?_
    rintro e wa ⟨rfl, ba⟩
    refine hK.out _ _ ?_ (fun hH2 => ?_)
    ·exact HS.out _ (range_kept hH.1 ba) (andThen hH.2.2.2 ba)
    clear hK K hH
    have hH := hH2
    clear hH2
    rw [m1]
    clear ba
    refine zqk 3 rfl hH ?_
    simp only [zq]
    refine zql 4 rfl (Or.inr ⟨by rfl, rfl⟩) hH ?_
    simp only [zq]
    refine zql 5 rfl (Or.inr ⟨by rfl, rfl⟩) hH ?_
    simp only [zq]
    refine zql 6 rfl (Or.inr ⟨by rfl, rfl⟩) hH ?_
    simp only [zq]
    refine zql 7 rfl (Or.inr ⟨by rfl, rfl⟩) hH ?_
    simp only [zq]
    refine zql 8 rfl (Or.inr ⟨by rfl, rfl⟩) hH ?_
    simp only [zq]
    refine zql 9 rfl (Or.inr ⟨by rfl, rfl⟩) hH ?_
    simp only [zq]
    refine zql 10 rfl (Or.inr ⟨by rfl, rfl⟩) hH ?_
    simp only [zq]
    refine zqk 11 rfl hH ?_
    simp only [zq]
    refine zqk 12 rfl hH ?_
    simp only [zq]
    refine zql 13 rfl (Or.inr ⟨by rfl, rfl⟩) hH ?_
    simp only [zq]
    refine zql 14 rfl (Or.inr ⟨by rfl, rfl⟩) hH ?_
    simp only [zq]
    refine zql 15 rfl (Or.inr ⟨by rfl, rfl⟩) hH ?_
    simp only [zq]
    refine zql 16 rfl (Or.inr ⟨by rfl, rfl⟩) hH ?_
    simp only [zq]
    refine zql 17 rfl (Or.inr ⟨by rfl, rfl⟩) hH ?_
    simp only [zq]
    refine zqk 18 rfl hH ?_
    simp only [zq]
    refine wpAnyH_done (by kernel_rfl) ?_ _
    have HN : Hid (upK S.x (j + 1) = upK S.x j) := by show _ = _; rw [HNX.out, if_neg (by unfold SN.may; rw [m1]; simp)]
    have HF := hH
    clear hH
    go_wp2
    go_roundw
    case rel => exact ⟨j + 1, by omega, by omega, by go_num, by rw [HN.out]; exact HO.out.kept HF.2.2.2, HF.1, andThen HBEL.out HF.2.2.2⟩
    case measure => simp [intOf]; omega
   | true =>
    cases m2 : (lands j == S.x.fl) with
    | false =>
     go_wp2
     refine wp_region_held_drew (S := fun w' : World => w'.rangeAt w.heap.size 0 D ∧ w'.cell? ⟨w.heap.size, 9, none⟩ = some (.bool S.x.fl) ∧ w'.cell? ⟨0, j * 2 + 1, none⟩ = some (.bool (lands j)) ∧ Below wr.heap.size wr w') (by kernel_rfl) ?_ (fun hH => ?_)
     ·exact HS.out _ (range_kept hR (Below.drew (Below.refl _ _))) (Below.drew (Below.refl _ _))
     refine zql 0 rfl (yieldsIf_load_mid (by rfl) _ _ rfl _ _ rfl D _ (fun w' hSw => hSw.1) Tryz.underlying25 rfl HL.out) hH ?_
     simp only [zq]
     refine zqk 1 rfl hH ?_
     simp only [zq]
     refine zqr 2 rfl (fun K hK => ?_)
     go_simp
     refine (HIP.out j _ hj2 hlt (andThen HBEL.out hH.2.2.2)).mono ?_
     rintro e wa ⟨rfl, ba⟩
     refine hK.out _ _ ?_ (fun hH2 => ?_)
     ·exact HS.out _ (range_kept hH.1 ba) (andThen hH.2.2.2 ba)
     clear hK K hH
     have hH := hH2
     clear hH2
     rw [m1]
     clear ba
     refine zqk 3 rfl hH ?_
     simp only [zq]
     refine zqk 4 rfl hH ?_
     simp only [zq]
     refine zqk 5 rfl hH ?_
     simp only [zq]
     refine zqk 6 rfl hH ?_
     simp only [zq]
     refine zqk 7 rfl hH ?_
     simp only [zq]
     refine zqk 8 rfl hH ?_
     simp only [zq]
     refine zqk 9 rfl hH ?_
     simp only [zq]
     refine zqk 10 rfl hH ?_
     simp only [zq]
     refine zqk 11 rfl hH ?_
     simp only [zq]
     refine zqk 12 rfl hH ?_
     simp only [zq]
     refine zql 13 rfl (Or.inr ⟨by rfl, rfl⟩) hH ?_
     simp only [zq]
     refine zql 14 rfl (Or.inr ⟨by rfl, rfl⟩) hH ?_
     simp only [zq]
     refine zql 15 rfl (Or.inr ⟨by rfl, rfl⟩) hH ?_
     simp only [zq]
     refine zql 16 rfl (Or.inr ⟨by rfl, rfl⟩) hH ?_
     simp only [zq]
     refine zql 17 rfl (Or.inr ⟨by rfl, rfl⟩) hH ?_
     simp only [zq]
     refine zqk 18 rfl hH ?_
     simp only [zq]
     refine wpAnyH_done (by kernel_rfl) ?_ _
     have HN : Hid (upK S.x (j + 1) = upK S.x j) := by show _ = _; rw [HNX.out, if_neg (by unfold SN.may; rw [m1, m2]; simp)]
     have HF := hH
     clear hH
     go_wp2
     go_roundw
     case rel => exact ⟨j + 1, by omega, by omega, by go_num, by rw [HN.out]; exact HO.out.kept HF.2.2.2, HF.1, andThen HBEL.out HF.2.2.2⟩
     case measure => simp [intOf]; omega
    | true =>
     cases m3 : (((j : Int) == 7) == S.x.atEnd) with
     | false =>
      go_wp2
      refine wp_region_held_drew (S := fun w' : World => w'.rangeAt w.heap.size 0 D ∧ w'.cell? ⟨w.heap.size, 9, none⟩ = some (.bool S.x.fl) ∧ w'.cell? ⟨0, j * 2 + 1, none⟩ = some (.bool (lands j)) ∧ Below wr.heap.size wr w') (by kernel_rfl) ?_ (fun hH => ?_)
      ·exact HS.out _ (range_kept hR (Below.drew (Below.refl _ _))) (Below.drew (Below.refl _ _))
      refine zql 0 rfl (yieldsIf_load_mid (by rfl) _ _ rfl _ _ rfl D _ (fun w' hSw => hSw.1) Tryz.underlying25 rfl HL.out) hH ?_
      simp only [zq]
      refine zqk 1 rfl hH ?_
      simp only [zq]
      refine zqr 2 rfl (fun K hK => ?_)
      go_simp
      refine (HIP.out j _ hj2 hlt (andThen HBEL.out hH.2.2.2)).mono ?_
      rintro e wa ⟨rfl, ba⟩
      refine hK.out _ _ ?_ (fun hH2 => ?_)
      ·exact HS.out _ (range_kept hH.1 ba) (andThen hH.2.2.2 ba)
      clear hK K hH
      have hH := hH2
      clear hH2
      rw [m1]
      clear ba
      refine zqk 3 rfl hH ?_
      simp only [zq]
      refine zqk 4 rfl hH ?_
      simp only [zq]
      refine zqk 5 rfl hH ?_
      simp only [zq]
      refine zqk 6 rfl hH ?_
      simp only [zq]
      refine zqk 7 rfl hH ?_
      simp only [zq]
      refine zqk 8 rfl hH ?_
      simp only [zq]
      refine zqk 9 rfl hH ?_
      simp only [zq]
      refine zqk 10 rfl hH ?_
      simp only [zq]
      refine zqk 11 rfl hH ?_
      simp only [zq]
      refine zqk 12 rfl hH ?_
      simp only [zq]
      refine zqk 13 rfl hH ?_
      simp only [zq]
      refine zqk 14 rfl hH ?_
      simp only [zq]
      refine zql 15 rfl (yieldsIf_load_mid (by rfl) _ _ rfl _ _ rfl D _ (fun w' hSw => hSw.1) Tryz.underlying25 rfl HL.out) hH ?_
      simp only [zq]
      refine zqr 16 rfl (fun K hK => ?_)
      go_simp
      refine (HAE.out _).mono ?_
      rintro e wb ⟨rfl, bb⟩
      refine hK.out _ _ ?_ (fun hH2 => ?_)
      ·exact HS.out _ (range_kept hH.1 bb) (andThen hH.2.2.2 bb)
      clear hK K hH
      have hH := hH2
      clear hH2
      clear bb
      refine zqk 17 rfl hH ?_
      simp only [zq]
      refine zqk 18 rfl hH ?_
      simp only [zq]
      refine wpAnyH_done (by kernel_rfl) ?_ _
      have HN : Hid (upK S.x (j + 1) = upK S.x j) := by show _ = _; rw [HNX.out, if_neg (by unfold SN.may; rw [m1, m2, m3]; simp)]
      have HF := hH
      clear hH
      go_wp2
      go_roundw
      case rel => exact ⟨j + 1, by omega, by omega, by go_num, by rw [HN.out]; exact HO.out.kept HF.2.2.2, HF.1, andThen HBEL.out HF.2.2.2⟩
      case measure => simp [intOf]; omega
     | true =>
      go_wp2
      refine wp_region_held_drew (S := fun w' : World => w'.rangeAt w.heap.size 0 D ∧ w'.cell? ⟨w.heap.size, 9, none⟩ = some (.bool S.x.fl) ∧ w'.cell? ⟨0, j * 2 + 1, none⟩ = some (.bool (lands j)) ∧ Below wr.heap.size wr w') (by kernel_rfl) ?_ (fun hH => ?_)
      ·exact HS.out _ (range_kept hR (Below.drew (Below.refl _ _))) (Below.drew (Below.refl _ _))
      refine zql 0 rfl (yieldsIf_load_mid (by rfl) _ _ rfl _ _ rfl D _ (fun w' hSw => hSw.1) Tryz.underlying25 rfl HL.out) hH ?_
      simp only [zq]
      refine zqk 1 rfl hH ?_
      simp only [zq]
      refine zqr 2 rfl (fun K hK => ?_)
      go_simp
      refine (HIP.out j _ hj2 hlt (andThen HBEL.out hH.2.2.2)).mono ?_
      rintro e wa ⟨rfl, ba⟩
      refine hK.out _ _ ?_ (fun hH2 => ?_)
      ·exact HS.out _ (range_kept hH.1 ba) (andThen hH.2.2.2 ba)
      clear hK K hH
      have hH := hH2
      clear hH2
      rw [m1]
      clear ba
      refine zqk 3 rfl hH ?_
      simp only [zq]
      refine zqk 4 rfl hH ?_
      simp only [zq]
      refine zqk 5 rfl hH ?_
      simp only [zq]
      refine zqk 6 rfl hH ?_
      simp only [zq]
      refine zqk 7 rfl hH ?_
      simp only [zq]
      refine zqk 8 rfl hH ?_
      simp only [zq]
      refine zqk 9 rfl hH ?_
      simp only [zq]
      refine zqk 10 rfl hH ?_
      simp only [zq]
      refine zqk 11 rfl hH ?_
      simp only [zq]
      refine zqk 12 rfl hH ?_
      simp only [zq]
      refine zqk 13 rfl hH ?_
      simp only [zq]
      refine zqk 14 rfl hH ?_
      simp only [zq]
      refine zql 15 rfl (yieldsIf_load_mid (by rfl) _ _ rfl _ _ rfl D _ (fun w' hSw => hSw.1) Tryz.underlying25 rfl HL.out) hH ?_
      simp only [zq]
      refine zqr 16 rfl (fun K hK => ?_)
      go_simp
      refine (HAE.out _).mono ?_
      rintro e wb ⟨rfl, bb⟩
      refine hK.out _ _ ?_ (fun hH2 => ?_)
      ·exact HS.out _ (range_kept hH.1 bb) (andThen hH.2.2.2 bb)
      clear hK K hH
      have hH := hH2
      clear hH2
      clear bb
      refine zqk 17 rfl hH ?_
      simp only [zq]
      refine zqk 18 rfl hH ?_
      simp only [zq]
      refine wpAnyH_done (by kernel_rfl) ?_ _
      have HN : Hid (upK S.x (j + 1) = upK S.x j ++ [(j : Int)]) := by show _ = _; rw [HNX.out, if_pos (by unfold SN.may; rw [m1, m2, m3]; rfl)]
      have HF : Hid _ := hH
      clear hH
      have HLN : Hid ((upK S.x j).length ≤ 6) := upK_len _ _
      have HCE : Hid ((wb.alloc (.cells #[.int .i64 (j : Int)] 3)).cell? ⟨wb.heap.size, 0, none⟩ = some (.int .i64 (j : Int))) := by show _ = _; rw [World.cell?_alloc_new]; rfl
      have hlt0 : w.heap.size < wb.heap.size := World.block_lt_of_cell? wb ⟨w.heap.size, 9, none⟩ HF.out.2.1
      have HSZ : Hid (w.heap.size + 1 ≤ (wb.alloc (.cells #[.int .i64 (j : Int)] 3)).heap.size) := by show _ ≤ _; rw [heap_one]; omega
      clear hlt0
      go_wp2_with (at_builtin; refine Fld.wpList_app_int _ rfl (.tmp 35) (.tmp 37) 26 rfl (w.heap.size + 1) Fld.info3 Tryz.underlying26 _ (upK S.x j) rfl ((HO.out.kept HF.out.2.2.2).kept (up0 _ _)) _ (j : Int) rfl HCE.out (Nat.le_trans HLN.out (by decide)) HSZ.out ?_)
      intro v' w' hro hgr
      have HG : Hid (Fld.RoI (w.heap.size + 1) w' v' (upK S.x (j + 1)) ∧ w'.rangeAt w.heap.size 0 D ∧ Below w.heap.size w w') := by
       have hold : Fld.RoI (w.heap.size + 1) (wb.alloc (.cells #[.int .i64 (j : Int)] 3)) u3 (upK S.x j) := (HO.out.kept HF.out.2.2.2).kept (up0 _ _)
       have hbw : Below w.heap.size w (wb.alloc (.cells #[.int .i64 (j : Int)] 3)) := up (andThen HBEL.out HF.out.2.2.2) _
       refine ⟨by rw [HN.out]; exact hro, fun i v hv => ?_, (roI_weak hold (by omega)).below hbw hgr⟩
       have h1 := range_kept HF.out.1 (up0 _ (.cells #[.int .i64 (j : Int)] 3)) i v hv
       rw [← h1]
       refine World.cell?_of_block (w := wb.alloc (.cells #[.int .i64 (j : Int)] 3)) (hgr.block w.heap.size (World.block_lt_of_cell? _ _ h1) (fun e => ?_))
       have := roI_block hold _ e.symm
       omega
      clear hro hgr HCE HSZ HF HO HN
      go_wp2
      go_roundw
      case rel => exact ⟨j + 1, by omega, by omega, by go_num, HG.out.1, HG.out.2.1, HG.out.2.2⟩
      case measure => simp [intOf]; omega
  ·obtain rfl : j = 8 := by omega
   have HF : Hid (Fld.RoI (w.heap.size + 1) wr u3 (upK S.x 8) ∧ Below w.heap.size w wr) := ⟨ho, hbel⟩
   clear ho hbel hR
   go_wp2
   go_ret
   exact ⟨_, rfl, HF.out.1, HF.out.2⟩
theorem allowed_any (S : Sg) (h : SH) (w : World) (k : SgAt w S h) (hT : Text.TabP 3 .i32 Text.Tx.lets w) (hK : KindsT w) (hnm : S.nm.size ≤ 140737488355000) : Calls Tryz.prog 7 #[sv S h] w fun e w' => ∃ v, e = .returned v ∧ Fld.RoI w.heap.size w' v (allowedP S) ∧ Below w.heap.size w w' := by
 cases hc : chkS S with
 | false =>
  have e : allowedP S = [] := by unfold allowedP; rw [if_pos (.inl hc)]
  rw [e]
  exact (allowed_c S h w k hT hnm hc).mono fun e w' ⟨he, hb⟩ => ⟨_, he, Fld.roI_nil _ _, hb⟩
 | true =>
  cases he : S.x.ended with
  | true =>
   have e : allowedP S = [] := by unfold allowedP; rw [if_pos (.inr he)]
   rw [e]
   exact (allowed_e S h w k hT hnm hc he).mono fun e w' ⟨he, hb⟩ => ⟨_, he, Fld.roI_nil _ _, hb⟩
  | false =>
   have e : allowedP S = upK S.x 8 := by unfold allowedP; rw [if_neg (by simp [hc, he])]; rfl
   rw [e]
   exact (allowed_l S h w k hT hK hnm hc he).mono fun e w' ⟨v, he, hr, hb⟩ => ⟨v, he, roI_weak hr (by omega), hb⟩
theorem apply_any (S : Sg) (h : SH) (r : Rec) (d : Value) (w : World) (k : SgAt w S h) (hb : Bs w d r.l) (hT : STabs w) (hnm : S.nm.size ≤ 140737488355000) (hnm2 : r.nm.size ≤ 140737488355000) (hf : r.x.fit) : Calls Tryz.prog 17 #[sv S h, rv r.x r.nm d] w fun e w' => ApPost w (applyP S r) e w' := by
 unfold applyP
 cases hc : chkS S with
 | false => rw [if_pos rfl]; exact apply_c S h r d w k hT hnm hc
 | true =>
  rw [if_neg (by simp)]
  by_cases h0 : (upP 3 r).1 = 0
  ·rw [if_neg (by simpa using h0)]
   by_cases h1 : refP S.x (upP 3 r).2.x = 0
   ·rw [if_neg (by simpa using h1)]
    obtain ⟨⟨_, _, _, hv⟩, _⟩ := up3 r hb.good h0
    have hk1 := (ref_zero h1).2.1
    exact apply_m S h r d w k hb hT hnm hnm2 hf hc h0 h1 (by omega)
   ·rw [if_pos h1]; exact apply_r S h r d w k hb hT hnm hnm2 hf hc h0 h1
  ·rw [if_pos h0]; exact apply_u S h r d w k hb hT hnm hnm2 hf hc h0
theorem snum_any (z : Int) (w : World) : Calls Tryz.prog 41 #[.int .i64 z] w fun e w' => e = .returned (.int .i64 z) ∧ w = w' := by
 go_enter Tryz.func41, Tryz.ntmps41
 go_wp2
 go_ret
 exact ⟨rfl, rfl⟩
theorem results_cell_cell {P : Program} {fn : Func} {p q : Tmp} {ty ty2 : TypeId} (h : fn.results = #[.cell p ty, .cell q ty2]) (tmps : Array Value) (w : World) (g g2 : Nat) (cs cs2 : List Value) (d d2 : TypeDesc)
  (hp : tmps.getD p undef = .pointer (some ⟨g, 0, none⟩)) (hc : w.rangeAt g 0 cs) (hu : P.underlying ty = some d) (hd : d.isRow = true) (hi : (P.info? ty).map (·.size) = some cs.length)
  (hp2 : tmps.getD q undef = .pointer (some ⟨g2, 0, none⟩)) (hc2 : w.rangeAt g2 0 cs2) (hu2 : P.underlying ty2 = some d2) (hd2 : d2.isRow = true) (hi2 : (P.info? ty2).map (·.size) = some cs2.length) :
  (results fn tmps).run P w = .ok (.tuple #[.agg cs.toArray, .agg cs2.toArray]) w := by
 have hp' : tmps[p]?.getD undef = .pointer (some ⟨g, 0, none⟩) := by simpa using hp
 have hp2' : tmps[q]?.getD undef = .pointer (some ⟨g2, 0, none⟩) := by simpa using hp2
 simp [results, h, hp', hp2', asAddr, run_loadVar_mid w g 0 ty cs d hc hu hd hi, run_loadVar_mid w g2 0 ty2 cs2 d2 hc2 hu2 hd2 hi2]
def buy : ByteArray := ⟨#[98, 117, 121]⟩
def rec1 : Rec := ⟨⟨3, 1, 7, 0, 0, 5, 0, 0, 2, 1⟩, buy, [105, 110]⟩
def sg1 : Sg := ⟨⟨7, 2, 1, 5, 5, 1, 0, false, 0, 0, 0⟩, buy, [105, 110], [], [], []⟩
theorem in_newM (w : World) : Bs (w.alloc (.cells #[.int .u8 105, .int .u8 110] 5 (2, 3))) (.slice (some ⟨w.heap.size, 0, none⟩) 2 2) [105, 110] := by
 refine ⟨⟨some ⟨w.heap.size, 0, none⟩, 2, rfl, Nat.le_refl _, by simp [maxLen], fun e => (by cases e), fun _ => ⟨w.heap.size, 0, rfl, fun j hj => ?_⟩⟩, by intro x hx; simp at hx; omega⟩
 have e := heap_new w (.cells #[.int .u8 105, .int .u8 110] 5 (2, 3))
 rw [Nat.zero_add]
 match j, hj with
 | 0, _ => unfold World.cell?; rw [e]; rfl
 | 1, _ => unfold World.cell?; rw [e]; rfl
def FirstPost (w : World) (e : Ending) (w' : World) : Prop := ∃ a, ∃ c : Nat, ∃ h1 : SH, e = .returned (.tuple #[rv rec1.x rec1.nm (.slice a rec1.l.length c), sv sg1 h1]) ∧ Bs w' (.slice a rec1.l.length c) rec1.l ∧ SgAt w' sg1 h1 ∧ Below w.heap.size w w'
theorem first_any (w : World) : Calls Tryz.prog 40 #[] w fun e w' => FirstPost w e w' := by
 obtain ⟨Z, hZ⟩ : ∃ Z, Z = zcl := ⟨_, rfl⟩
 obtain ⟨ZR, hZR⟩ : ∃ ZR, ZR = zrl := ⟨_, rfl⟩
 have HZ : Hid (Z = zcl) := hZ
 have HZR : Hid (ZR = zrl) := hZR
 clear hZ hZR
 obtain ⟨L, hL⟩ : ∃ L : List Value, [.int .i64 3, .int .i64 1, .int .i64 7, .int .i64 0, .int .i64 0, .int .i64 5, .int .i64 0, .int .i64 0, .int .i64 2, .int .i64 1, .string ⟨#[98, 117, 121]⟩, .slice (some ⟨w.heap.size + 1 + 1, 0, none⟩) 2 2] = L := ⟨_, rfl⟩
 have HL : Hid (L = rcE rec1.x rec1.nm (.slice (some ⟨w.heap.size + 1 + 1, 0, none⟩) 2 2)) := hL.symm
 have HLI : Hid ((Tryz.prog.info? 37).map (·.size) = some L.length) := by show _ = _; rw [HL.out]; exact infoRec
 have HL1 : Hid (∀ v ∈ L, v.oneCell' = true) := by show ∀ v ∈ L, _; rw [HL.out]; exact rcE_one _ _ _ rfl
 have HLZ : Hid (L.length = ZR.length) := by show _ = _; rw [HL.out, HZR.out]; rfl
 -- behind b's box
 have H3 : Hid (∃ W3, W3 = ((((w.alloc (.cells ZR.toArray 37)).alloc (.cells Z.toArray 25)).alloc (.cells #[.int .u8 105, .int .u8 110] 5 (2, 3))).alloc (.cells ZR.toArray 37)).setCells (w.heap.size + 1 + 1 + 1) 0 L ∧ LB W3 w.heap.size 37 ZR ∧ LB W3 (w.heap.size + 1) 25 Z ∧ LB W3 (w.heap.size + 1 + 1 + 1) 37 L ∧ Bs W3 (.slice (some ⟨w.heap.size + 1 + 1, 0, none⟩) 2 2) [105, 110] ∧ w.heap.size + 1 + 1 + 1 < W3.heap.size ∧ Below w.heap.size w W3) := by
  obtain ⟨a1, a2, a3⟩ := lb_new2 w ZR Z 37 25
  have b1 := in_newM ((w.alloc (.cells ZR.toArray 37)).alloc (.cells Z.toArray 25))
  rw [heap_one, heap_one] at b1
  have c1 := lb_new (((w.alloc (.cells ZR.toArray 37)).alloc (.cells Z.toArray 25)).alloc (.cells #[.int .u8 105, .int .u8 110] 5 (2, 3))) ZR 37
  rw [heap_one, heap_one, heap_one] at c1
  have hb := (b1.alloc (.cells ZR.toArray 37))
  refine ⟨_, rfl, ((a1.kept (up0 _ _)).kept (up0 _ _)).others _ _ _ (by omega), ((a2.kept (up0 _ _)).kept (up0 _ _)).others _ _ _ (by omega), c1.sets L HLZ.out, bs_off hb _ _ _ (fun _ b off n cap e => ?_), by rw [size_cells, heap_one, heap_one, heap_one, heap_one]; omega, below_cells (by omega) _ 0 _ (up (up a3 _) _)⟩
  simp only [Value.slice.injEq, Option.some.injEq, Addr.mk.injEq] at e
  omega
 have kc : (convert 22 22 (.slice (some ⟨w.heap.size + 1 + 1, 0, none⟩) 2 2)).run Tryz.prog (((w.alloc (.cells ZR.toArray 37)).alloc (.cells Z.toArray 25)).alloc (.cells #[.int .u8 105, .int .u8 110] 5)) = .ok (.slice (some ⟨w.heap.size + 1 + 1, 0, none⟩) 2 2) (((w.alloc (.cells ZR.toArray 37)).alloc (.cells Z.toArray 25)).alloc (.cells #[.int .u8 105, .int .u8 110] 5 (2, 3))) := by
  have e := Lib.run_convert_bytes_const (P := Tryz.prog) ((w.alloc (.cells ZR.toArray 37)).alloc (.cells Z.toArray 25)) 22 5 #[.int .u8 105, .int .u8 110] 2 2 Tryz.underlying22 Tryz.underlying5
  rw [heap_one, heap_one] at e
  exact e
 have HZL : Hid (Z.length = 16) := by show _ = _; rw [HZ.out]; rfl
 go_enter Tryz.func40, Tryz.ntmps40
 go_wp2_with (first | (refine wpList_alloc_R HZR.out rfl rfl ?_; (try simp only [heap_one])) | (refine wpList_alloc_Z HZ.out rfl rfl ?_; (try simp only [heap_one])) | (refine wpList_store_mid rfl 37 (.tmp 2) (.tmp 5) rfl (w.heap.size + 1 + 1 + 1) 0 L.toArray rfl rfl (there_of (Z := ZR) (by have c1 := lb_new (((w.alloc (.cells ZR.toArray 37)).alloc (.cells Z.toArray 25)).alloc (.cells #[.int .u8 105, .int .u8 110] 5 (2, 3))) ZR 37; rw [heap_one, heap_one, heap_one] at c1; exact c1) (by simpa using HLZ.out)) (by simpa using HLI.out) (all_oneCell_toArray HL1.out) ?_; (obtain ⟨W3, hW3, hq⟩ := H3.out); (have H4 : Hid _ := hq); (rw [List.toList_toArray, ← hW3]); (have kc3 : (convert 22 22 (.slice (some ⟨W3.heap.size, 0, none⟩) 2 2)).run Tryz.prog (W3.alloc (.cells #[.int .u8 105, .int .u8 110] 5)) = .ok (.slice (some ⟨W3.heap.size, 0, none⟩) 2 2) (W3.alloc (.cells #[.int .u8 105, .int .u8 110] 5 (2, 3))) := Lib.run_convert_bytes_const (P := Tryz.prog) W3 22 5 #[.int .u8 105, .int .u8 110] 2 2 Tryz.underlying22 Tryz.underlying5); (clear hW3 hq H3); (obtain ⟨M, hM⟩ : ∃ M : List Value, [.int .i64 7, .string ⟨#[98, 117, 121]⟩, .int .i64 2, .int .i64 1, .int .i64 5, .int .i64 5, .slice (some ⟨W3.heap.size, 0, none⟩) 2 2, .int .i64 1, .int .i64 0, .bool false, .int .i64 0, .slice none 0 0, .slice none 0 0, .int .i64 0, .int .i64 0, .slice none 0 0] = M := ⟨_, rfl⟩); (have HM : Hid (M = scl sg1 ⟨some ⟨W3.heap.size, 0, none⟩, 2, none, 0, none, 0, none, 0⟩) := hM.symm); (have HMI : Hid ((Tryz.prog.info? 25).map (·.size) = some M.length) := (by show _ = _; rw [HM.out]; exact infoSaga)); (have HM1 : Hid (∀ v ∈ M, v.oneCell' = true) := (by show ∀ v ∈ M, _; rw [HM.out]; exact scl_one _ _)); (have HMZ : Hid (M.length = Z.length) := (by show _ = _; rw [HM.out, HZL.out]; rfl))) | (refine wpList_load_mid rfl 37 _ rfl (w.heap.size + 1 + 1 + 1) 0 rfl L _ H4.out.2.2.1.range Tryz.underlying37 rfl HLI.out ?_) | (refine wpList_store_mid rfl 37 (.tmp 0) (.tmp 6) rfl w.heap.size 0 L.toArray rfl rfl (there_of (H4.out.1.kept (up0 _ _)) (by simpa using HLZ.out)) (by simpa using HLI.out) (all_oneCell_toArray HL1.out) ?_; (rw [List.toList_toArray])) | (refine wpList_store_mid rfl 25 (.tmp 1) (.tmp 9) rfl (w.heap.size + 1) 0 M.toArray rfl rfl (there_of ((H4.out.2.1.kept (up0 _ _)).others _ _ _ (by omega)) (by simpa using HMZ.out)) (by simpa using HMI.out) (all_oneCell_toArray HM1.out) ?_; (rw [List.toList_toArray])) | fail)
 have HN : Hid (LB (((W3.alloc (.cells #[.int .u8 105, .int .u8 110] 5 (2, 3))).setCells w.heap.size 0 L).setCells (w.heap.size + 1) 0 M) w.heap.size 37 L ∧ LB (((W3.alloc (.cells #[.int .u8 105, .int .u8 110] 5 (2, 3))).setCells w.heap.size 0 L).setCells (w.heap.size + 1) 0 M) (w.heap.size + 1) 25 M ∧ Bs (((W3.alloc (.cells #[.int .u8 105, .int .u8 110] 5 (2, 3))).setCells w.heap.size 0 L).setCells (w.heap.size + 1) 0 M) (.slice (some ⟨w.heap.size + 1 + 1, 0, none⟩) 2 2) [105, 110] ∧ Bs (((W3.alloc (.cells #[.int .u8 105, .int .u8 110] 5 (2, 3))).setCells w.heap.size 0 L).setCells (w.heap.size + 1) 0 M) (.slice (some ⟨W3.heap.size, 0, none⟩) 2 2) [105, 110] ∧ Below w.heap.size w (((W3.alloc (.cells #[.int .u8 105, .int .u8 110] 5 (2, 3))).setCells w.heap.size 0 L).setCells (w.heap.size + 1) 0 M)) := by
  obtain ⟨q1, q2, q3, q4, q5, q6⟩ := H4.out
  have hoff : ∀ (b g : Nat), b ≠ g → Off g (.slice (some ⟨b, 0, none⟩) 2 2) [105, 110] := fun b g hne _ b' off n cap e => by
   simp only [Value.slice.injEq, Option.some.injEq, Addr.mk.injEq] at e
   omega
  exact ⟨((q1.kept (up0 _ _)).sets L HLZ.out).others _ _ _ (by omega), ((q2.kept (up0 _ _)).others _ _ _ (by omega)).sets M HMZ.out, bs_off (bs_off (q4.alloc _) _ _ _ (hoff _ _ (by omega))) _ _ _ (hoff _ _ (by omega)), bs_off (bs_off (in_newM W3) _ _ _ (hoff _ _ (by omega))) _ _ _ (hoff _ _ (by omega)), below_cells (by omega) _ 0 _ (below_cells (Nat.le_refl _) _ 0 _ (up q6 _))⟩
 refine bodyPost_ret (results_cell_cell (p := 0) (q := 1) (ty := 37) (ty2 := 25) rfl _ (((W3.alloc (.cells #[.int .u8 105, .int .u8 110] 5 (2, 3))).setCells w.heap.size 0 L).setCells (w.heap.size + 1) 0 M) w.heap.size (w.heap.size + 1) L M _ _ rfl HN.out.1.range Tryz.underlying37 rfl HLI.out rfl HN.out.2.1.range Tryz.underlying25 rfl HMI.out) rfl ?_
 exact ⟨some ⟨w.heap.size + 1 + 1, 0, none⟩, 2, ⟨some ⟨W3.heap.size, 0, none⟩, 2, none, 0, none, 0, none, 0⟩, by rw [HL.out, HM.out]; rfl, HN.out.2.2.1, ⟨HN.out.2.2.2.1, ⟨none, 0, rfl, by simp [sg1], fun e => absurd rfl e⟩, ⟨none, 0, rfl, by simp [sg1], fun e => absurd rfl e⟩, Bs.nil _⟩, HN.out.2.2.2.2⟩
def OutT (B : Nat) (w : World) (v : Value) (ps : List (Rec × Value)) : Prop := w.ownsRow B 37 12 v ps.length (ps.flatMap rcl) ∧ ∀ p ∈ ps, Own B w p.2 p.1.l
theorem OutT.nil (B : Nat) (w : World) : OutT B w (.slice none 0 0) [] := ⟨World.ownsRow_nil _ _ _ _, fun _ h => by cases h⟩
theorem OutT.kept {B : Nat} {w w' : World} {v : Value} {ps : List (Rec × Value)} (h : OutT B w v ps) (hb : Below w.heap.size w w') : OutT B w' v ps := ⟨ownsRec_kept h.1 hb, fun p hp => (h.2 p hp).kept hb⟩
theorem rrow_typed {B : Nat} {w : World} {v : Value} {n : Nat} {cs : List Value} (h : w.ownsRow B 37 12 v n cs) (b : Nat) (e : v.ownBlock = some b) : ∃ cs z, w.heap[b]? = some (.cells cs 37 z) := by
 rcases h.2 with ⟨rfl, _⟩ | ⟨g', cap, cur, rfl, _, hg', _⟩
 ·simp [Value.ownBlock] at e
 ·simp [Value.ownBlock] at e
  subst e
  exact ⟨_, _, hg'⟩
theorem rrow_kept2 {B : Nat} {w w' : World} {v : Value} {n : Nat} {cs : List Value} (h : w.ownsRow B 37 12 v n cs) (hb : ∀ g, v.ownBlock = some g → w'.heap[g]? = w.heap[g]?) : w'.ownsRow B 37 12 v n cs := by
 refine ⟨h.1, ?_⟩
 rcases h.2 with h1 | ⟨g, cap, cur, rfl, h1, hg, rest⟩
 ·exact .inl h1
 ·exact .inr ⟨g, cap, cur, rfl, h1, (hb g rfl).trans hg, rest⟩
theorem own_typed {B : Nat} {w : World} {d : Value} {l : List Nat} (h : Own B w d l) (b : Nat) (e : d.ownBlock = some b) : ∃ cs z, w.heap[b]? = some (.cells cs 5 z) := by
 rcases h.row.2 with ⟨e3, _⟩ | ⟨g', cap, cur, e3, _, hg', _⟩
 ·rw [e3] at e; simp [Value.ownBlock] at e
 ·rw [e3] at e; simp [Value.ownBlock] at e; subst e; exact ⟨_, _, hg'⟩
def ExT (t : Nat) (w w' : World) : Prop := ∀ b, b ≠ t → b < w.heap.size → w'.heap[b]? = w.heap[b]?
theorem OutT.but {B : Nat} {w w' : World} {v : Value} {ps : List (Rec × Value)} {t : Nat} {ty : TypeId} {C : List Value} (h : OutT B w v ps) (L : LB w t ty C) (h1 : ty ≠ 37) (h2 : ty ≠ 5) (ho : ExT t w w') : OutT B w' v ps :=
 ⟨rrow_kept2 h.1 fun g e => ho g (by rintro rfl; obtain ⟨cs, z, h9⟩ := rrow_typed h.1 g e; rw [L] at h9; simp at h9; exact h1 h9.2.1) (World.ownsRow.lt h.1 g e).2,
  fun p hp => own_keptB (h.2 p hp) fun g e => ho g (by rintro rfl; obtain ⟨cs, z, h9⟩ := own_typed (h.2 p hp) g e; rw [L] at h9; simp at h9; exact h2 h9.2.1) (own_block (h.2 p hp) g e).2⟩
def Fr (t : Nat) (w w' : World) : Prop := ∀ b ty C, b ≠ t → ty ≠ 37 → LB w b ty C → LB w' b ty C
theorem Fr.trans {t : Nat} {w w' w'' : World} (h : Fr t w w') (h2 : Fr t w' w'') : Fr t w w'' := fun b ty C h1 h3 h4 => h2 b ty C h1 h3 (h b ty C h1 h3 h4)
theorem Fr.below {t : Nat} {w w' : World} (h : Below w.heap.size w w') : Fr t w w' := fun _ _ _ _ _ h4 => h4.kept h
theorem Fr.ext {t : Nat} {w w' : World} (h : ExT t w w') : Fr t w w' := fun b _ _ h1 _ h4 => (h b h1 h4.lt).trans h4
theorem step_append_rec {P : Program} {ops : Array Oper} {o : Oper} {a : Act} {w : World} {K : Act → World → Prop} {Q : Exit → Act → World → Prop} {E : Prop} (hgd : o.guard = none) (s x : Operand) (t : TypeId)
  (ho : o.op = .call { callee := .builtin .append, args := #[s, x], argTypes := #[t, t] })
  (B : Nat) (hinfo : (P.info? 37).map (fun i => (i.zero, i.size, i.bytes)) = some (some (.agg #[.int .i64 0, .int .i64 0, .int .i64 0, .int .i64 0, .int .i64 0, .int .i64 0, .int .i64 0, .int .i64 0, .int .i64 0, .int .i64 0, .string ⟨#[]⟩, .slice none 0 0]), 12, 120)) (ht : P.underlying t = some (.slice 37))
  (v : Value) (ps : List (Rec × Value)) (q : Rec × Value) (hv : a.eval s = v) (h : OutT B w v ps) (g : Nat) (hx : a.eval x = .slice (some ⟨g, 0, none⟩) 1 1)
  (hc : w.rangeAt g 0 (rcl q)) (hq2 : Own B w q.2 q.1.l)
  (hmax : (ps.length + 1) * 120 ≤ 140737488355328) (hB : B ≤ w.heap.size)
  (hK : ∀ v' w', OutT B w' v' (ps ++ [q]) → Below B w w' → w.grownBy w' v.ownBlock → K (a.put o.dst v') w') :
  if Region.wanted o (yielded ops a.tmps) = true then Oper.wp P o a w K Q else E := by
 have hw : Region.wanted o (yielded ops a.tmps) = true := by simp [Region.wanted, hgd]
 rw [if_pos hw]
 obtain ⟨i0, hi, hz0, hz1, hz2⟩ := Lft.info_parts3 hinfo
 have hq : q.2.oneCell' = true := by rcases hq2.shape with ⟨e, _⟩ | ⟨_, _, e, _⟩ <;> (rw [e]; rfl)
 obtain ⟨v', w', hrun, h2, h3, _⟩ := run_append_own (P := P) w B t o.type 37 i0 _ 12 120 ht hi hz0 hz1 hz2 rfl (by decide) v ps.length (ps.flatMap rcl) h.1 ⟨g, 0, none⟩ 1 1 (rcl q) rfl (by
  intro j u hj
  have := hc j u hj
  rw [Addr.add_lit]
  exact this) (by
  intro u hu
  simp only [rcl, List.mem_cons, List.not_mem_nil, or_false] at hu
  rcases hu with rfl | rfl | rfl | rfl | rfl | rfl | rfl | rfl | rfl | rfl | rfl | rfl
  all_goals first | rfl | exact hq) (by unfold maxLen; omega) (by omega) hB
 unfold Oper.wp
 simp [execOp, ho, resolve, invoke, builtin, hv, hx, hrun, Result.andThen]
 have hown : w'.ownsRow B 37 12 v' (ps ++ [q]).length ((ps ++ [q]).flatMap rcl) := by
  rw [List.length_append, List.flatMap_append]
  simpa using h2
 have hne : ∀ (d : Value) (l : List Nat), Own B w d l → Own B w' d l := fun d l hd => own_keptB hd fun b e => h3.block b (own_block hd b e).2 fun e2 => by
  obtain ⟨cs, z, h8⟩ := own_typed hd b e
  obtain ⟨cs', z', h9⟩ := rrow_typed h.1 b e2.symm
  rw [h8] at h9
  simp at h9
 refine hK v' w' ⟨hown, fun p hp => ?_⟩ ((Below.refl B w).grown h3 hB (fun k hk => (World.ownsRow.lt h.1 k hk).1)) h3
 rcases List.mem_append.1 hp with hp | hp
 ·exact hne _ _ (h.2 p hp)
 ·obtain rfl := List.mem_singleton.1 hp
  exact hne _ _ hq2
theorem size_set1 (w : World) (p : Addr) (v : Value) : (w.setCell p v).heap.size = w.heap.size := by simp [World.setCell]
def told (S : Sg) (r : Rec) : Rec := ⟨{ r.x with v := 3, s := S.x.id, a := S.x.la }, r.nm, r.l⟩
def TellPost (B t : Nat) (S : Sg) (h : SH) (ps : List (Rec × Value)) (q : Rec) (w : World) (e : Ending) (w' : World) : Prop := ∃ v' d', e = .returned (.tuple #[]) ∧ LB w' t 70 (scl S h ++ [v']) ∧ OutT B w' v' (ps ++ [(q, d')]) ∧ Below B w w' ∧ Fr t w w'
theorem tell_any (B t : Nat) (S : Sg) (h : SH) (v : Value) (ps : List (Rec × Value)) (r : Rec) (d : Value) (w : World) (L : LB w t 70 (scl S h ++ [v])) (O : OutT B w v ps) (hB : B ≤ t) (hd : Bs w d r.l) (hl : r.l.length ≤ 16384) (hn : ps.length ≤ 10000) :
  Calls Tryz.prog 35 #[.pointer (some ⟨t, 0, none⟩), rv r.x r.nm d] w fun e w' => TellPost B t S h ps (told S r) w e w' := by
 have hlt := L.lt
 have hin := infoR12
 have HIR : Hid ((Tryz.prog.info? 37).map (·.size) = some 12) := infoRec
 have hg : t ≠ w.heap.size := Nat.ne_of_lt L.lt
 have hg2 : w.heap.size ≠ t := Ne.symm hg
 obtain ⟨C, hC⟩ : ∃ C, scl S h ++ [v] = C := ⟨_, rfl⟩
 rw [hC] at L
 have HC : Hid (C = scl S h ++ [v]) := hC.symm
 have HRB : Hid (∀ g, v.ownBlock = some g → g < w.heap.size) := fun g e => (World.ownsRow.lt O.1 g e).2
 obtain ⟨av, nv, cv, rfl⟩ : ∃ a n c, v = .slice a n c := by rcases O.1.2 with ⟨e, _⟩ | ⟨_, _, _, e, _⟩ <;> exact ⟨_, _, _, e⟩
 obtain ⟨ad, cd, rfl, _⟩ := hd.shape
 have HCL : Hid (∀ w', Bs w' (.slice ad r.l.length cd) r.l → Calls Tryz.prog 47 #[.slice ad r.l.length cd] w' fun e w'' => ∃ a, ∃ c : Nat, e = .returned (.slice a r.l.length c) ∧ Own w'.heap.size w'' (.slice a r.l.length c) r.l ∧ Below w'.heap.size w' w'') := fun w' hb => (bclone_any _ r.l w' hb (by omega)).mono fun e w'' ⟨v, he, ho, hb'⟩ => by
  obtain ⟨a, c, rfl, _⟩ := ho.bs.shape
  exact ⟨a, c, he, ho, hb'⟩
 have HX : Hid (∀ o, o = #[.int .i64 r.x.v, .int .i64 r.x.k, .int .i64 r.x.s, .int .i64 r.x.p, .int .i64 r.x.t, .int .i64 r.x.a, .int .i64 r.x.l, .int .i64 r.x.c, .int .i64 r.x.n, .int .i64 r.x.i, .string r.nm, .slice ad r.l.length cd] → LB (w.alloc (.cells o 37)) t 70 C ∧ LB (w.alloc (.cells o 37)) w.heap.size 37 [.int .i64 r.x.v, .int .i64 r.x.k, .int .i64 r.x.s, .int .i64 r.x.p, .int .i64 r.x.t, .int .i64 r.x.a, .int .i64 r.x.l, .int .i64 r.x.c, .int .i64 r.x.n, .int .i64 r.x.i, .string r.nm, .slice ad r.l.length cd] ∧ Below w.heap.size w (w.alloc (.cells o 37))) := fun o e => by subst e; exact lb_rec w t 70 37 C [.int .i64 r.x.v, .int .i64 r.x.k, .int .i64 r.x.s, .int .i64 r.x.p, .int .i64 r.x.t, .int .i64 r.x.a, .int .i64 r.x.l, .int .i64 r.x.c, .int .i64 r.x.n, .int .i64 r.x.i, .string r.nm, .slice ad r.l.length cd] L
 have H0 : Hid (OutT B w (.slice av nv cv) ps ∧ Bs w (.slice ad r.l.length cd) r.l) := ⟨O, hd⟩
 clear hC L O hd
 unfold rv
 go_enter Tryz.func35, Tryz.ntmps35
 go_wp2
 have HX1 := HX.out _ rfl
 generalize w.alloc (.cells #[.int .i64 r.x.v, .int .i64 r.x.k, .int .i64 r.x.s, .int .i64 r.x.p, .int .i64 r.x.t, .int .i64 r.x.a, .int .i64 r.x.l, .int .i64 r.x.c, .int .i64 r.x.n, .int .i64 r.x.i, .string r.nm, .slice ad r.l.length cd] 37) = W1 at HX1 ⊢
 have HY : Hid _ := HX1
 clear HX HX1
 have c0 := HY.out.1.cell 0 (.int .i64 S.x.id) (by rw [HC.out]; rfl)
 have c5 := HY.out.1.cell 5 (.int .i64 S.x.la) (by rw [HC.out]; rfl)
 have r0 := HY.out.2.1.cell 0 (.int .i64 r.x.v) rfl
 have f0 := HY.out.2.1.free 0
 have r2 := HY.out.2.1.cell 2 (.int .i64 r.x.s) rfl
 have f2 := HY.out.2.1.free 2
 have r5 := HY.out.2.1.cell 5 (.int .i64 r.x.a) rfl
 have f5 := HY.out.2.1.free 5
 have HW : Hid (∃ W2, W2 = (((W1.setCell ⟨w.heap.size, 0, none⟩ (.int .i64 3)).setCell ⟨w.heap.size, 2, none⟩ (.int .i64 S.x.id)).setCell ⟨w.heap.size, 5, none⟩ (.int .i64 S.x.la)).drew ∧ LB W2 t 70 C ∧ LB W2 w.heap.size 37 [.int .i64 3, .int .i64 r.x.k, .int .i64 S.x.id, .int .i64 r.x.p, .int .i64 r.x.t, .int .i64 S.x.la, .int .i64 r.x.l, .int .i64 r.x.c, .int .i64 r.x.n, .int .i64 r.x.i, .string r.nm, .slice ad r.l.length cd] ∧ Below w.heap.size w W2) := ⟨_, rfl, (((HY.out.1.other _ _ hg).other _ _ hg).other _ _ hg).kept (Below.drew (Below.refl _ _)), (((HY.out.2.1.set 0 _).set 2 _).set 5 _).kept (Below.drew (Below.refl _ _)), Below.drew (Below.setCell (Below.setCell (Below.setCell HY.out.2.2 (Nat.le_refl _) _) (Nat.le_refl _) _) (Nat.le_refl _) _)⟩
 go_region
 obtain ⟨W2, hW2, hq⟩ := HW.out
 have H1 : Hid _ := hq
 rw [← hW2]
 clear hW2 hq HW HY c0 c5 r0 f0 r2 f2 r5 f5
 have r11 := H1.out.2.1.cell 11 (.slice ad r.l.length cd) rfl
 go_wp2_with fail
 refine (HCL.out _ (H0.out.2.kept H1.out.2.2)).mono ?_
 rintro e w3 ⟨a2, c2, rfl, ho, b3⟩
 have H2 : Hid (LB w3 t 70 C ∧ LB w3 w.heap.size 37 [.int .i64 3, .int .i64 r.x.k, .int .i64 S.x.id, .int .i64 r.x.p, .int .i64 r.x.t, .int .i64 S.x.la, .int .i64 r.x.l, .int .i64 r.x.c, .int .i64 r.x.n, .int .i64 r.x.i, .string r.nm, .slice ad r.l.length cd] ∧ Below w.heap.size w w3 ∧ Own W2.heap.size w3 (.slice a2 r.l.length c2) r.l ∧ w.heap.size < W2.heap.size) := ⟨H1.out.1.kept b3, H1.out.2.1.kept b3, andThen H1.out.2.2 b3, ho, H1.out.2.1.lt⟩
 clear ho b3 H1 r11 HCL
 have r11 := H2.out.2.1.cell 11 (.slice ad r.l.length cd) rfl
 have f11 := H2.out.2.1.free 11
 have HBW : Hid (B ≤ w.heap.size) := by show B ≤ _; omega
 have HV : Hid (∃ W4, W4 = w3.setCell ⟨w.heap.size, 11, none⟩ (.slice a2 r.l.length c2) ∧ (LB W4 t 70 C ∧ LB W4 w.heap.size 37 [.int .i64 3, .int .i64 r.x.k, .int .i64 S.x.id, .int .i64 r.x.p, .int .i64 r.x.t, .int .i64 S.x.la, .int .i64 r.x.l, .int .i64 r.x.c, .int .i64 r.x.n, .int .i64 r.x.i, .string r.nm, .slice a2 r.l.length c2] ∧ Below w.heap.size w W4 ∧ OutT B W4 (.slice av nv cv) ps ∧ Own B W4 (.slice a2 r.l.length c2) r.l ∧ w.heap.size < W4.heap.size)) := ⟨_, rfl, H2.out.1.other _ _ hg, H2.out.2.1.set 11 _, Below.setCell H2.out.2.2.1 (Nat.le_refl _) _, ⟨rrow_kept2 (H0.out.1.kept H2.out.2.2.1).1 (fun g e => set_other _ _ _ _ (Nat.ne_of_lt (HRB.out g e))), fun p hp => own_keptB ((H0.out.1.kept H2.out.2.2.1).2 p hp) (fun g e => set_other _ _ _ _ (Nat.ne_of_lt (own_block (H0.out.1.2 p hp) g e).2))⟩, own_weak (own_set H2.out.2.2.2.1 _ _ H2.out.2.2.2.2) (by have := HBW.out; have := H2.out.2.2.2.2; omega), by rw [size_set1]; exact H2.out.2.1.lt⟩
 have HKEEP : Hid (∀ W W' : World, (LB W t 70 C ∧ LB W w.heap.size 37 [.int .i64 3, .int .i64 r.x.k, .int .i64 S.x.id, .int .i64 r.x.p, .int .i64 r.x.t, .int .i64 S.x.la, .int .i64 r.x.l, .int .i64 r.x.c, .int .i64 r.x.n, .int .i64 r.x.i, .string r.nm, .slice a2 r.l.length c2] ∧ Below w.heap.size w W ∧ OutT B W (.slice av nv cv) ps ∧ Own B W (.slice a2 r.l.length c2) r.l ∧ w.heap.size < W.heap.size) → Below W.heap.size W W' → (LB W' t 70 C ∧ LB W' w.heap.size 37 [.int .i64 3, .int .i64 r.x.k, .int .i64 S.x.id, .int .i64 r.x.p, .int .i64 r.x.t, .int .i64 S.x.la, .int .i64 r.x.l, .int .i64 r.x.c, .int .i64 r.x.n, .int .i64 r.x.i, .string r.nm, .slice a2 r.l.length c2] ∧ Below w.heap.size w W' ∧ OutT B W' (.slice av nv cv) ps ∧ Own B W' (.slice a2 r.l.length c2) r.l ∧ w.heap.size < W'.heap.size)) := fun W W' H b9 => ⟨H.1.kept b9, H.2.1.kept b9, andThen H.2.2.1 b9, H.2.2.2.1.kept b9, H.2.2.2.2.1.kept b9, Nat.lt_of_lt_of_le H.2.2.2.2.2 b9.size⟩
 have HFIN : Hid (∀ (W W' : World) (v' : Value), (LB W t 70 C ∧ LB W w.heap.size 37 [.int .i64 3, .int .i64 r.x.k, .int .i64 S.x.id, .int .i64 r.x.p, .int .i64 r.x.t, .int .i64 S.x.la, .int .i64 r.x.l, .int .i64 r.x.c, .int .i64 r.x.n, .int .i64 r.x.i, .string r.nm, .slice a2 r.l.length c2] ∧ Below w.heap.size w W ∧ OutT B W (.slice av nv cv) ps ∧ Own B W (.slice a2 r.l.length c2) r.l ∧ w.heap.size < W.heap.size) → OutT B W' v' (ps ++ [(told S r, .slice a2 r.l.length c2)]) → Below B W W' → W.grownBy W' (Value.slice av nv cv).ownBlock → TellPost B t S h ps (told S r) w (.returned (.tuple #[])) (W'.setCell ⟨t, 16, none⟩ v')) := by
  intro W W' v' H hrow hb' hgr
  have hrg : (Value.slice av nv cv).ownBlock ≠ some t := fun e => by obtain ⟨cs, z, h9⟩ := rrow_typed H.2.2.2.1.1 t e; rw [H.1] at h9; simp at h9
  have hLt : LB W' t 70 C := (hgr.block t H.1.lt (Ne.symm hrg)).trans H.1
  have hx : ExT t W' (W'.setCell ⟨t, 16, none⟩ v') := fun b hb _ => set_other _ _ _ _ hb
  refine ⟨v', _, rfl, ?_, hrow.but hLt (by decide) (by decide) hx, ?_, ?_⟩
  ·have e := hLt.set 16 v'
   rw [HC.out] at e
   exact e
  ·exact Below.setCell ((H.2.2.1.mono HBW.out).trans hb') hB _
  ·intro b ty C' hbt hty hL
   have h1 : LB W b ty C' := hL.kept H.2.2.1
   have h2 : LB W' b ty C' := (hgr.block b h1.lt (fun e => by
    obtain ⟨cs, z, h9⟩ := rrow_typed H.2.2.2.1.1 b e.symm
    rw [h1] at h9
    simp at h9
    exact hty h9.2.1)).trans h1
   exact h2.other _ _ hbt
 go_wp2_with fail
 obtain ⟨W4, hW4, hq⟩ := HV.out
 have H3 : Hid _ := hq
 rw [← hW4]
 clear hW4 hq HV H2 r11 f11 H0
 refine wp_region_held_drew (S := fun w' : World => w'.rangeAt w.heap.size 0 [.int .i64 3, .int .i64 r.x.k, .int .i64 S.x.id, .int .i64 r.x.p, .int .i64 r.x.t, .int .i64 S.x.la, .int .i64 r.x.l, .int .i64 r.x.c, .int .i64 r.x.n, .int .i64 r.x.i, .string r.nm, .slice a2 r.l.length c2]) (by kernel_rfl) (H3.out.2.1.kept (Below.drew (Below.refl _ _))).range (fun hH => ?_)
 have H4 : Hid (LB W4.drew t 70 C ∧ LB W4.drew w.heap.size 37 [.int .i64 3, .int .i64 r.x.k, .int .i64 S.x.id, .int .i64 r.x.p, .int .i64 r.x.t, .int .i64 S.x.la, .int .i64 r.x.l, .int .i64 r.x.c, .int .i64 r.x.n, .int .i64 r.x.i, .string r.nm, .slice a2 r.l.length c2] ∧ Below w.heap.size w W4.drew ∧ OutT B W4.drew (.slice av nv cv) ps ∧ Own B W4.drew (.slice a2 r.l.length c2) r.l ∧ w.heap.size < W4.drew.heap.size) := HKEEP.out _ _ H3.out (Below.drew (Below.refl _ _))
 clear H3
 generalize W4.drew = W5 at *
 have c16 := H4.out.1.cell 16 (.slice av nv cv) (by rw [HC.out]; rfl)
 refine zqk 0 rfl hH ?_
 simp only [zq]
 refine zqk 1 rfl hH ?_
 simp only [zq]
 refine zqk 2 rfl hH ?_
 simp only [zq]
 refine zqk 3 rfl hH ?_
 simp only [zq]
 refine zql 5 rfl (yieldsIf_load_mid (by rfl) _ _ rfl _ _ rfl [.int .i64 3, .int .i64 r.x.k, .int .i64 S.x.id, .int .i64 r.x.p, .int .i64 r.x.t, .int .i64 S.x.la, .int .i64 r.x.l, .int .i64 r.x.c, .int .i64 r.x.n, .int .i64 r.x.i, .string r.nm, .slice a2 r.l.length c2] _ (fun w' hSw => hSw) Tryz.underlying37 rfl HIR.out) hH ?_
 simp only [zq]
 refine wpAnyH_ready (rs := [4, 6]) (by kernel_rfl) (by simp) ?_
 refine AllReadyH.cons rfl (fun K hK => ?_) ?_
 ·skip
  go_simp
  refine hK.out _ _ H4.out.2.1.range (fun hH2 => ?_)
  clear hK K hH
  have hH := hH2
  clear hH2
  refine zqr 6 rfl (fun K hK => ?_)
  go_simp
  have H6 : Hid (LB (W5.alloc (.cells #[.int .i64 3, .int .i64 r.x.k, .int .i64 S.x.id, .int .i64 r.x.p, .int .i64 r.x.t, .int .i64 S.x.la, .int .i64 r.x.l, .int .i64 r.x.c, .int .i64 r.x.n, .int .i64 r.x.i, .string r.nm, .slice a2 r.l.length c2] 37)) t 70 C ∧ LB (W5.alloc (.cells #[.int .i64 3, .int .i64 r.x.k, .int .i64 S.x.id, .int .i64 r.x.p, .int .i64 r.x.t, .int .i64 S.x.la, .int .i64 r.x.l, .int .i64 r.x.c, .int .i64 r.x.n, .int .i64 r.x.i, .string r.nm, .slice a2 r.l.length c2] 37)) w.heap.size 37 [.int .i64 3, .int .i64 r.x.k, .int .i64 S.x.id, .int .i64 r.x.p, .int .i64 r.x.t, .int .i64 S.x.la, .int .i64 r.x.l, .int .i64 r.x.c, .int .i64 r.x.n, .int .i64 r.x.i, .string r.nm, .slice a2 r.l.length c2] ∧ Below w.heap.size w (W5.alloc (.cells #[.int .i64 3, .int .i64 r.x.k, .int .i64 S.x.id, .int .i64 r.x.p, .int .i64 r.x.t, .int .i64 S.x.la, .int .i64 r.x.l, .int .i64 r.x.c, .int .i64 r.x.n, .int .i64 r.x.i, .string r.nm, .slice a2 r.l.length c2] 37)) ∧ OutT B (W5.alloc (.cells #[.int .i64 3, .int .i64 r.x.k, .int .i64 S.x.id, .int .i64 r.x.p, .int .i64 r.x.t, .int .i64 S.x.la, .int .i64 r.x.l, .int .i64 r.x.c, .int .i64 r.x.n, .int .i64 r.x.i, .string r.nm, .slice a2 r.l.length c2] 37)) (.slice av nv cv) ps ∧ Own B (W5.alloc (.cells #[.int .i64 3, .int .i64 r.x.k, .int .i64 S.x.id, .int .i64 r.x.p, .int .i64 r.x.t, .int .i64 S.x.la, .int .i64 r.x.l, .int .i64 r.x.c, .int .i64 r.x.n, .int .i64 r.x.i, .string r.nm, .slice a2 r.l.length c2] 37)) (.slice a2 r.l.length c2) r.l ∧ w.heap.size < (W5.alloc (.cells #[.int .i64 3, .int .i64 r.x.k, .int .i64 S.x.id, .int .i64 r.x.p, .int .i64 r.x.t, .int .i64 S.x.la, .int .i64 r.x.l, .int .i64 r.x.c, .int .i64 r.x.n, .int .i64 r.x.i, .string r.nm, .slice a2 r.l.length c2] 37)).heap.size) := HKEEP.out _ _ H4.out (up0 _ _)
  refine hK.out _ _ H6.out.2.1.range (fun hH2 => ?_)
  clear hK K hH
  have hH := hH2
  clear hH2
  have HCE : Hid ((W5.alloc (.cells #[.int .i64 3, .int .i64 r.x.k, .int .i64 S.x.id, .int .i64 r.x.p, .int .i64 r.x.t, .int .i64 S.x.la, .int .i64 r.x.l, .int .i64 r.x.c, .int .i64 r.x.n, .int .i64 r.x.i, .string r.nm, .slice a2 r.l.length c2] 37)).rangeAt W5.heap.size 0 (rcl (told S r, .slice a2 r.l.length c2))) := (lb_new W5 [.int .i64 3, .int .i64 r.x.k, .int .i64 S.x.id, .int .i64 r.x.p, .int .i64 r.x.t, .int .i64 S.x.la, .int .i64 r.x.l, .int .i64 r.x.c, .int .i64 r.x.n, .int .i64 r.x.i, .string r.nm, .slice a2 r.l.length c2] 37).range
  refine zqr 7 rfl (fun K hK => ?_)
  refine step_append_rec rfl (.tmp 25) (.tmp 27) 29 rfl B hin Tryz.underlying29 (.slice av nv cv) ps (told S r, .slice a2 r.l.length c2) rfl H6.out.2.2.2.1 W5.heap.size rfl HCE.out H6.out.2.2.2.2.1 (by omega) (by have := H6.out.2.2.2.2.2; have := HBW.out; omega) ?_
  intro v' w' hrow hb' hgr
  have HF : Hid _ := HFIN.out _ _ _ H6.out hrow hb' hgr
  have hrg : (Value.slice av nv cv).ownBlock ≠ some t := fun e => by obtain ⟨cs, z, h9⟩ := rrow_typed H6.out.2.2.2.1.1 t e; rw [H6.out.1] at h9; simp at h9
  have hLt : LB w' t 70 C := (hgr.block t H6.out.1.lt (Ne.symm hrg)).trans H6.out.1
  have hLx : LB w' w.heap.size 37 [.int .i64 3, .int .i64 r.x.k, .int .i64 S.x.id, .int .i64 r.x.p, .int .i64 r.x.t, .int .i64 S.x.la, .int .i64 r.x.l, .int .i64 r.x.c, .int .i64 r.x.n, .int .i64 r.x.i, .string r.nm, .slice a2 r.l.length c2] := (hgr.block _ H6.out.2.1.lt (fun e => Nat.lt_irrefl _ (HRB.out _ e.symm))).trans H6.out.2.1
  have HLX : Hid (LB (w'.setCell ⟨t, 16, none⟩ v') w.heap.size 37 [.int .i64 3, .int .i64 r.x.k, .int .i64 S.x.id, .int .i64 r.x.p, .int .i64 r.x.t, .int .i64 S.x.la, .int .i64 r.x.l, .int .i64 r.x.c, .int .i64 r.x.n, .int .i64 r.x.i, .string r.nm, .slice a2 r.l.length c2]) := hLx.other _ _ hg2
  have cg := hLt.cell 16 (.slice av nv cv) (by rw [HC.out]; rfl)
  have fg := hLt.free 16
  obtain ⟨a9, n9, c9, e9⟩ : ∃ a n c, v' = .slice a n c := by rcases hrow.1.2 with ⟨e, _⟩ | ⟨_, _, _, e, _⟩ <;> exact ⟨_, _, _, e⟩
  subst e9
  refine hK.out _ _ hLx.range (fun hH2 => ?_)
  clear hK K hH
  have hH := hH2
  clear hH2
  clear hrow hb' hgr hrg hLt hLx H4 H6 c16 HKEEP HFIN
  simp only [zq]
  refine zqk 8 rfl hH ?_
  simp only [zq]
  refine zqk 9 rfl hH ?_
  simp only [zq]
  refine zqr 10 rfl (fun K hK => ?_)
  go_simp
  refine hK.out _ _ HLX.out.range (fun hH2 => ?_)
  clear hK K hH
  have hH := hH2
  clear hH2
  refine wpAnyH_done (by kernel_rfl) ?_ _
  go_wp2
  go_end0
  obtain ⟨v9, d9, _, q1, q2, q3, q4⟩ := HF.out
  exact ⟨v9, d9, rfl, q1, q2, q3, q4⟩
 ·refine AllReadyH.cons rfl (fun K hK => ?_) AllReadyH.nil
  go_simp
  have H6 : Hid (LB (W5.alloc (.cells #[.int .i64 3, .int .i64 r.x.k, .int .i64 S.x.id, .int .i64 r.x.p, .int .i64 r.x.t, .int .i64 S.x.la, .int .i64 r.x.l, .int .i64 r.x.c, .int .i64 r.x.n, .int .i64 r.x.i, .string r.nm, .slice a2 r.l.length c2] 37)) t 70 C ∧ LB (W5.alloc (.cells #[.int .i64 3, .int .i64 r.x.k, .int .i64 S.x.id, .int .i64 r.x.p, .int .i64 r.x.t, .int .i64 S.x.la, .int .i64 r.x.l, .int .i64 r.x.c, .int .i64 r.x.n, .int .i64 r.x.i, .string r.nm, .slice a2 r.l.length c2] 37)) w.heap.size 37 [.int .i64 3, .int .i64 r.x.k, .int .i64 S.x.id, .int .i64 r.x.p, .int .i64 r.x.t, .int .i64 S.x.la, .int .i64 r.x.l, .int .i64 r.x.c, .int .i64 r.x.n, .int .i64 r.x.i, .string r.nm, .slice a2 r.l.length c2] ∧ Below w.heap.size w (W5.alloc (.cells #[.int .i64 3, .int .i64 r.x.k, .int .i64 S.x.id, .int .i64 r.x.p, .int .i64 r.x.t, .int .i64 S.x.la, .int .i64 r.x.l, .int .i64 r.x.c, .int .i64 r.x.n, .int .i64 r.x.i, .string r.nm, .slice a2 r.l.length c2] 37)) ∧ OutT B (W5.alloc (.cells #[.int .i64 3, .int .i64 r.x.k, .int .i64 S.x.id, .int .i64 r.x.p, .int .i64 r.x.t, .int .i64 S.x.la, .int .i64 r.x.l, .int .i64 r.x.c, .int .i64 r.x.n, .int .i64 r.x.i, .string r.nm, .slice a2 r.l.length c2] 37)) (.slice av nv cv) ps ∧ Own B (W5.alloc (.cells #[.int .i64 3, .int .i64 r.x.k, .int .i64 S.x.id, .int .i64 r.x.p, .int .i64 r.x.t, .int .i64 S.x.la, .int .i64 r.x.l, .int .i64 r.x.c, .int .i64 r.x.n, .int .i64 r.x.i, .string r.nm, .slice a2 r.l.length c2] 37)) (.slice a2 r.l.length c2) r.l ∧ w.heap.size < (W5.alloc (.cells #[.int .i64 3, .int .i64 r.x.k, .int .i64 S.x.id, .int .i64 r.x.p, .int .i64 r.x.t, .int .i64 S.x.la, .int .i64 r.x.l, .int .i64 r.x.c, .int .i64 r.x.n, .int .i64 r.x.i, .string r.nm, .slice a2 r.l.length c2] 37)).heap.size) := HKEEP.out _ _ H4.out (up0 _ _)
  refine hK.out _ _ H6.out.2.1.range (fun hH2 => ?_)
  clear hK K hH
  have hH := hH2
  clear hH2
  refine zqr 4 rfl (fun K hK => ?_)
  have c16b := H6.out.1.cell 16 (.slice av nv cv) (by rw [HC.out]; rfl)
  go_simp
  refine hK.out _ _ H6.out.2.1.range (fun hH2 => ?_)
  clear hK K hH
  have hH := hH2
  clear hH2
  have HCE : Hid ((W5.alloc (.cells #[.int .i64 3, .int .i64 r.x.k, .int .i64 S.x.id, .int .i64 r.x.p, .int .i64 r.x.t, .int .i64 S.x.la, .int .i64 r.x.l, .int .i64 r.x.c, .int .i64 r.x.n, .int .i64 r.x.i, .string r.nm, .slice a2 r.l.length c2] 37)).rangeAt W5.heap.size 0 (rcl (told S r, .slice a2 r.l.length c2))) := (lb_new W5 [.int .i64 3, .int .i64 r.x.k, .int .i64 S.x.id, .int .i64 r.x.p, .int .i64 r.x.t, .int .i64 S.x.la, .int .i64 r.x.l, .int .i64 r.x.c, .int .i64 r.x.n, .int .i64 r.x.i, .string r.nm, .slice a2 r.l.length c2] 37).range
  refine zqr 7 rfl (fun K hK => ?_)
  refine step_append_rec rfl (.tmp 25) (.tmp 27) 29 rfl B hin Tryz.underlying29 (.slice av nv cv) ps (told S r, .slice a2 r.l.length c2) rfl H6.out.2.2.2.1 W5.heap.size rfl HCE.out H6.out.2.2.2.2.1 (by omega) (by have := H6.out.2.2.2.2.2; have := HBW.out; omega) ?_
  intro v' w' hrow hb' hgr
  have HF : Hid _ := HFIN.out _ _ _ H6.out hrow hb' hgr
  have hrg : (Value.slice av nv cv).ownBlock ≠ some t := fun e => by obtain ⟨cs, z, h9⟩ := rrow_typed H6.out.2.2.2.1.1 t e; rw [H6.out.1] at h9; simp at h9
  have hLt : LB w' t 70 C := (hgr.block t H6.out.1.lt (Ne.symm hrg)).trans H6.out.1
  have hLx : LB w' w.heap.size 37 [.int .i64 3, .int .i64 r.x.k, .int .i64 S.x.id, .int .i64 r.x.p, .int .i64 r.x.t, .int .i64 S.x.la, .int .i64 r.x.l, .int .i64 r.x.c, .int .i64 r.x.n, .int .i64 r.x.i, .string r.nm, .slice a2 r.l.length c2] := (hgr.block _ H6.out.2.1.lt (fun e => Nat.lt_irrefl _ (HRB.out _ e.symm))).trans H6.out.2.1
  have HLX : Hid (LB (w'.setCell ⟨t, 16, none⟩ v') w.heap.size 37 [.int .i64 3, .int .i64 r.x.k, .int .i64 S.x.id, .int .i64 r.x.p, .int .i64 r.x.t, .int .i64 S.x.la, .int .i64 r.x.l, .int .i64 r.x.c, .int .i64 r.x.n, .int .i64 r.x.i, .string r.nm, .slice a2 r.l.length c2]) := hLx.other _ _ hg2
  have cg := hLt.cell 16 (.slice av nv cv) (by rw [HC.out]; rfl)
  have fg := hLt.free 16
  obtain ⟨a9, n9, c9, e9⟩ : ∃ a n c, v' = .slice a n c := by rcases hrow.1.2 with ⟨e, _⟩ | ⟨_, _, _, e, _⟩ <;> exact ⟨_, _, _, e⟩
  subst e9
  refine hK.out _ _ hLx.range (fun hH2 => ?_)
  clear hK K hH
  have hH := hH2
  clear hH2
  clear hrow hb' hgr hrg hLt hLx H4 H6 c16 HKEEP HFIN
  simp only [zq]
  refine zqk 8 rfl hH ?_
  simp only [zq]
  refine zqk 9 rfl hH ?_
  simp only [zq]
  refine zqr 10 rfl (fun K hK => ?_)
  go_simp
  refine hK.out _ _ HLX.out.range (fun hH2 => ?_)
  clear hK K hH
  have hH := hH2
  clear hH2
  refine wpAnyH_done (by kernel_rfl) ?_ _
  go_wp2
  go_end0
  obtain ⟨v9, d9, _, q1, q2, q3, q4⟩ := HF.out
  exact ⟨v9, d9, rfl, q1, q2, q3, q4⟩
def TS (B t : Nat) (S : Sg) (h : SH) (rs : List Rec) (w : World) : Prop := ∃ v ps, LB w t 70 (scl S h ++ [v]) ∧ OutT B w v ps ∧ ps.map Prod.fst = rs
theorem TS.kept {B t : Nat} {S : Sg} {h : SH} {rs : List Rec} {w w' : World} (k : TS B t S h rs w) (hb : Below w.heap.size w w') : TS B t S h rs w' := by
 obtain ⟨v, ps, h1, h2, h3⟩ := k
 exact ⟨v, ps, h1.kept hb, h2.kept hb, h3⟩
theorem TS.lt {B t : Nat} {S : Sg} {h : SH} {rs : List Rec} {w : World} (k : TS B t S h rs w) : t < w.heap.size := by
 obtain ⟨v, ps, h1, h2, h3⟩ := k
 exact h1.lt
theorem TS.range {B t : Nat} {S : Sg} {h : SH} {rs : List Rec} {w : World} (k : TS B t S h rs w) : w.rangeAt t 0 (scl S h) := by
 obtain ⟨v, ps, h1, h2, h3⟩ := k
 intro j u hu
 have hj : j < (scl S h).length := (List.getElem?_eq_some_iff.1 hu).1
 exact h1.range j u (by rw [List.getElem?_append_left hj]; exact hu)
theorem TS.cell {B t : Nat} {S : Sg} {h : SH} {rs : List Rec} {w : World} (k : TS B t S h rs w) (j : Nat) (u : Value) (hu : (scl S h)[j]? = some u) : w.cell? ⟨t, j, none⟩ = some u := by
 have := k.range j u hu
 rwa [Nat.zero_add] at this
def TP (B t : Nat) (S : Sg) (h : SH) (rs : List Rec) (w : World) (e : Ending) (w' : World) : Prop := e = .returned (.tuple #[]) ∧ TS B t S h rs w' ∧ Below B w w' ∧ Fr t w w'
theorem tell_T (B t : Nat) (S : Sg) (h : SH) (rs : List Rec) (r : Rec) (d : Value) (w : World) (k : TS B t S h rs w) (hB : B ≤ t) (hd : Bs w d r.l) (hl : r.l.length ≤ 16384) (hn : rs.length ≤ 10000) :
  Calls Tryz.prog 35 #[.pointer (some ⟨t, 0, none⟩), rv r.x r.nm d] w fun e w' => TP B t S h (rs ++ [told S r]) w e w' := by
 obtain ⟨v, ps, h1, h2, rfl⟩ := k
 refine (tell_any B t S h v ps r d w h1 h2 hB hd hl (by simpa using hn)).mono ?_
 rintro e w' ⟨v', d', he, q1, q2, q3, q4⟩
 exact ⟨he, ⟨v', _, q1, q2, by simp⟩, q3, q4⟩
theorem box1 (w : World) (t : TypeId) (Z D : List Value) (hl : D.length = Z.length) : LB ((w.alloc (.cells Z.toArray t)).setCells w.heap.size 0 D) w.heap.size t D ∧ Below w.heap.size w ((w.alloc (.cells Z.toArray t)).setCells w.heap.size 0 D) := ⟨(lb_new w Z t).sets D hl, below_cells (Nat.le_refl _) _ 0 _ (up0 _ _)⟩
theorem tbegin_any (B t : Nat) (S : Sg) (h : SH) (w : World) (k : TS B t S h [] w) (hB : B ≤ t) (hd : Bs w (.slice h.ai S.inp.length h.ci) S.inp) (hl : S.inp.length ≤ 16384) :
  Calls Tryz.prog 34 #[.pointer (some ⟨t, 0, none⟩)] w fun e w' => TP B t S h [stB S] w e w' := by
 have HTE : Hid (∀ w', TS B t S h [] w' → Bs w' (.slice h.ai S.inp.length h.ci) S.inp → Calls Tryz.prog 35 #[.pointer (some ⟨t, 0, none⟩), .agg #[.int .i64 0, .int .i64 1, .int .i64 0, .int .i64 0, .int .i64 0, .int .i64 0, .int .i64 0, .int .i64 0, .int .i64 S.x.cnt, .int .i64 S.x.piv, .string S.nm, .slice h.ai S.inp.length h.ci]] w' fun e w'' => ∃ v' d', e = .returned (.tuple #[]) ∧ LB w'' t 70 (scl S h ++ [v']) ∧ OutT B w'' v' [(⟨⟨3, 1, S.x.id, 0, 0, S.x.la, 0, 0, S.x.cnt, S.x.piv⟩, S.nm, S.inp⟩, d')] ∧ Below B w' w'' ∧ Fr t w' w'') := fun w' k' hb => by
  obtain ⟨v, ps, h1, h2, h3⟩ := k'
  obtain rfl : ps = [] := by simpa using h3
  exact tell_any B t S h v [] ⟨⟨0, 1, 0, 0, 0, 0, 0, 0, S.x.cnt, S.x.piv⟩, S.nm, S.inp⟩ _ w' h1 h2 hB hb hl (by simp)
 obtain ⟨Z, hZ⟩ : ∃ Z, Z = zcl := ⟨_, rfl⟩
 have HZ : Hid (Z = zcl) := hZ
 obtain ⟨D, hD, hL, hE⟩ := sv_letter S h
 have HL : Hid _ := hL
 have HE : Hid (D = scl S h) := hE
 have HR : Hid (w.rangeAt t 0 D) := by show w.rangeAt t 0 D; rw [hE]; exact k.range
 have H1 : Hid (∀ v ∈ D, v.oneCell' = true) := by show ∀ v ∈ D, _; rw [hE]; exact scl_one _ _
 have HDZ : Hid (D.length = Z.length) := by show _ = _; rw [hE, hZ]; rfl
 have HT1 : Hid ((w.alloc (.cells Z.toArray 25)).there w.heap.size 0 D.toArray.size) := there_of (lb_new w Z _) (by simpa using HDZ.out)
 have H2 : Hid (∃ W2, W2 = (w.alloc (.cells Z.toArray 25)).setCells w.heap.size 0 D ∧ LB W2 w.heap.size 25 D ∧ TS B t S h [] W2 ∧ Bs W2 (.slice h.ai S.inp.length h.ci) S.inp ∧ Below w.heap.size w W2) := by
  obtain ⟨q1, q2⟩ := box1 w 25 Z D HDZ.out
  exact ⟨_, rfl, q1, k.kept q2, hd.kept q2, q2⟩
 have hlt : t < w.heap.size := k.lt
 have hne : w.heap.size ≠ t := by omega
 have HLT : Hid (t < w.heap.size) := hlt
 clear k hd hD hL hE hZ
 go_enter Tryz.func34, Tryz.ntmps34
 go_wp2_with (first | (refine wpList_load_mid rfl 25 _ rfl t 0 rfl D _ HR.out Tryz.underlying25 rfl HL.out ?_) | (refine wpList_alloc_Z HZ.out rfl rfl ?_) | (refine wpList_store_mid rfl 25 (.tmp 2) (.tmp 6) rfl w.heap.size 0 D.toArray rfl rfl HT1.out (by simpa using HL.out) (all_oneCell_toArray H1.out) ?_; (obtain ⟨W2, hW2, hq⟩ := H2.out); (have H3 : Hid _ := hq); (rw [List.toList_toArray, ← hW2]); (clear hW2 hq H2 HT1); (have c1 := H3.out.1.cell 1 (.string S.nm) (by rw [HE.out]; rfl)); (have c2 := H3.out.1.cell 2 (.int .i64 S.x.cnt) (by rw [HE.out]; rfl)); (have c3 := H3.out.1.cell 3 (.int .i64 S.x.piv) (by rw [HE.out]; rfl)); (have c6 := H3.out.1.cell 6 (.slice h.ai S.inp.length h.ci) (by rw [HE.out]; rfl))) | fail)
 refine (HTE.out _ H3.out.2.1 H3.out.2.2.1).mono ?_
 rintro e w1 ⟨v1, d1, rfl, l1, o1, b1, f1⟩
 obtain ⟨g, cap, rfl⟩ : ∃ g cap, v1 = .slice (some ⟨g, 0, none⟩) 1 cap := by
  rcases o1.1.2 with ⟨_, e⟩ | ⟨g, cap, _, e, _⟩
  ·simp at e
  ·exact ⟨g, cap, e⟩
 have hbl : Below B w w1 := (H3.out.2.2.2.mono (by omega)).trans b1
 have hfr : Fr t w w1 := (Fr.below H3.out.2.2.2).trans f1
 have HB4 : Hid (LB w1 w.heap.size 25 D) := f1 _ _ _ hne (by decide) H3.out.1
 have hgB : B ≤ g := (World.ownsRow.lt o1.1 g rfl).1
 have hgt : g ≠ t := fun e => by obtain ⟨cs, z, h9⟩ := rrow_typed o1.1 g rfl; rw [e, l1] at h9; simp at h9
 obtain ⟨hst, hgr⟩ := o1.1.stored 5 (.int .i64 S.x.beg)
 have HFIN : Hid (TP B t S h [stB S] w (.returned (.tuple #[])) (w1.setCell ⟨g, 5, none⟩ (.int .i64 S.x.beg)).drew) := by
  refine ⟨rfl, ⟨.slice (some ⟨g, 0, none⟩) 1 cap, [(stB S, d1)], ?_, ⟨?_, ?_⟩, rfl⟩, ?_, ?_⟩
  ·exact (l1.other _ _ (Ne.symm hgt)).kept (Below.drew (Below.refl _ _))
  ·exact World.ownsRow.drew hst
  ·intro p hp
   obtain rfl := List.mem_singleton.1 hp
   have h1 := o1.2 _ (List.mem_singleton.2 rfl)
   refine (own_keptB h1 fun b e => set_other _ _ _ _ ?_).kept (Below.drew (Below.refl _ _))
   rintro rfl
   obtain ⟨cs, z, h8⟩ := own_typed h1 b e
   obtain ⟨cs', z', h9⟩ := rrow_typed o1.1 b rfl
   rw [h8] at h9
   simp at h9
  ·exact Below.drew (Below.setCell hbl hgB _)
  ·intro b ty C hbt hty hL
   have h1 := hfr b ty C hbt hty hL
   refine (h1.other _ _ ?_).kept (Below.drew (Below.refl _ _))
   rintro rfl
   obtain ⟨cs, z, h9⟩ := rrow_typed o1.1 b rfl
   rw [h1] at h9
   simp at h9
   exact hty h9.2.1
 have c16 := l1.cell 16 (.slice (some ⟨g, 0, none⟩) 1 cap) rfl
 have c4 := HB4.out.cell 4 (.int .i64 S.x.beg) (by rw [HE.out]; rfl)
 have g5 := o1.1.cellAt 5 (by decide)
 rw [show ([((⟨⟨3, 1, S.x.id, 0, 0, S.x.la, 0, 0, S.x.cnt, S.x.piv⟩, S.nm, S.inp⟩ : Rec), d1)].flatMap rcl)[5]? = some (.int .i64 S.x.la) from rfl] at g5
 have fg := o1.1.frozenAt 5
 clear c1 c2 c3 c6 H3 HTE hbl hfr hst hgr l1 o1 b1 f1
 go_wp2
 go_region
 go_wp2
 go_end0
 exact HFIN.out
theorem tfail_any (B t : Nat) (S : Sg) (h : SH) (rs : List Rec) (w : World) (k : TS B t S h rs w) (hB : B ≤ t) (w0 : World) (hB0 : B = w0.heap.size) (hA : SgAt w0 S h) (hb0 : Below B w0 w) (hf : S.fail.length ≤ 16384) (hu : shortP S.und = true) (hul : S.und.length ≤ 32) (hfs : 0 ≤ S.x.fs ∧ S.x.fs ≤ 32) (hfw : S.x.fwd = false) (hn : rs.length ≤ 5000) :
  Calls Tryz.prog 37 #[.pointer (some ⟨t, 0, none⟩)] w fun e w' => TP B t S h (rs ++ failL S) w e w' := by
 have HT1 : Hid (∀ (rs' : List Rec) (w' : World), TS B t S h rs' w' → rs'.length ≤ 10000 → Calls Tryz.prog 35 #[.pointer (some ⟨t, 0, none⟩), .agg #[.int .i64 0, .int .i64 2, .int .i64 0, .int .i64 S.x.fs, .int .i64 1, .int .i64 0, .int .i64 0, .int .i64 0, .int .i64 0, .int .i64 0, .string ⟨#[]⟩, .slice none 0 0]] w' fun e w'' => TP B t S h (rs' ++ [stR S 2 S.x.fs 1 0 0 []]) w' e w'') := fun rs' w' k' hn' => tell_T B t S h rs' ⟨⟨0, 2, 0, S.x.fs, 1, 0, 0, 0, 0, 0⟩, ⟨#[]⟩, []⟩ _ w' k' hB (Bs.nil _) (by simp) hn'
 have HT2 : Hid (∀ (rs' : List Rec) (w' : World), TS B t S h rs' w' → rs'.length ≤ 10000 → Bs w' (.slice h.af S.fail.length h.cf) S.fail → S.fail.length ≤ 16384 → Calls Tryz.prog 35 #[.pointer (some ⟨t, 0, none⟩), .agg #[.int .i64 0, .int .i64 4, .int .i64 0, .int .i64 S.x.fs, .int .i64 0, .int .i64 0, .int .i64 1, .int .i64 S.x.fc, .int .i64 0, .int .i64 0, .string ⟨#[]⟩, .slice h.af S.fail.length h.cf]] w' fun e w'' => TP B t S h (rs' ++ [stR S 4 S.x.fs 0 1 S.x.fc S.fail]) w' e w'') := fun rs' w' k' hn' hb hl => tell_T B t S h rs' ⟨⟨0, 4, 0, S.x.fs, 0, 0, 1, S.x.fc, 0, 0⟩, ⟨#[]⟩, S.fail⟩ _ w' k' hB hb hl hn'
 have HT3 : Hid (∀ (p : Int) (rs' : List Rec) (w' : World), TS B t S h rs' w' → rs'.length ≤ 10000 → Calls Tryz.prog 35 #[.pointer (some ⟨t, 0, none⟩), .agg #[.int .i64 0, .int .i64 5, .int .i64 0, .int .i64 p, .int .i64 1, .int .i64 0, .int .i64 0, .int .i64 0, .int .i64 0, .int .i64 0, .string ⟨#[]⟩, .slice none 0 0]] w' fun e w'' => TP B t S h (rs' ++ [stR S 5 p 1 0 0 []]) w' e w'') := fun p rs' w' k' hn' => tell_T B t S h rs' ⟨⟨0, 5, 0, p, 1, 0, 0, 0, 0, 0⟩, ⟨#[]⟩, []⟩ _ w' k' hB (Bs.nil _) (by simp) hn'
 have HT4 : Hid (∀ (p : Int) (d : Value) (o : List Nat) (rs' : List Rec) (w' : World), TS B t S h rs' w' → rs'.length ≤ 10000 → Bs w' (d) o → o.length ≤ 16384 → Calls Tryz.prog 35 #[.pointer (some ⟨t, 0, none⟩), .agg #[.int .i64 0, .int .i64 6, .int .i64 0, .int .i64 p, .int .i64 0, .int .i64 0, .int .i64 0, .int .i64 0, .int .i64 0, .int .i64 0, .string ⟨#[]⟩, d]] w' fun e w'' => TP B t S h (rs' ++ [stR S 6 p 0 0 0 o]) w' e w'') := fun p d o rs' w' k' hn' hb hl => tell_T B t S h rs' ⟨⟨0, 6, 0, p, 0, 0, 0, 0, 0, 0⟩, ⟨#[]⟩, o⟩ _ w' k' hB hb hl hn'
 have HK : Hid (∀ w', Below B w w' → Below w0.heap.size w0 w') := fun w' hb => by rw [← hB0]; exact hb0.trans hb
 have HU : Hid (∀ j (hj : j < S.und.length), ∃ b off d, h.au = some ⟨b, off, none⟩ ∧ (∀ w', Below B w w' → w'.cell? ⟨b, off + j, none⟩ = some d ∧ Bs w' d S.und[j]) ∧ S.und[j].length ≤ 16384) := fun j hj => by
  obtain ⟨a1, p1, e1, _, h1⟩ := hA.und.shape
  simp only [Value.slice.injEq] at e1
  obtain ⟨rfl, _, rfl⟩ := e1
  obtain ⟨b, off, r1, r2⟩ := h1 (by intro e; rw [e] at hj; simp at hj)
  obtain ⟨d, q1, q2⟩ := r2 j hj
  exact ⟨b, off, d, r1, fun w' hb => ⟨((HK.out w' hb).cell (World.block_lt_of_cell? _ _ q1)).trans q1, q2.kept (HK.out w' hb)⟩, by simpa using List.all_eq_true.1 hu _ (List.getElem_mem hj)⟩
 have HF : Hid (∀ w', Below B w w' → Bs w' (.slice h.af S.fail.length h.cf) S.fail) := fun w' hb => hA.fail.kept (HK.out w' hb)
 have HFL : Hid (failL S = stR S 2 S.x.fs 1 0 0 [] :: stR S 4 S.x.fs 0 1 S.x.fc S.fail :: undL S (S.x.fs - 1) S.und) := by show _ = _; unfold failL; rw [if_neg (by simp [hfw])]
 obtain ⟨Z, hZ⟩ : ∃ Z, Z = zcl := ⟨_, rfl⟩
 have HZ : Hid (Z = zcl) := hZ
 obtain ⟨D, hD, hL, hE⟩ := sv_letter S h
 have HL : Hid _ := hL
 have HE : Hid (D = scl S h) := hE
 have HR : Hid (w.rangeAt t 0 D) := by show w.rangeAt t 0 D; rw [hE]; exact k.range
 have H1 : Hid (∀ v ∈ D, v.oneCell' = true) := by show ∀ v ∈ D, _; rw [hE]; exact scl_one _ _
 have HDZ : Hid (D.length = Z.length) := by show _ = _; rw [hE, hZ]; rfl
 have HT : Hid ((w.alloc (.cells Z.toArray 25)).there w.heap.size 0 D.toArray.size) := there_of (lb_new w Z _) (by simpa using HDZ.out)
 have hlt : t < w.heap.size := k.lt
 have HNE : Hid (w.heap.size ≠ t ∧ B ≤ w.heap.size) := ⟨by omega, by omega⟩
 have H2 : Hid (∃ W2, W2 = (w.alloc (.cells Z.toArray 25)).setCells w.heap.size 0 D ∧ LB W2 w.heap.size 25 D ∧ TS B t S h rs W2 ∧ Below B w W2 ∧ Fr t w W2) := by
  obtain ⟨q1, q2⟩ := box1 w 25 Z D HDZ.out
  exact ⟨_, rfl, q1, k.kept q2, q2.mono HNE.out.2, Fr.below q2⟩
 clear k hA hb0 hB0 hu hfw hD hL hE hZ HK
 go_enter Tryz.func37, Tryz.ntmps37
 go_wp2_with (first | (refine wpList_load_mid rfl 25 _ rfl t 0 rfl D _ HR.out Tryz.underlying25 rfl HL.out ?_) | (refine wpList_alloc_Z HZ.out rfl rfl ?_) | (refine wpList_store_mid rfl 25 (.tmp 2) (.tmp 9) rfl w.heap.size 0 D.toArray rfl rfl HT.out (by simpa using HL.out) (all_oneCell_toArray H1.out) ?_; (obtain ⟨W2, hW2, hq⟩ := H2.out); (have H3 : Hid _ := hq); (rw [List.toList_toArray, ← hW2]); (clear hW2 hq H2 HT HR); (have c13 := H3.out.1.cell 13 (.int .i64 S.x.fs) (by rw [HE.out]; rfl))) | fail)
 refine (HT1.out _ _ H3.out.2.1 (by omega)).mono ?_
 rintro e w1 ⟨rfl, k1, b1, f1⟩
 have H4 : Hid (LB w1 w.heap.size 25 D ∧ TS B t S h (rs ++ [stR S 2 S.x.fs 1 0 0 []]) w1 ∧ Below B w w1 ∧ Fr t w w1) := ⟨f1 _ _ _ HNE.out.1 (by decide) H3.out.1, k1, H3.out.2.2.1.trans b1, H3.out.2.2.2.trans f1⟩
 clear k1 b1 f1 H3 HT1 c13
 have c13 := H4.out.1.cell 13 (.int .i64 S.x.fs) (by rw [HE.out]; rfl)
 have c14 := H4.out.1.cell 14 (.int .i64 S.x.fc) (by rw [HE.out]; rfl)
 have c15 := H4.out.1.cell 15 (.slice h.af S.fail.length h.cf) (by rw [HE.out]; rfl)
 go_wp2_with fail
 refine (HT2.out _ _ H4.out.2.1 (by simp; omega) (HF.out _ H4.out.2.2.1) (by assumption)).mono ?_
 rintro e w2 ⟨rfl, k2, b2, f2⟩
 have H5 : Hid (LB w2 w.heap.size 25 D ∧ TS B t S h (rs ++ [stR S 2 S.x.fs 1 0 0 []] ++ [stR S 4 S.x.fs 0 1 S.x.fc S.fail]) w2 ∧ Below B w w2 ∧ Fr t w w2) := ⟨f2 _ _ _ HNE.out.1 (by decide) H4.out.1, k2, H4.out.2.2.1.trans b2, H4.out.2.2.2.trans f2⟩
 clear k2 b2 f2 H4 HT2 HF c13 c14 c15
 have c12 := H5.out.1.cell 12 (.slice h.au S.und.length h.cu) (by rw [HE.out]; rfl)
 go_wp2
 clear c12
 go_loopw [27] (fun i wr => ∃ (n : Nat) (cur : List Rec), i = .int .i64 (n : Int) ∧ n ≤ S.und.length ∧ TS B t S h cur wr ∧ cur ++ undL S (S.x.fs - 1 - (n : Int)) (S.und.drop n) = rs ++ failL S ∧ cur.length ≤ rs.length + 2 + 2 * n ∧ LB wr w.heap.size 25 D ∧ Below B w wr ∧ Fr t w wr) (fun i _ => S.und.length - (intOf i).toNat)
 case atStart => exact ⟨0, _, rfl, Nat.zero_le _, H5.out.2.1, by rw [HFL.out]; simp, by simp, H5.out.1, H5.out.2.2.1, H5.out.2.2.2⟩
 case round =>
  obtain ⟨n, cur, rfl, hn2, kc, he, hcl, lb, bl, fr⟩ := hrel
  have HR : Hid (TS B t S h cur wr ∧ LB wr w.heap.size 25 D ∧ Below B w wr ∧ Fr t w wr) := ⟨kc, lb, bl, fr⟩
  have HEQ : Hid (cur ++ undL S (S.x.fs - 1 - (n : Int)) (S.und.drop n) = rs ++ failL S) := he
  clear kc lb bl fr he H5
  by_cases hlt2 : n < S.und.length
  ·obtain ⟨b, off, d, hau, qw, q3⟩ := HU.out n hlt2
   obtain ⟨o, hoo⟩ : ∃ o, S.und[n] = o := ⟨_, rfl⟩
   have HDR : Hid (S.und.drop n = o :: S.und.drop (n + 1)) := by show _ = _; rw [List.drop_eq_getElem_cons hlt2, hoo]
   rw [hoo] at qw q3
   obtain ⟨q1, q2⟩ := qw _ HR.out.2.2.1
   have HQ : Hid (o.length ≤ 16384) := q3
   have c13 := HR.out.2.1.cell 13 (.int .i64 S.x.fs) (by rw [HE.out]; rfl)
   have i1 : IntKind.i64.wrap (S.x.fs - 1) = S.x.fs - 1 := IntWalk.i64_in _ (by omega)
   have i2 : IntKind.i64.wrap (S.x.fs - 1 - (n : Int)) = S.x.fs - 1 - (n : Int) := IntWalk.i64_in _ (by omega)
   obtain ⟨ad, cd, rfl, _⟩ := q2.shape
   have HQW : Hid _ := qw
   clear q2 q3 hoo qw
   rw [hau]
   go_wp2_with fail
   refine (HT3.out _ _ _ HR.out.1 (by omega)).mono ?_
   rintro e w3 ⟨rfl, k3, b3, f3⟩
   have H6 : Hid (LB w3 w.heap.size 25 D ∧ TS B t S h (cur ++ [stR S 5 (S.x.fs - 1 - (n : Int)) 1 0 0 []]) w3 ∧ Below B w w3 ∧ Fr t w w3) := ⟨f3 _ _ _ HNE.out.1 (by decide) HR.out.2.1, k3, HR.out.2.2.1.trans b3, HR.out.2.2.2.trans f3⟩
   have H7 : Hid (Bs w3 (.slice ad o.length cd) o ∧ o.length ≤ 16384) := ⟨(HQW.out _ H6.out.2.2.1).2, HQ.out⟩
   clear k3 b3 f3 c13 q1
   go_wp2_with fail
   refine (HT4.out _ _ o _ _ H6.out.2.1 (by simp; omega) H7.out.1 H7.out.2).mono ?_
   rintro e w4 ⟨rfl, k4, b4, f4⟩
   have H8 : Hid (LB w4 w.heap.size 25 D ∧ TS B t S h (cur ++ [stR S 5 (S.x.fs - 1 - (n : Int)) 1 0 0 []] ++ [stR S 6 (S.x.fs - 1 - (n : Int)) 0 0 0 o]) w4 ∧ Below B w w4 ∧ Fr t w w4) := ⟨f4 _ _ _ HNE.out.1 (by decide) H6.out.1, k4, H6.out.2.2.1.trans b4, H6.out.2.2.2.trans f4⟩
   clear k4 b4 f4 H6 H7
   go_wp2
   go_roundw
   case rel => exact ⟨n + 1, _, by go_num, by omega, H8.out.2.1, by rw [← HEQ.out, HDR.out]; simp [undL]; congr 1; omega, by simp; omega, H8.out.1, H8.out.2.2.1, H8.out.2.2.2⟩
   case measure => simp [intOf]; omega
  ·obtain rfl : n = S.und.length := by omega
   have hfin : cur = rs ++ failL S := by
    have := HEQ.out
    rw [List.drop_length] at this
    simpa [undL] using this
   go_wp2
   go_end0
   exact ⟨rfl, by rw [← hfin]; exact HR.out.1, HR.out.2.2.1, HR.out.2.2.2⟩
end Go.Proofs.YtabdfafffjgfiaaGreatDoor
