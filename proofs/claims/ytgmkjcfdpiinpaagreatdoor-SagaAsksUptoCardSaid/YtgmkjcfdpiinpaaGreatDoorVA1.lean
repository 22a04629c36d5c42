import Derived.Lib.SlBytesConst
import Derived.Deep.CutRange
import Derived.Test.YtgmkjcfdpiinpaaGreatDoorVF4
set_option maxRecDepth 100000
set_option maxHeartbeats 4000000
namespace Go.Proofs.YtgmkjcfdpiinpaaGreatDoor
open Go Go.RowKit
open Wb

namespace SN
end SN
theorem allowed_small (S : Sg) : (allowedP S).length ≤ 2 ∧ (1 : Int) ∉ allowedP S := by
 by_cases h : chkS S = true
 ·cases he : S.x.ended with
  | true => unfold allowedP; rw [if_pos (.inr he)]; simp
  | false =>
   rw [allowed_eq S h he]
   cases S.x.atEnd <;> by_cases hp : S.x.ph = 1 <;> cases S.x.fl <;> simp [hp]
 ·unfold allowedP
  rw [if_pos (.inl (by simpa using h))]
  simp
theorem finished_any (S : Sg) (h : SH) (w : World) (k : SgAt w S h) (hT : Text.TabP 3 .i32 Text.Tx.lets w) (hnm : S.nm.size ≤ 140737488355000) : Calls Tryz.prog 73 #[sv S h] w fun e w' => e = .returned (.bool (chkS S && S.x.ended)) ∧ Below w.heap.size w w' := by
 cases a1 : chkS S with
 | true =>
  have HCK0 : ∀ w', Below w.heap.size w w' → Calls Tryz.prog 30 #[sv S h] w' fun e w'' => e = .returned (.int .i64 0) ∧ Below w'.heap.size w' w'' := fun w' hb => by have := scheck_any S h w' (k.kept hb) (hT.kept hb) hnm; rw [a1] at this; exact this
  have HEN0 : ∀ w', Calls Tryz.prog 54 #[sv S h] w' fun e w'' => e = .returned (.bool S.x.ended) ∧ Below w'.heap.size w' w'' := fun w' => ended_any S h w'
  rw [Bool.true_and]
  obtain ⟨D, hD, hL, hE⟩ := sv_letter S h
  rw [hD] at HCK0 HEN0 ⊢
  have HCK : Hid _ := HCK0
  have HEN : Hid _ := HEN0
  have HL : Hid _ := hL
  have HE : Hid (D = scl S h) := hE
  have HX : Hid (∀ t, (w.alloc (.cells D.toArray t)).rangeAt w.heap.size 0 D ∧ Below w.heap.size w (w.alloc (.cells D.toArray t))) := fun t => boxed w D t
  clear hD hL hE HCK0 HEN0
  clear k hT hnm HE a1
  go_enter Tryz.func73, Tryz.ntmps73
  go_wp2_with (first | (refine wpList_load_mid rfl 31 _ rfl w.heap.size 0 rfl D _ (HX.out _).1 Tryz.underlying31 rfl HL.out ?_) | (refine wpList_load_midG rfl 31 _ rfl w.heap.size 0 rfl D _ (HX.out _).1 Tryz.underlying31 rfl HL.out ?_))
  refine (HCK.out _ (HX.out _).2).mono ?_
  rintro e w1 ⟨rfl, b1⟩
  have B1 := andThen (HX.out _).2 b1
  have R1 := range_kept (HX.out _).1 b1
  clear b1 HX HCK
  go_wp2_with (first | (refine wpList_load_mid rfl 31 _ rfl w.heap.size 0 rfl D _ R1 Tryz.underlying31 rfl HL.out ?_) | (refine wpList_load_midG rfl 31 _ rfl w.heap.size 0 rfl D _ R1 Tryz.underlying31 rfl HL.out ?_))
  refine (HEN.out _).mono ?_
  rintro e w2 ⟨rfl, b2⟩
  have B2 := andThen B1 b2
  clear b2 B1 R1 HEN HL
  go_wp2
  go_ret
  exact ⟨rfl, B2⟩
 | false =>
  have HCK0 : ∀ w', Below w.heap.size w w' → Calls Tryz.prog 30 #[sv S h] w' fun e w'' => e = .returned (.int .i64 100) ∧ Below w'.heap.size w' w'' := fun w' hb => by have := scheck_any S h w' (k.kept hb) (hT.kept hb) hnm; rw [a1] at this; exact this
  rw [Bool.false_and]
  obtain ⟨D, hD, hL, hE⟩ := sv_letter S h
  rw [hD] at HCK0 ⊢
  have HCK : Hid _ := HCK0
  have HL : Hid _ := hL
  have HE : Hid (D = scl S h) := hE
  have HX : Hid (∀ t, (w.alloc (.cells D.toArray t)).rangeAt w.heap.size 0 D ∧ Below w.heap.size w (w.alloc (.cells D.toArray t))) := fun t => boxed w D t
  clear hD hL hE HCK0
  clear k hT hnm HE a1
  go_enter Tryz.func73, Tryz.ntmps73
  go_wp2_with (first | (refine wpList_load_mid rfl 31 _ rfl w.heap.size 0 rfl D _ (HX.out _).1 Tryz.underlying31 rfl HL.out ?_) | (refine wpList_load_midG rfl 31 _ rfl w.heap.size 0 rfl D _ (HX.out _).1 Tryz.underlying31 rfl HL.out ?_))
  refine (HCK.out _ (HX.out _).2).mono ?_
  rintro e w1 ⟨rfl, b1⟩
  have B1 := andThen (HX.out _).2 b1
  clear b1 HX HCK HL
  go_wp2
  go_ret
  exact ⟨rfl, B1⟩
theorem upK_next (x : SN) (j : Nat) (h2 : 2 ≤ j) (h7 : j ≤ 7) : upK x (j + 1) = if x.may j then upK x j ++ [(j : Int)] else upK x j := by
 have e : ([2, 3, 4, 5, 6, 7] : List Int).take (j + 1 - 2) = ([2, 3, 4, 5, 6, 7] : List Int).take (j - 2) ++ [(j : Int)] := by
  obtain rfl | rfl | rfl | rfl | rfl | rfl : j = 2 ∨ j = 3 ∨ j = 4 ∨ j = 5 ∨ j = 6 ∨ j = 7 := by omega
  all_goals rfl
 unfold upK
 rw [e, List.filter_append]
 by_cases h : x.may j = true <;> simp [h]
theorem roI_weak {B B2 : Nat} {w : World} {v : Value} {l : List Int} (h : Fld.RoI B2 w v l) (hB : B ≤ B2) : Fld.RoI B w v l := by
 refine ⟨h.1, ?_⟩
 rcases h.2 with h1 | ⟨g, cap, cur, e, hb, rest⟩
 ·exact .inl h1
 ·exact .inr ⟨g, cap, cur, e, Nat.le_trans hB hb, rest⟩
theorem roI_block {B : Nat} {w : World} {v : Value} {l : List Int} (h : Fld.RoI B w v l) (g : Nat) (e : v.ownBlock = some g) : B ≤ g := by
 rcases h.2 with ⟨rfl, _⟩ | ⟨g', cap, cur, rfl, h1, _⟩
 ·simp [Value.ownBlock] at e
 ·simp [Value.ownBlock] at e
  omega
theorem upK_len (x : SN) (j : Nat) : (upK x j).length ≤ 6 := by
 unfold upK
 refine Nat.le_trans (List.length_filter_le _ _) ?_
 simp
 omega
theorem kinds_bool (w : World) (h : KindsT w) (j : Nat) (hj : j < 8) : w.cell? ⟨0, j * 2 + 1, none⟩ = some (.bool (lands j)) := by
 have e := (h j hj).2
 rwa [Nat.mul_comm] at e
theorem allowed_c (S : Sg) (h : SH) (w : World) (k : SgAt w S h) (hT : Text.TabP 3 .i32 Text.Tx.lets w) (hnm : S.nm.size ≤ 140737488355000) (hc : chkS S = false) : Calls Tryz.prog 75 #[sv S h] w fun e w' => e = .returned (.slice none 0 0) ∧ Below w.heap.size w w' := by
 have HCK0 : ∀ w', Below w.heap.size w w' → Calls Tryz.prog 30 #[sv S h] w' fun e w'' => e = .returned (.int .i64 100) ∧ Below w'.heap.size w' w'' := fun w' hb => by have e := scheck_any S h w' (k.kept hb) (hT.kept hb) hnm; rw [hc] at e; exact e
 obtain ⟨D, hD, hL, hE⟩ := sv_letter S h
 rw [hD] at HCK0 ⊢
 have HCK : Hid _ := HCK0
 have HL : Hid _ := hL
 have HE : Hid (D = scl S h) := hE
 have HX : Hid (∀ t, (w.alloc (.cells D.toArray t)).rangeAt w.heap.size 0 D ∧ Below w.heap.size w (w.alloc (.cells D.toArray t))) := fun t => boxed w D t
 clear hD hL hE HCK0
 clear k hT hnm HE hc
 go_enter Tryz.func75, Tryz.ntmps75
 go_wp2_with (first | (refine wpList_load_mid rfl 31 _ rfl w.heap.size 0 rfl D _ (HX.out _).1 Tryz.underlying31 rfl HL.out ?_) | (refine wpList_load_midG rfl 31 _ rfl w.heap.size 0 rfl D _ (HX.out _).1 Tryz.underlying31 rfl HL.out ?_))
 refine (HCK.out _ (HX.out _).2).mono ?_
 rintro e w1 ⟨rfl, b1⟩
 have B1 := andThen (HX.out _).2 b1
 go_wp2
 go_ret
 exact ⟨rfl, B1⟩
theorem allowed_e (S : Sg) (h : SH) (w : World) (k : SgAt w S h) (hT : Text.TabP 3 .i32 Text.Tx.lets w) (hnm : S.nm.size ≤ 140737488355000) (hc : chkS S = true) (he : S.x.ended = true) : Calls Tryz.prog 75 #[sv S h] w fun e w' => e = .returned (.slice none 0 0) ∧ Below w.heap.size w w' := by
 have HCK0 : ∀ w', Below w.heap.size w w' → Calls Tryz.prog 30 #[sv S h] w' fun e w'' => e = .returned (.int .i64 0) ∧ Below w'.heap.size w' w'' := fun w' hb => by have e := scheck_any S h w' (k.kept hb) (hT.kept hb) hnm; rw [hc] at e; exact e
 have HEN0 : ∀ w', Calls Tryz.prog 54 #[sv S h] w' fun e w'' => e = .returned (.bool true) ∧ Below w'.heap.size w' w'' := fun w' => by rw [← he]; exact ended_any S h w'
 obtain ⟨D, hD, hL, hE⟩ := sv_letter S h
 rw [hD] at HCK0 HEN0 ⊢
 have HCK : Hid _ := HCK0
 have HEN : Hid _ := HEN0
 have HL : Hid _ := hL
 have HE : Hid (D = scl S h) := hE
 have HX : Hid (∀ t, (w.alloc (.cells D.toArray t)).rangeAt w.heap.size 0 D ∧ Below w.heap.size w (w.alloc (.cells D.toArray t))) := fun t => boxed w D t
 clear hD hL hE HCK0 HEN0
 clear k hT hnm HE hc he
 go_enter Tryz.func75, Tryz.ntmps75
 go_wp2_with (first | (refine wpList_load_mid rfl 31 _ rfl w.heap.size 0 rfl D _ (HX.out _).1 Tryz.underlying31 rfl HL.out ?_) | (refine wpList_load_midG rfl 31 _ rfl w.heap.size 0 rfl D _ (HX.out _).1 Tryz.underlying31 rfl HL.out ?_))
 refine (HCK.out _ (HX.out _).2).mono ?_
 rintro e w1 ⟨rfl, b1⟩
 have B1 := andThen (HX.out _).2 b1
 have R1 := range_kept (HX.out _).1 b1
 clear b1 HX HCK
 go_wp2_with (first | (refine wpList_load_mid rfl 31 _ rfl w.heap.size 0 rfl D _ R1 Tryz.underlying31 rfl HL.out ?_) | (refine wpList_load_midG rfl 31 _ rfl w.heap.size 0 rfl D _ R1 Tryz.underlying31 rfl HL.out ?_))
 refine (HEN.out _).mono ?_
 rintro e w2 ⟨rfl, b2⟩
 have B2 := andThen B1 b2
 clear b2 B1 R1 HEN
 go_wp2
 go_ret
 exact ⟨rfl, B2⟩
theorem allowed_l (S : Sg) (h : SH) (w : World) (k : SgAt w S h) (hT : Text.TabP 3 .i32 Text.Tx.lets w) (hK : KindsT w) (hnm : S.nm.size ≤ 140737488355000) (hc : chkS S = true) (he : S.x.ended = false) : Calls Tryz.prog 75 #[sv S h] w fun e w' => ∃ v, e = .returned v ∧ Fld.RoI (w.heap.size + 1) w' v (upK S.x 8) ∧ Below w.heap.size w w' := by
 have HCK0 : ∀ w', Below w.heap.size w w' → Calls Tryz.prog 30 #[sv S h] w' fun e w'' => e = .returned (.int .i64 0) ∧ Below w'.heap.size w' w'' := fun w' hb => by have e := scheck_any S h w' (k.kept hb) (hT.kept hb) hnm; rw [hc] at e; exact e
 have HEN0 : ∀ w', Calls Tryz.prog 54 #[sv S h] w' fun e w'' => e = .returned (.bool false) ∧ Below w'.heap.size w' w'' := fun w' => by rw [← he]; exact ended_any S h w'
 have HIP0 : ∀ (j : Nat) (w' : World), 2 ≤ j → j ≤ 7 → Below w.heap.size w w' → Calls Tryz.prog 55 #[sv S h, .int .i64 (j : Int)] w' fun e w'' => e = .returned (.bool (S.x.inPh j)) ∧ Below w'.heap.size w' w'' := fun j w' h2 h7 hb => inPh_any S h j w' (by omega) (hK.kept hb)
 have HAE0 : ∀ w', Calls Tryz.prog 94 #[sv S h] w' fun e w'' => e = .returned (.bool S.x.atEnd) ∧ Below w'.heap.size w' w'' := fun w' => atEnd_any S h w'
 have HKB : Hid (∀ (j : Nat) (w' : World), j < 8 → Below w.heap.size w w' → w'.cell? ⟨0, j * 2 + 1, none⟩ = some (.bool (lands j))) := fun j w' hj hb => kinds_bool w' (hK.kept hb) j hj
 obtain ⟨D, hD, hL, hE⟩ := sv_letter S h
 rw [hD] at HCK0 HEN0 HIP0 HAE0 ⊢
 have HCK : Hid _ := HCK0
 have HEN : Hid _ := HEN0
 have HIP : Hid _ := HIP0
 have HAE : Hid _ := HAE0
 have HL : Hid _ := hL
 have HE : Hid (D = scl S h) := hE
 have HX : Hid (∀ t, (w.alloc (.cells D.toArray t)).rangeAt w.heap.size 0 D ∧ Below w.heap.size w (w.alloc (.cells D.toArray t))) := fun t => boxed w D t
 clear hD hL hE HCK0 HEN0 HIP0 HAE0
 clear k hT hnm hc he hK
 go_enter Tryz.func75, Tryz.ntmps75
 go_wp2_with (first | (refine wpList_load_mid rfl 31 _ rfl w.heap.size 0 rfl D _ (HX.out _).1 Tryz.underlying31 rfl HL.out ?_) | (refine wpList_load_midG rfl 31 _ rfl w.heap.size 0 rfl D _ (HX.out _).1 Tryz.underlying31 rfl HL.out ?_))
 refine (HCK.out _ (HX.out _).2).mono ?_
 rintro e w1 ⟨rfl, b1⟩
 have B1 := andThen (HX.out _).2 b1
 have R1 := range_kept (HX.out _).1 b1
 clear b1 HX HCK
 go_wp2_with (first | (refine wpList_load_mid rfl 31 _ rfl w.heap.size 0 rfl D _ R1 Tryz.underlying31 rfl HL.out ?_) | (refine wpList_load_midG rfl 31 _ rfl w.heap.size 0 rfl D _ R1 Tryz.underlying31 rfl HL.out ?_))
 refine (HEN.out _).mono ?_
 rintro e w2 ⟨rfl, b2⟩
 have B2 := andThen B1 b2
 have R2 := range_kept R1 b2
 clear b2 B1 R1 HEN
 go_wp2
 go_loopw [3, 4] (fun o i wr => ∃ j : Nat, 2 ≤ j ∧ j ≤ 8 ∧ i = .int .i64 (j : Int) ∧ Fld.RoI (w.heap.size + 1) wr o (upK S.x j) ∧ wr.rangeAt w.heap.size 0 D ∧ Below w.heap.size w wr) (fun _ i _ => 8 - (intOf i).toNat)
 case atStart => exact ⟨2, by omega, by omega, rfl, Fld.roI_nil _ _, R2, B2⟩
 case round =>
  obtain ⟨j, hj2, hj8, rfl, ho, hR, hbel⟩ := hrel
  by_cases hlt : j ≤ 7
  ·have h7 : ((j : Int) ≤ 7) = True := by simp; omega
   have h8 : (j : Int) < 8 := by omega
   have h80 : (0 : Int) ≤ (j : Int) := by omega
   have hjn : j < 8 := by omega
   have HS : Hid (∀ w' : World, w'.rangeAt w.heap.size 0 D → Below wr.heap.size wr w' → w'.rangeAt w.heap.size 0 D ∧ w'.cell? ⟨w.heap.size, 9, none⟩ = some (.bool S.x.fl) ∧ w'.cell? ⟨0, j * 2 + 1, none⟩ = some (.bool (lands j)) ∧ Below wr.heap.size wr w') := fun w' hr hb => ⟨hr, range_cell hr 9 _ (by rw [HE.out]; rfl), HKB.out j w' hjn (andThen hbel hb), hb⟩
   have HO : Hid (Fld.RoI (w.heap.size + 1) wr u3 (upK S.x j)) := ho
   have HBEL : Hid (Below w.heap.size w wr) := hbel
   have HNX : Hid (upK S.x (j + 1) = if S.x.may j then upK S.x j ++ [(j : Int)] else upK S.x j) := upK_next S.x j hj2 hlt
   clear ho
   cases m1 : S.x.inPh j with
   | false =>
    go_wp2
    refine wp_region_held_drew (S := fun w' : World => w'.rangeAt w.heap.size 0 D ∧ w'.cell? ⟨w.heap.size, 9, none⟩ = some (.bool S.x.fl) ∧ w'.cell? ⟨0, j * 2 + 1, none⟩ = some (.bool (lands j)) ∧ Below wr.heap.size wr w') (by kernel_rfl) ?_ (fun hH => ?_)
    ·exact HS.out _ (range_kept hR (Below.drew (Below.refl _ _))) (Below.drew (Below.refl _ _))
    refine zql 0 rfl (yieldsIf_load_mid (by rfl) _ _ rfl _ _ rfl D _ (fun w' hSw => hSw.1) Tryz.underlying31 rfl HL.out) hH ?_
    simp only [zq]
    refine zqk 1 rfl hH ?_
    simp only [zq]
    refine zqr 2 rfl (fun K hK => ?_)
    go_simp
    refine (HIP.out j _ hj2 hlt (andThen HBEL.out hH.2.2.2)).mono ?_
    rintro e wa ⟨rfl, ba⟩
    refine hK.out _ _ ?_ (fun hH2 => ?_)
    ·exact HS.out _ (range_kept hH.1 ba) (andThen hH.2.2.2 ba)
    clear hK K hH
    have hH := hH2
    clear hH2
    rw [m1]
    clear ba
    refine zqk 3 rfl hH ?_
    simp only [zq]
    refine zql 4 rfl (Or.inr ⟨by rfl, rfl⟩) hH ?_
    simp only [zq]
    refine zql 5 rfl (Or.inr ⟨by rfl, rfl⟩) hH ?_
    simp only [zq]
    refine zql 6 rfl (Or.inr ⟨by rfl, rfl⟩) hH ?_
    simp only [zq]
    refine zql 7 rfl (Or.inr ⟨by rfl, rfl⟩) hH ?_
    simp only [zq]
    refine zql 8 rfl (Or.inr ⟨by rfl, rfl⟩) hH ?_
    simp only [zq]
    refine zql 9 rfl (Or.inr ⟨by rfl, rfl⟩) hH ?_
    simp only [zq]
    refine zql 10 rfl (Or.inr ⟨by rfl, rfl⟩) hH ?_
    simp only [zq]
    refine zqk 11 rfl hH ?_
    simp only [zq]
    refine zqk 12 rfl hH ?_
    simp only [zq]
    refine zql 13 rfl (Or.inr ⟨by rfl, rfl⟩) hH ?_
    simp only [zq]
    refine zql 14 rfl (Or.inr ⟨by rfl, rfl⟩) hH ?_
    simp only [zq]
    refine zql 15 rfl (Or.inr ⟨by rfl, rfl⟩) hH ?_
    simp only [zq]
    refine zql 16 rfl (Or.inr ⟨by rfl, rfl⟩) hH ?_
    simp only [zq]
    refine zql 17 rfl (Or.inr ⟨by rfl, rfl⟩) hH ?_
    simp only [zq]
    refine zqk 18 rfl hH ?_
    simp only [zq]
    refine wpAnyH_done (by kernel_rfl) ?_ _
    have HN : Hid (upK S.x (j + 1) = upK S.x j) := by show _ = _; rw [HNX.out, if_neg (by unfold SN.may; rw [m1]; simp)]
    have HF := hH
    clear hH
    go_wp2
    go_roundw
    case rel => exact ⟨j + 1, by omega, by omega, by go_num, by rw [HN.out]; exact HO.out.kept HF.2.2.2, HF.1, andThen HBEL.out HF.2.2.2⟩
    case measure => simp [intOf]; omega
   | true =>
    cases m2 : (lands j == S.x.fl) with
    | false =>
     go_wp2
     refine wp_region_held_drew (S := fun w' : World => w'.rangeAt w.heap.size 0 D ∧ w'.cell? ⟨w.heap.size, 9, none⟩ = some (.bool S.x.fl) ∧ w'.cell? ⟨0, j * 2 + 1, none⟩ = some (.bool (lands j)) ∧ Below wr.heap.size wr w') (by kernel_rfl) ?_ (fun hH => ?_)
     ·exact HS.out _ (range_kept hR (Below.drew (Below.refl _ _))) (Below.drew (Below.refl _ _))
     refine zql 0 rfl (yieldsIf_load_mid (by rfl) _ _ rfl _ _ rfl D _ (fun w' hSw => hSw.1) Tryz.underlying31 rfl HL.out) hH ?_
     simp only [zq]
     refine zqk 1 rfl hH ?_
     simp only [zq]
     refine zqr 2 rfl (fun K hK => ?_)
     go_simp
     refine (HIP.out j _ hj2 hlt (andThen HBEL.out hH.2.2.2)).mono ?_
     rintro e wa ⟨rfl, ba⟩
     refine hK.out _ _ ?_ (fun hH2 => ?_)
     ·exact HS.out _ (range_kept hH.1 ba) (andThen hH.2.2.2 ba)
     clear hK K hH
     have hH := hH2
     clear hH2
     rw [m1]
     clear ba
     refine zqk 3 rfl hH ?_
     simp only [zq]
     refine zqk 4 rfl hH ?_
     simp only [zq]
     refine zqk 5 rfl hH ?_
     simp only [zq]
     refine zqk 6 rfl hH ?_
     simp only [zq]
     refine zqk 7 rfl hH ?_
     simp only [zq]
     refine zqk 8 rfl hH ?_
     simp only [zq]
     refine zqk 9 rfl hH ?_
     simp only [zq]
     refine zqk 10 rfl hH ?_
     simp only [zq]
     refine zqk 11 rfl hH ?_
     simp only [zq]
     refine zqk 12 rfl hH ?_
     simp only [zq]
     refine zql 13 rfl (Or.inr ⟨by rfl, rfl⟩) hH ?_
     simp only [zq]
     refine zql 14 rfl (Or.inr ⟨by rfl, rfl⟩) hH ?_
     simp only [zq]
     refine zql 15 rfl (Or.inr ⟨by rfl, rfl⟩) hH ?_
     simp only [zq]
     refine zql 16 rfl (Or.inr ⟨by rfl, rfl⟩) hH ?_
     simp only [zq]
     refine zql 17 rfl (Or.inr ⟨by rfl, rfl⟩) hH ?_
     simp only [zq]
     refine zqk 18 rfl hH ?_
     simp only [zq]
     refine wpAnyH_done (by kernel_rfl) ?_ _
     have HN : Hid (upK S.x (j + 1) = upK S.x j) := by show _ = _; rw [HNX.out, if_neg (by unfold SN.may; rw [m1, m2]; simp)]
     have HF := hH
     clear hH
     go_wp2
     go_roundw
     case rel => exact ⟨j + 1, by omega, by omega, by go_num, by rw [HN.out]; exact HO.out.kept HF.2.2.2, HF.1, andThen HBEL.out HF.2.2.2⟩
     case measure => simp [intOf]; omega
    | true =>
     cases m3 : (((j : Int) == 7) == S.x.atEnd) with
     | false =>
      go_wp2
      refine wp_region_held_drew (S := fun w' : World => w'.rangeAt w.heap.size 0 D ∧ w'.cell? ⟨w.heap.size, 9, none⟩ = some (.bool S.x.fl) ∧ w'.cell? ⟨0, j * 2 + 1, none⟩ = some (.bool (lands j)) ∧ Below wr.heap.size wr w') (by kernel_rfl) ?_ (fun hH => ?_)
      ·exact HS.out _ (range_kept hR (Below.drew (Below.refl _ _))) (Below.drew (Below.refl _ _))
      refine zql 0 rfl (yieldsIf_load_mid (by rfl) _ _ rfl _ _ rfl D _ (fun w' hSw => hSw.1) Tryz.underlying31 rfl HL.out) hH ?_
      simp only [zq]
      refine zqk 1 rfl hH ?_
      simp only [zq]
      refine zqr 2 rfl (fun K hK => ?_)
      go_simp
      refine (HIP.out j _ hj2 hlt (andThen HBEL.out hH.2.2.2)).mono ?_
      rintro e wa ⟨rfl, ba⟩
      refine hK.out _ _ ?_ (fun hH2 => ?_)
      ·exact HS.out _ (range_kept hH.1 ba) (andThen hH.2.2.2 ba)
      clear hK K hH
      have hH := hH2
      clear hH2
      rw [m1]
      clear ba
      refine zqk 3 rfl hH ?_
      simp only [zq]
      refine zqk 4 rfl hH ?_
      simp only [zq]
      refine zqk 5 rfl hH ?_
      simp only [zq]
      refine zqk 6 rfl hH ?_
      simp only [zq]
      refine zqk 7 rfl hH ?_
      simp only [zq]
      refine zqk 8 rfl hH ?_
      simp only [zq]
      refine zqk 9 rfl hH ?_
      simp only [zq]
      refine zqk 10 rfl hH ?_
      simp only [zq]
      refine zqk 11 rfl hH ?_
      simp only [zq]
      refine zqk 12 rfl hH ?_
      simp only [zq]
      refine zqk 13 rfl hH ?_
      simp only [zq]
      refine zqk 14 rfl hH ?_
      simp only [zq]
      refine zql 15 rfl (yieldsIf_load_mid (by rfl) _ _ rfl _ _ rfl D _ (fun w' hSw => hSw.1) Tryz.underlying31 rfl HL.out) hH ?_
      simp only [zq]
      refine zqr 16 rfl (fun K hK => ?_)
      go_simp
      refine (HAE.out _).mono ?_
      rintro e wb ⟨rfl, bb⟩
      refine hK.out _ _ ?_ (fun hH2 => ?_)
      ·exact HS.out _ (range_kept hH.1 bb) (andThen hH.2.2.2 bb)
      clear hK K hH
      have hH := hH2
      clear hH2
      clear bb
      refine zqk 17 rfl hH ?_
      simp only [zq]
      refine zqk 18 rfl hH ?_
      simp only [zq]
      refine wpAnyH_done (by kernel_rfl) ?_ _
      have HN : Hid (upK S.x (j + 1) = upK S.x j) := by show _ = _; rw [HNX.out, if_neg (by unfold SN.may; rw [m1, m2, m3]; simp)]
      have HF := hH
      clear hH
      go_wp2
      go_roundw
      case rel => exact ⟨j + 1, by omega, by omega, by go_num, by rw [HN.out]; exact HO.out.kept HF.2.2.2, HF.1, andThen HBEL.out HF.2.2.2⟩
      case measure => simp [intOf]; omega
     | true =>
      go_wp2
      refine wp_region_held_drew (S := fun w' : World => w'.rangeAt w.heap.size 0 D ∧ w'.cell? ⟨w.heap.size, 9, none⟩ = some (.bool S.x.fl) ∧ w'.cell? ⟨0, j * 2 + 1, none⟩ = some (.bool (lands j)) ∧ Below wr.heap.size wr w') (by kernel_rfl) ?_ (fun hH => ?_)
      ·exact HS.out _ (range_kept hR (Below.drew (Below.refl _ _))) (Below.drew (Below.refl _ _))
      refine zql 0 rfl (yieldsIf_load_mid (by rfl) _ _ rfl _ _ rfl D _ (fun w' hSw => hSw.1) Tryz.underlying31 rfl HL.out) hH ?_
      simp only [zq]
      refine zqk 1 rfl hH ?_
      simp only [zq]
      refine zqr 2 rfl (fun K hK => ?_)
      go_simp
      refine (HIP.out j _ hj2 hlt (andThen HBEL.out hH.2.2.2)).mono ?_
      rintro e wa ⟨rfl, ba⟩
      refine hK.out _ _ ?_ (fun hH2 => ?_)
      ·exact HS.out _ (range_kept hH.1 ba) (andThen hH.2.2.2 ba)
      clear hK K hH
      have hH := hH2
      clear hH2
      rw [m1]
      clear ba
      refine zqk 3 rfl hH ?_
      simp only [zq]
      refine zqk 4 rfl hH ?_
      simp only [zq]
      refine zqk 5 rfl hH ?_
      simp only [zq]
      refine zqk 6 rfl hH ?_
      simp only [zq]
      refine zqk 7 rfl hH ?_
      simp only [zq]
      refine zqk 8 rfl hH ?_
      simp only [zq]
      refine zqk 9 rfl hH ?_
      simp only [zq]
      refine zqk 10 rfl hH ?_
      simp only [zq]
      refine zqk 11 rfl hH ?_
      simp only [zq]
      refine zqk 12 rfl hH ?_
      simp only [zq]
      refine zqk 13 rfl hH ?_
      simp only [zq]
      refine zqk 14 rfl hH ?_
      simp only [zq]
      refine zql 15 rfl (yieldsIf_load_mid (by rfl) _ _ rfl _ _ rfl D _ (fun w' hSw => hSw.1) Tryz.underlying31 rfl HL.out) hH ?_
      simp only [zq]
      refine zqr 16 rfl (fun K hK => ?_)
      go_simp
      refine (HAE.out _).mono ?_
      rintro e wb ⟨rfl, bb⟩
      refine hK.out _ _ ?_ (fun hH2 => ?_)
      ·exact HS.out _ (range_kept hH.1 bb) (andThen hH.2.2.2 bb)
      clear hK K hH
      have hH := hH2
      clear hH2
      clear bb
      refine zqk 17 rfl hH ?_
      simp only [zq]
      refine zqk 18 rfl hH ?_
      simp only [zq]
      refine wpAnyH_done (by kernel_rfl) ?_ _
      have HN : Hid (upK S.x (j + 1) = upK S.x j ++ [(j : Int)]) := by show _ = _; rw [HNX.out, if_pos (by unfold SN.may; rw [m1, m2, m3]; rfl)]
      have HF : Hid _ := hH
      clear hH
      have HLN : Hid ((upK S.x j).length ≤ 6) := upK_len _ _
      have HCE : Hid ((wb.alloc (.cells #[.int .i64 (j : Int)] 3)).cell? ⟨wb.heap.size, 0, none⟩ = some (.int .i64 (j : Int))) := by show _ = _; rw [World.cell?_alloc_new]; rfl
      have hlt0 : w.heap.size < wb.heap.size := World.block_lt_of_cell? wb ⟨w.heap.size, 9, none⟩ HF.out.2.1
      have HSZ : Hid (w.heap.size + 1 ≤ (wb.alloc (.cells #[.int .i64 (j : Int)] 3)).heap.size) := by show _ ≤ _; rw [heap_one]; omega
      clear hlt0
      go_wp2_with (at_builtin; refine Fld.wpList_app_int _ rfl (.tmp 35) (.tmp 37) 91 rfl (w.heap.size + 1) Fld.info3 Tryz.underlying91 _ (upK S.x j) rfl ((HO.out.kept HF.out.2.2.2).kept (up0 _ _)) _ (j : Int) rfl HCE.out (Nat.le_trans HLN.out (by decide)) HSZ.out ?_)
      intro v' w' hro hgr
      have HG : Hid (Fld.RoI (w.heap.size + 1) w' v' (upK S.x (j + 1)) ∧ w'.rangeAt w.heap.size 0 D ∧ Below w.heap.size w w') := by
       have hold : Fld.RoI (w.heap.size + 1) (wb.alloc (.cells #[.int .i64 (j : Int)] 3)) u3 (upK S.x j) := (HO.out.kept HF.out.2.2.2).kept (up0 _ _)
       have hbw : Below w.heap.size w (wb.alloc (.cells #[.int .i64 (j : Int)] 3)) := up (andThen HBEL.out HF.out.2.2.2) _
       refine ⟨by rw [HN.out]; exact hro, fun i v hv => ?_, (roI_weak hold (by omega)).below hbw hgr⟩
       have h1 := range_kept HF.out.1 (up0 _ (.cells #[.int .i64 (j : Int)] 3)) i v hv
       rw [← h1]
       refine World.cell?_of_block (w := wb.alloc (.cells #[.int .i64 (j : Int)] 3)) (hgr.block w.heap.size (World.block_lt_of_cell? _ _ h1) (fun e => ?_))
       have := roI_block hold _ e.symm
       omega
      clear hro hgr HCE HSZ HF HO HN
      go_wp2
      go_roundw
      case rel => exact ⟨j + 1, by omega, by omega, by go_num, HG.out.1, HG.out.2.1, HG.out.2.2⟩
      case measure => simp [intOf]; omega
  ·obtain rfl : j = 8 := by omega
   have HF : Hid (Fld.RoI (w.heap.size + 1) wr u3 (upK S.x 8) ∧ Below w.heap.size w wr) := ⟨ho, hbel⟩
   clear ho hbel hR
   go_wp2
   go_ret
   exact ⟨_, rfl, HF.out.1, HF.out.2⟩
theorem allowed_any (S : Sg) (h : SH) (w : World) (k : SgAt w S h) (hT : Text.TabP 3 .i32 Text.Tx.lets w) (hK : KindsT w) (hnm : S.nm.size ≤ 140737488355000) : Calls Tryz.prog 75 #[sv S h] w fun e w' => ∃ v, e = .returned v ∧ Fld.RoI w.heap.size w' v (allowedP S) ∧ Below w.heap.size w w' := by
 cases hc : chkS S with
 | false =>
  have e : allowedP S = [] := by unfold allowedP; rw [if_pos (.inl hc)]
  rw [e]
  exact (allowed_c S h w k hT hnm hc).mono fun e w' ⟨he, hb⟩ => ⟨_, he, Fld.roI_nil _ _, hb⟩
 | true =>
  cases he : S.x.ended with
  | true =>
   have e : allowedP S = [] := by unfold allowedP; rw [if_pos (.inr he)]
   rw [e]
   exact (allowed_e S h w k hT hnm hc he).mono fun e w' ⟨he, hb⟩ => ⟨_, he, Fld.roI_nil _ _, hb⟩
  | false =>
   have e : allowedP S = upK S.x 8 := by unfold allowedP; rw [if_neg (by simp [hc, he])]; rfl
   rw [e]
   exact (allowed_l S h w k hT hK hnm hc he).mono fun e w' ⟨v, he, hr, hb⟩ => ⟨v, he, roI_weak hr (by omega), hb⟩
theorem rref_try (S : Sg) (h : SH) (x : Nums) (nm : ByteArray) (d : Value) (w : World) (hc : chkS S = true) (hk : 2 ≤ x.k ∧ x.k ≤ 7) (hl : x.l = 0) (ht : x.t ≠ 0) : Calls Tryz.prog 69 #[sv S h, rv x nm d] w fun e w' => e = .returned (.int .i64 (refP S.x (if x.k = 2 ∨ x.k = 5 then x else { x with t := 0 }))) ∧ Below w.heap.size w w' := by
 obtain ⟨_, _, _, g4, g5, _, _, _, g9, g10, g11⟩ := good_nums S hc
 have h1 : x.k = 2 ∨ x.k = 3 ∨ x.k = 4 ∨ x.k = 5 ∨ x.k = 6 ∨ x.k = 7 := by omega
 rcases h1 with h1 | h1 | h1 | h1 | h1 | h1
 ·rw [if_pos (.inl h1)]; exact rref_2 S h x nm d w g5 g9 g10 g4 g11 h1 hl ht
 ·rw [if_neg (by omega)]; exact rref_3 S h x nm d w g5 g9 g10 g4 g11 h1 hl
 ·rw [if_neg (by omega)]; exact rref_40 S h x nm d w g5 g9 g10 g4 g11 h1 hl
 ·rw [if_pos (.inr h1)]; exact rref_5 S h x nm d w g5 g9 g10 g4 g11 h1 hl ht
 ·rw [if_neg (by omega)]; exact rref_6 S h x nm d w g5 g9 g10 g4 g11 h1 hl
 ·rw [if_neg (by omega)]; exact rref_7 S h x nm d w g5 g9 g10 g4 g11 h1 hl
theorem ask_may (x : SN) (k : Int) (hp : 1 ≤ x.ph ∧ x.ph ≤ 4) (hk : 2 ≤ k ∧ k ≤ 7) : mayR x k = (!x.ended && x.may k) := by
 have h1 : k = 2 ∨ k = 3 ∨ k = 4 ∨ k = 5 ∨ k = 6 ∨ k = 7 := by omega
 have h2 : x.ph = 1 ∨ x.ph = 2 ∨ x.ph = 3 ∨ x.ph = 4 := by omega
 unfold mayR
 rcases h2 with h2 | h2 | h2 | h2 <;> rcases h1 with h1 | h1 | h1 | h1 | h1 | h1 <;> cases hf : x.fl <;> cases ha : x.atEnd <;> simp [refP, askR, SN.ended, SN.inPh, kph, lands, SN.onTurn, SN.turn, SN.fwd, SN.may, h1, h2, hf, ha]
theorem upA_next (x : SN) (j : Nat) (h2 : 2 ≤ j) (h7 : j ≤ 7) : upA x (j + 1) = if mayR x j then upA x j ++ [(j : Int)] else upA x j := by
 have e : ([2, 3, 4, 5, 6, 7] : List Int).take (j + 1 - 2) = ([2, 3, 4, 5, 6, 7] : List Int).take (j - 2) ++ [(j : Int)] := by
  obtain rfl | rfl | rfl | rfl | rfl | rfl : j = 2 ∨ j = 3 ∨ j = 4 ∨ j = 5 ∨ j = 6 ∨ j = 7 := by omega
  all_goals rfl
 unfold upA
 rw [e, List.filter_append]
 by_cases h : mayR x j = true <;> simp [h]
theorem upA_len (x : SN) (j : Nat) : (upA x j).length ≤ 6 := by
 unfold upA
 refine Nat.le_trans (List.length_filter_le _ _) ?_
 simp
 omega
theorem upA_all (S : Sg) (hc : chkS S = true) : upA S.x 8 = allowedP S := by
 have hp := (good_nums S hc).2.2.2.2.1
 unfold upA allowedP
 have e : ([2, 3, 4, 5, 6, 7] : List Int).take (8 - 2) = [2, 3, 4, 5, 6, 7] := rfl
 rw [e]
 have e2 : ([2, 3, 4, 5, 6, 7] : List Int).filter (mayR S.x) = ([2, 3, 4, 5, 6, 7] : List Int).filter (fun k => !S.x.ended && S.x.may k) := by
  refine List.filter_congr fun k hk => ask_may S.x k hp ?_
  simp at hk
  omega
 rw [e2]
 cases he : S.x.ended with
 | true => rw [if_pos (.inr rfl)]; simp
 | false => rw [if_neg (by simp [hc])]; simp
theorem downs_next (n : Int) (j : Nat) : downs n (j + 1) = downs n j ++ [n - 1 - (j : Int)] := by
 unfold downs
 rw [List.range_succ, List.map_append]
 rfl
theorem downs_len (n : Int) (j : Nat) : (downs n j).length = j := by simp [downs]
theorem mayUndo_ref (x : SN) (hp : 1 ≤ x.ph ∧ x.ph ≤ 4) (hv : 0 ≤ x.piv) : x.mayUndo = !(decide (3 ≤ x.ph) || (x.ph == 1 && (x.nx == x.cnt || (decide (0 < x.piv) && decide (x.piv ≤ x.nx))))) := by
 have h2 : x.ph = 1 ∨ x.ph = 2 ∨ x.ph = 3 ∨ x.ph = 4 := by omega
 have h3 : (x.piv != 0) = decide (0 < x.piv) := by
  by_cases h : x.piv = 0
  ·simp [h]
  ·have h4 : 0 < x.piv := by omega
   simp [h, h4]
 rcases h2 with h2 | h2 | h2 | h2 <;> simp [SN.mayUndo, SN.atEnd, SN.fwd, SN.behind, h2, h3]
theorem rxfin_gen (S : Sg) (h : SH) (w : World) (c : Int) (HCK0 : ∀ w', Below w.heap.size w w' → Calls Tryz.prog 34 #[sv S h] w' fun e w'' => e = .returned (.int .i64 c) ∧ Below w'.heap.size w' w'') : Calls Tryz.prog 74 #[sv S h] w fun e w' => e = .returned (.bool (c == 0 && decide (3 ≤ S.x.ph))) ∧ Below w.heap.size w w' := by
 obtain ⟨D, hD, hL, hE⟩ := sv_letter S h
 rw [hD] at HCK0 ⊢
 have HCK : Hid _ := HCK0
 have HL : Hid _ := hL
 have HE : Hid (D = scl S h) := hE
 have HX : Hid (∀ t, (w.alloc (.cells D.toArray t)).rangeAt w.heap.size 0 D ∧ Below w.heap.size w (w.alloc (.cells D.toArray t))) := fun t => boxed w D t
 clear hD hL hE HCK0
 go_enter Tryz.func74, Tryz.ntmps74
 go_wp2_with (first | (refine wpList_load_mid rfl 31 _ rfl w.heap.size 0 rfl D _ (HX.out _).1 Tryz.underlying31 rfl HL.out ?_) | fail)
 refine (HCK.out _ (HX.out _).2).mono ?_
 rintro e w1 ⟨rfl, b1⟩
 have B1 := andThen (HX.out _).2 b1
 have R1 := range_kept (HX.out _).1 b1
 have c7 := range_cell R1 7 (.int .i64 S.x.ph) (by rw [HE.out]; rfl)
 clear b1 HX HCK R1 HE HL
 cases hc : (c == 0) with
 | true =>
  go_wp2
  go_ret
  exact ⟨by rw [hc]; rfl, B1⟩
 | false =>
  go_wp2
  go_ret
  exact ⟨by rw [hc]; rfl, B1⟩
theorem rxpend_c (S : Sg) (h : SH) (w : World) (c : Int) (HCK0 : ∀ w', Below w.heap.size w w' → Calls Tryz.prog 34 #[sv S h] w' fun e w'' => e = .returned (.int .i64 c) ∧ Below w'.heap.size w' w'') (h0 : (c != 0) = true) : Calls Tryz.prog 79 #[sv S h] w fun e w' => e = .returned (.slice none 0 0) ∧ Below w.heap.size w w' := by
 obtain ⟨D, hD, hL, hE⟩ := sv_letter S h
 rw [hD] at HCK0 ⊢
 have HCK : Hid _ := HCK0
 have HL : Hid _ := hL
 have HE : Hid (D = scl S h) := hE
 have HX : Hid (∀ t, (w.alloc (.cells D.toArray t)).rangeAt w.heap.size 0 D ∧ Below w.heap.size w (w.alloc (.cells D.toArray t))) := fun t => boxed w D t
 clear hD hL hE HCK0
 clear HE
 go_enter Tryz.func79, Tryz.ntmps79
 go_wp2_with (first | (refine wpList_load_mid rfl 31 _ rfl w.heap.size 0 rfl D _ (HX.out _).1 Tryz.underlying31 rfl HL.out ?_) | fail)
 refine (HCK.out _ (HX.out _).2).mono ?_
 rintro e w1 ⟨rfl, b1⟩
 have B1 := andThen (HX.out _).2 b1
 clear b1 HX HCK HL
 go_wp2
 go_ret
 exact ⟨rfl, B1⟩
theorem rxpend_n1 (S : Sg) (h : SH) (w : World) (HCK0 : ∀ w', Below w.heap.size w w' → Calls Tryz.prog 34 #[sv S h] w' fun e w'' => e = .returned (.int .i64 0) ∧ Below w'.heap.size w' w'') (h3 : decide (3 ≤ S.x.ph) = true) : Calls Tryz.prog 79 #[sv S h] w fun e w' => e = .returned (.slice none 0 0) ∧ Below w.heap.size w w' := by
 obtain ⟨D, hD, hL, hE⟩ := sv_letter S h
 rw [hD] at HCK0 ⊢
 have HCK : Hid _ := HCK0
 have HL : Hid _ := hL
 have HE : Hid (D = scl S h) := hE
 have HX : Hid (∀ t, (w.alloc (.cells D.toArray t)).rangeAt w.heap.size 0 D ∧ Below w.heap.size w (w.alloc (.cells D.toArray t))) := fun t => boxed w D t
 clear hD hL hE HCK0
 go_enter Tryz.func79, Tryz.ntmps79
 go_wp2_with (first | (refine wpList_load_mid rfl 31 _ rfl w.heap.size 0 rfl D _ (HX.out _).1 Tryz.underlying31 rfl HL.out ?_) | fail)
 refine (HCK.out _ (HX.out _).2).mono ?_
 rintro e w1 ⟨rfl, b1⟩
 have B1 := andThen (HX.out _).2 b1
 have R1 := range_kept (HX.out _).1 b1
 have c2 := range_cell R1 2 (.int .i64 S.x.cnt) (by rw [HE.out]; rfl)
 have c3 := range_cell R1 3 (.int .i64 S.x.piv) (by rw [HE.out]; rfl)
 have c7 := range_cell R1 7 (.int .i64 S.x.ph) (by rw [HE.out]; rfl)
 have c8 := range_cell R1 8 (.int .i64 S.x.nx) (by rw [HE.out]; rfl)
 clear b1 HX HCK HL
 clear HE R1
 go_wp2
 go_ret
 exact ⟨rfl, B1⟩
theorem rxpend_n2 (S : Sg) (h : SH) (w : World) (HCK0 : ∀ w', Below w.heap.size w w' → Calls Tryz.prog 34 #[sv S h] w' fun e w'' => e = .returned (.int .i64 0) ∧ Below w'.heap.size w' w'') (h3 : decide (3 ≤ S.x.ph) = false) (h1 : (S.x.ph == 1) = true) (hq : (S.x.nx == S.x.cnt) = true) : Calls Tryz.prog 79 #[sv S h] w fun e w' => e = .returned (.slice none 0 0) ∧ Below w.heap.size w w' := by
 obtain ⟨D, hD, hL, hE⟩ := sv_letter S h
 rw [hD] at HCK0 ⊢
 have HCK : Hid _ := HCK0
 have HL : Hid _ := hL
 have HE : Hid (D = scl S h) := hE
 have HX : Hid (∀ t, (w.alloc (.cells D.toArray t)).rangeAt w.heap.size 0 D ∧ Below w.heap.size w (w.alloc (.cells D.toArray t))) := fun t => boxed w D t
 clear hD hL hE HCK0
 go_enter Tryz.func79, Tryz.ntmps79
 go_wp2_with (first | (refine wpList_load_mid rfl 31 _ rfl w.heap.size 0 rfl D _ (HX.out _).1 Tryz.underlying31 rfl HL.out ?_) | fail)
 refine (HCK.out _ (HX.out _).2).mono ?_
 rintro e w1 ⟨rfl, b1⟩
 have B1 := andThen (HX.out _).2 b1
 have R1 := range_kept (HX.out _).1 b1
 have c2 := range_cell R1 2 (.int .i64 S.x.cnt) (by rw [HE.out]; rfl)
 have c3 := range_cell R1 3 (.int .i64 S.x.piv) (by rw [HE.out]; rfl)
 have c7 := range_cell R1 7 (.int .i64 S.x.ph) (by rw [HE.out]; rfl)
 have c8 := range_cell R1 8 (.int .i64 S.x.nx) (by rw [HE.out]; rfl)
 clear b1 HX HCK HL
 clear HE R1
 go_wp2
 go_ret
 exact ⟨rfl, B1⟩
theorem rxpend_n3 (S : Sg) (h : SH) (w : World) (HCK0 : ∀ w', Below w.heap.size w w' → Calls Tryz.prog 34 #[sv S h] w' fun e w'' => e = .returned (.int .i64 0) ∧ Below w'.heap.size w' w'') (h3 : decide (3 ≤ S.x.ph) = false) (h1 : (S.x.ph == 1) = true) (hq : (S.x.nx == S.x.cnt) = false) (hp : decide (0 < S.x.piv) = true) (hl : decide (S.x.piv ≤ S.x.nx) = true) : Calls Tryz.prog 79 #[sv S h] w fun e w' => e = .returned (.slice none 0 0) ∧ Below w.heap.size w w' := by
 obtain ⟨D, hD, hL, hE⟩ := sv_letter S h
 rw [hD] at HCK0 ⊢
 have HCK : Hid _ := HCK0
 have HL : Hid _ := hL
 have HE : Hid (D = scl S h) := hE
 have HX : Hid (∀ t, (w.alloc (.cells D.toArray t)).rangeAt w.heap.size 0 D ∧ Below w.heap.size w (w.alloc (.cells D.toArray t))) := fun t => boxed w D t
 clear hD hL hE HCK0
 go_enter Tryz.func79, Tryz.ntmps79
 go_wp2_with (first | (refine wpList_load_mid rfl 31 _ rfl w.heap.size 0 rfl D _ (HX.out _).1 Tryz.underlying31 rfl HL.out ?_) | fail)
 refine (HCK.out _ (HX.out _).2).mono ?_
 rintro e w1 ⟨rfl, b1⟩
 have B1 := andThen (HX.out _).2 b1
 have R1 := range_kept (HX.out _).1 b1
 have c2 := range_cell R1 2 (.int .i64 S.x.cnt) (by rw [HE.out]; rfl)
 have c3 := range_cell R1 3 (.int .i64 S.x.piv) (by rw [HE.out]; rfl)
 have c7 := range_cell R1 7 (.int .i64 S.x.ph) (by rw [HE.out]; rfl)
 have c8 := range_cell R1 8 (.int .i64 S.x.nx) (by rw [HE.out]; rfl)
 clear b1 HX HCK HL
 clear HE R1
 go_wp2
 go_ret
 exact ⟨rfl, B1⟩
theorem rxpend_l1 (S : Sg) (h : SH) (w : World) (HCK0 : ∀ w', Below w.heap.size w w' → Calls Tryz.prog 34 #[sv S h] w' fun e w'' => e = .returned (.int .i64 0) ∧ Below w'.heap.size w' w'') (hn : 0 ≤ S.x.nx ∧ S.x.nx ≤ 32) (h3 : decide (3 ≤ S.x.ph) = false) (h1 : (S.x.ph == 1) = false) : Calls Tryz.prog 79 #[sv S h] w fun e w' => ∃ v, e = .returned v ∧ Fld.RoI (w.heap.size + 1) w' v (downs S.x.nx S.x.nx.toNat) ∧ Below w.heap.size w w' := by
 have iw : IntKind.i64.wrap (S.x.nx - 1) = S.x.nx - 1 := IntWalk.i64_in _ (by omega)
 obtain ⟨D, hD, hL, hE⟩ := sv_letter S h
 rw [hD] at HCK0 ⊢
 have HCK : Hid _ := HCK0
 have HL : Hid _ := hL
 have HE : Hid (D = scl S h) := hE
 have HX : Hid (∀ t, (w.alloc (.cells D.toArray t)).rangeAt w.heap.size 0 D ∧ Below w.heap.size w (w.alloc (.cells D.toArray t))) := fun t => boxed w D t
 clear hD hL hE HCK0
 go_enter Tryz.func79, Tryz.ntmps79
 go_wp2_with (first | (refine wpList_load_mid rfl 31 _ rfl w.heap.size 0 rfl D _ (HX.out _).1 Tryz.underlying31 rfl HL.out ?_) | fail)
 refine (HCK.out _ (HX.out _).2).mono ?_
 rintro e w1 ⟨rfl, b1⟩
 have B1 := andThen (HX.out _).2 b1
 have R1 := range_kept (HX.out _).1 b1
 have c2 := range_cell R1 2 (.int .i64 S.x.cnt) (by rw [HE.out]; rfl)
 have c3 := range_cell R1 3 (.int .i64 S.x.piv) (by rw [HE.out]; rfl)
 have c7 := range_cell R1 7 (.int .i64 S.x.ph) (by rw [HE.out]; rfl)
 have c8 := range_cell R1 8 (.int .i64 S.x.nx) (by rw [HE.out]; rfl)
 clear b1 HX HCK HL
 go_wp2
 clear c2 c3 c7 c8
 go_loopw [4, 5] (fun o i wr => ∃ j : Nat, (j : Int) ≤ S.x.nx ∧ i = .int .i64 (S.x.nx - 1 - (j : Int)) ∧ Fld.RoI (w.heap.size + 1) wr o (downs S.x.nx j) ∧ wr.rangeAt w.heap.size 0 D ∧ Below w.heap.size w wr) (fun _ i _ => (intOf i + 1).toNat)
 case atStart => exact ⟨0, by omega, by simp, Fld.roI_nil _ _, R1, B1⟩
 case round =>
  obtain ⟨j, hj, rfl, ho, hR, hbel⟩ := hrel
  by_cases hlt : (j : Int) < S.x.nx
  ·have g0 : decide (0 ≤ S.x.nx - 1 - (j : Int)) = true := by simp; omega
   have iw2 : IntKind.i64.wrap (S.x.nx - 1 - (j : Int) - 1) = S.x.nx - 1 - ((j + 1 : Nat) : Int) := by rw [IntWalk.i64_in _ (by omega)]; omega
   have HO : Hid (Fld.RoI (w.heap.size + 1) wr u4 (downs S.x.nx j)) := ho
   have HR : Hid (wr.rangeAt w.heap.size 0 D) := hR
   have HBEL : Hid (Below w.heap.size w wr) := hbel
   obtain ⟨i, hi⟩ : ∃ i, S.x.nx - 1 - (j : Int) = i := ⟨_, rfl⟩
   have HI : Hid (S.x.nx - 1 - (j : Int) = i) := hi
   rw [hi] at g0 iw2
   rw [hi]
   clear ho hR hbel hi
   have HLN : Hid ((downs S.x.nx j).length ≤ 32) := by show _ ≤ _; rw [downs_len]; omega
   have HCE : Hid ((wr.alloc (.cells #[.int .i64 i] 3)).cell? ⟨wr.heap.size, 0, none⟩ = some (.int .i64 i)) := by show _ = _; rw [World.cell?_alloc_new]; rfl
   have HSZ : Hid (w.heap.size + 1 ≤ (wr.alloc (.cells #[.int .i64 i] 3)).heap.size) := by
    show _ ≤ _
    have hlt0 : w.heap.size < wr.heap.size := World.block_lt_of_cell? wr ⟨w.heap.size, 0, none⟩ (range_cell HR.out 0 (.int .i64 S.x.id) (by rw [HE.out]; rfl))
    rw [heap_one]; omega
   go_wp2_with (at_builtin; refine Fld.wpList_app_int _ rfl (.tmp 44) (.tmp 46) 91 rfl (w.heap.size + 1) Fld.info3 Tryz.underlying91 _ (downs S.x.nx j) rfl (HO.out.kept (up0 _ _)) _ i rfl HCE.out (Nat.le_trans HLN.out (by decide)) HSZ.out ?_)
   intro v' w' hro hgr
   have HG : Hid (Fld.RoI (w.heap.size + 1) w' v' (downs S.x.nx (j + 1)) ∧ w'.rangeAt w.heap.size 0 D ∧ Below w.heap.size w w') := by
    have hold : Fld.RoI (w.heap.size + 1) (wr.alloc (.cells #[.int .i64 i] 3)) u4 (downs S.x.nx j) := HO.out.kept (up0 _ _)
    have hbw : Below w.heap.size w (wr.alloc (.cells #[.int .i64 i] 3)) := up HBEL.out _
    refine ⟨by rw [downs_next, HI.out]; exact hro, fun i2 v hv => ?_, (roI_weak hold (by omega)).below hbw hgr⟩
    have h1 := range_kept HR.out (up0 _ (.cells #[.int .i64 i] 3)) i2 v hv
    rw [← h1]
    refine World.cell?_of_block (w := wr.alloc (.cells #[.int .i64 i] 3)) (hgr.block w.heap.size (World.block_lt_of_cell? _ _ h1) (fun e => ?_))
    have := roI_block hold _ e.symm
    omega
   clear hro hgr HCE HSZ HO HR
   go_wp2
   go_roundw
   case rel => exact ⟨j + 1, by omega, by first | rfl | (rw [iw2]; rfl), HG.out.1, HG.out.2.1, HG.out.2.2⟩
   case measure => have := HI.out; simp [intOf]; omega
  ·have hje : S.x.nx = (j : Int) := by omega
   have g0 : decide (0 ≤ S.x.nx - 1 - (j : Int)) = false := by simp; omega
   have hjn : S.x.nx.toNat = j := by omega
   have HF : Hid (Fld.RoI (w.heap.size + 1) wr u4 (downs S.x.nx S.x.nx.toNat) ∧ Below w.heap.size w wr) := ⟨by rw [hjn]; exact ho, hbel⟩
   clear ho hbel hR hje hjn
   go_wp2
   go_ret
   exact ⟨_, rfl, HF.out.1, HF.out.2⟩
theorem rxpend_l2 (S : Sg) (h : SH) (w : World) (HCK0 : ∀ w', Below w.heap.size w w' → Calls Tryz.prog 34 #[sv S h] w' fun e w'' => e = .returned (.int .i64 0) ∧ Below w'.heap.size w' w'') (hn : 0 ≤ S.x.nx ∧ S.x.nx ≤ 32) (h3 : decide (3 ≤ S.x.ph) = false) (h1 : (S.x.ph == 1) = true) (hq : (S.x.nx == S.x.cnt) = false) (hp : decide (0 < S.x.piv) = false) : Calls Tryz.prog 79 #[sv S h] w fun e w' => ∃ v, e = .returned v ∧ Fld.RoI (w.heap.size + 1) w' v (downs S.x.nx S.x.nx.toNat) ∧ Below w.heap.size w w' := by
 have iw : IntKind.i64.wrap (S.x.nx - 1) = S.x.nx - 1 := IntWalk.i64_in _ (by omega)
 obtain ⟨D, hD, hL, hE⟩ := sv_letter S h
 rw [hD] at HCK0 ⊢
 have HCK : Hid _ := HCK0
 have HL : Hid _ := hL
 have HE : Hid (D = scl S h) := hE
 have HX : Hid (∀ t, (w.alloc (.cells D.toArray t)).rangeAt w.heap.size 0 D ∧ Below w.heap.size w (w.alloc (.cells D.toArray t))) := fun t => boxed w D t
 clear hD hL hE HCK0
 go_enter Tryz.func79, Tryz.ntmps79
 go_wp2_with (first | (refine wpList_load_mid rfl 31 _ rfl w.heap.size 0 rfl D _ (HX.out _).1 Tryz.underlying31 rfl HL.out ?_) | fail)
 refine (HCK.out _ (HX.out _).2).mono ?_
 rintro e w1 ⟨rfl, b1⟩
 have B1 := andThen (HX.out _).2 b1
 have R1 := range_kept (HX.out _).1 b1
 have c2 := range_cell R1 2 (.int .i64 S.x.cnt) (by rw [HE.out]; rfl)
 have c3 := range_cell R1 3 (.int .i64 S.x.piv) (by rw [HE.out]; rfl)
 have c7 := range_cell R1 7 (.int .i64 S.x.ph) (by rw [HE.out]; rfl)
 have c8 := range_cell R1 8 (.int .i64 S.x.nx) (by rw [HE.out]; rfl)
 clear b1 HX HCK HL
 go_wp2
 clear c2 c3 c7 c8
 go_loopw [4, 5] (fun o i wr => ∃ j : Nat, (j : Int) ≤ S.x.nx ∧ i = .int .i64 (S.x.nx - 1 - (j : Int)) ∧ Fld.RoI (w.heap.size + 1) wr o (downs S.x.nx j) ∧ wr.rangeAt w.heap.size 0 D ∧ Below w.heap.size w wr) (fun _ i _ => (intOf i + 1).toNat)
 case atStart => exact ⟨0, by omega, by simp, Fld.roI_nil _ _, R1, B1⟩
 case round =>
  obtain ⟨j, hj, rfl, ho, hR, hbel⟩ := hrel
  by_cases hlt : (j : Int) < S.x.nx
  ·have g0 : decide (0 ≤ S.x.nx - 1 - (j : Int)) = true := by simp; omega
   have iw2 : IntKind.i64.wrap (S.x.nx - 1 - (j : Int) - 1) = S.x.nx - 1 - ((j + 1 : Nat) : Int) := by rw [IntWalk.i64_in _ (by omega)]; omega
   have HO : Hid (Fld.RoI (w.heap.size + 1) wr u4 (downs S.x.nx j)) := ho
   have HR : Hid (wr.rangeAt w.heap.size 0 D) := hR
   have HBEL : Hid (Below w.heap.size w wr) := hbel
   obtain ⟨i, hi⟩ : ∃ i, S.x.nx - 1 - (j : Int) = i := ⟨_, rfl⟩
   have HI : Hid (S.x.nx - 1 - (j : Int) = i) := hi
   rw [hi] at g0 iw2
   rw [hi]
   clear ho hR hbel hi
   have HLN : Hid ((downs S.x.nx j).length ≤ 32) := by show _ ≤ _; rw [downs_len]; omega
   have HCE : Hid ((wr.alloc (.cells #[.int .i64 i] 3)).cell? ⟨wr.heap.size, 0, none⟩ = some (.int .i64 i)) := by show _ = _; rw [World.cell?_alloc_new]; rfl
   have HSZ : Hid (w.heap.size + 1 ≤ (wr.alloc (.cells #[.int .i64 i] 3)).heap.size) := by
    show _ ≤ _
    have hlt0 : w.heap.size < wr.heap.size := World.block_lt_of_cell? wr ⟨w.heap.size, 0, none⟩ (range_cell HR.out 0 (.int .i64 S.x.id) (by rw [HE.out]; rfl))
    rw [heap_one]; omega
   go_wp2_with (at_builtin; refine Fld.wpList_app_int _ rfl (.tmp 44) (.tmp 46) 91 rfl (w.heap.size + 1) Fld.info3 Tryz.underlying91 _ (downs S.x.nx j) rfl (HO.out.kept (up0 _ _)) _ i rfl HCE.out (Nat.le_trans HLN.out (by decide)) HSZ.out ?_)
   intro v' w' hro hgr
   have HG : Hid (Fld.RoI (w.heap.size + 1) w' v' (downs S.x.nx (j + 1)) ∧ w'.rangeAt w.heap.size 0 D ∧ Below w.heap.size w w') := by
    have hold : Fld.RoI (w.heap.size + 1) (wr.alloc (.cells #[.int .i64 i] 3)) u4 (downs S.x.nx j) := HO.out.kept (up0 _ _)
    have hbw : Below w.heap.size w (wr.alloc (.cells #[.int .i64 i] 3)) := up HBEL.out _
    refine ⟨by rw [downs_next, HI.out]; exact hro, fun i2 v hv => ?_, (roI_weak hold (by omega)).below hbw hgr⟩
    have h1 := range_kept HR.out (up0 _ (.cells #[.int .i64 i] 3)) i2 v hv
    rw [← h1]
    refine World.cell?_of_block (w := wr.alloc (.cells #[.int .i64 i] 3)) (hgr.block w.heap.size (World.block_lt_of_cell? _ _ h1) (fun e => ?_))
    have := roI_block hold _ e.symm
    omega
   clear hro hgr HCE HSZ HO HR
   go_wp2
   go_roundw
   case rel => exact ⟨j + 1, by omega, by first | rfl | (rw [iw2]; rfl), HG.out.1, HG.out.2.1, HG.out.2.2⟩
   case measure => have := HI.out; simp [intOf]; omega
  ·have hje : S.x.nx = (j : Int) := by omega
   have g0 : decide (0 ≤ S.x.nx - 1 - (j : Int)) = false := by simp; omega
   have hjn : S.x.nx.toNat = j := by omega
   have HF : Hid (Fld.RoI (w.heap.size + 1) wr u4 (downs S.x.nx S.x.nx.toNat) ∧ Below w.heap.size w wr) := ⟨by rw [hjn]; exact ho, hbel⟩
   clear ho hbel hR hje hjn
   go_wp2
   go_ret
   exact ⟨_, rfl, HF.out.1, HF.out.2⟩
end Go.Proofs.YtgmkjcfdpiinpaaGreatDoor

