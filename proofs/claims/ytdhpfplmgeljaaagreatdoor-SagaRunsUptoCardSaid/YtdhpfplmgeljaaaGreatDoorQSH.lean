import Derived.Test.YtdhpfplmgeljaaaGreatDoorQS2
import Derived.Lib.SlBytesConst
import Derived.Test.YtdhpfplmgeljaaaGreatDoorQS4
import Derived.Test.YtdhpfplmgeljaaaGreatDoorQF1
import Derived.Test.YtdhpfplmgeljaaaGreatDoorQSA
import Derived.Test.YtdhpfplmgeljaaaGreatDoorQSC
import Derived.Test.YtdhpfplmgeljaaaGreatDoorQSE
namespace Go.Proofs.YtdhpfplmgeljaaaGreatDoor
open Go Go.RowKit
open Wb

def upK (x : SN) (j : Nat) : List Int := (([2, 3, 4, 5, 6, 7] : List Int).take (j - 2)).filter x.may
theorem upK_next (x : SN) (j : Nat) (h2 : 2 ≤ j) (h7 : j ≤ 7) : upK x (j + 1) = if x.may j then upK x j ++ [(j : Int)] else upK x j := by
  have e : ([2, 3, 4, 5, 6, 7] : List Int).take (j + 1 - 2) = ([2, 3, 4, 5, 6, 7] : List Int).take (j - 2) ++ [(j : Int)] := by
    obtain rfl | rfl | rfl | rfl | rfl | rfl : j = 2 ∨ j = 3 ∨ j = 4 ∨ j = 5 ∨ j = 6 ∨ j = 7 := by omega
    all_goals rfl
  unfold upK
  rw [e, List.filter_append]
  by_cases h : x.may j = true <;> simp [h]
theorem roI_weak {B B2 : Nat} {w : World} {v : Value} {l : List Int} (h : Fld.RoI B2 w v l) (hB : B ≤ B2) : Fld.RoI B w v l := by
  refine ⟨h.1, ?_⟩
  rcases h.2 with h1 | ⟨g, cap, cur, e, hb, rest⟩
  · exact .inl h1
  · exact .inr ⟨g, cap, cur, e, Nat.le_trans hB hb, rest⟩
theorem roI_block {B : Nat} {w : World} {v : Value} {l : List Int} (h : Fld.RoI B w v l) (g : Nat) (e : v.ownBlock = some g) : B ≤ g := by
  rcases h.2 with ⟨rfl, _⟩ | ⟨g', cap, cur, rfl, h1, _⟩
  · simp [Value.ownBlock] at e
  · simp [Value.ownBlock] at e
    omega
theorem upK_len (x : SN) (j : Nat) : (upK x j).length ≤ 6 := by
  unfold upK
  refine Nat.le_trans (List.length_filter_le _ _) ?_
  simp
  omega
theorem kinds_bool (w : World) (h : KindsT w) (j : Nat) (hj : j < 8) : w.cell? ⟨0, j * 2 + 1, none⟩ = some (.bool (lands j)) := by
  have e := (h j hj).2
  rwa [Nat.mul_comm] at e
set_option maxRecDepth 100000 in
set_option maxHeartbeats 4000000 in
theorem allowed_c (S : Sg) (h : SH) (w : World) (k : SgAt w S h) (hT : Text.TabP 4 .i32 Text.Tx.lets w) (hnm : S.nm.size ≤ 140737488355000) (hc : chkS S = false) : Calls Tryz.prog 29 #[sv S h] w fun e w' => e = .returned (.slice none 0 0) ∧ Below w.heap.size w w' := by
  have HCK0 : ∀ w', Below w.heap.size w w' → Calls Tryz.prog 21 #[sv S h] w' fun e w'' => e = .returned (.int .i64 100) ∧ Below w'.heap.size w' w'' := fun w' hb => by have e := scheck_any S h w' (k.kept hb) (hT.kept hb) hnm; rw [hc] at e; exact e
  obtain ⟨D, hD, hL, hE⟩ := sv_letter S h
  rw [hD] at HCK0 ⊢
  have HCK : Hid _ := HCK0
  have HL : Hid _ := hL
  have HE : Hid (D = scl S h) := hE
  have HX : Hid (∀ t, (w.alloc (.cells D.toArray t)).rangeAt w.heap.size 0 D ∧ Below w.heap.size w (w.alloc (.cells D.toArray t))) := fun t => boxed w D t
  clear hD hL hE HCK0
  clear k hT hnm HE hc
  go_enter Tryz.func29, Tryz.ntmps29
  go_wp2_with (first | (refine wpList_load_mid rfl 29 _ rfl w.heap.size 0 rfl D _ (HX.out _).1 Tryz.underlying29 rfl HL.out ?_) | (refine wpList_load_midG rfl 29 _ rfl w.heap.size 0 rfl D _ (HX.out _).1 Tryz.underlying29 rfl HL.out ?_))
  refine (HCK.out _ (HX.out _).2).mono ?_
  rintro e w1 ⟨rfl, b1⟩
  have B1 := andThen (HX.out _).2 b1
  go_wp2
  go_ret
  exact ⟨rfl, B1⟩
set_option maxRecDepth 100000 in
set_option maxHeartbeats 4000000 in
theorem allowed_e (S : Sg) (h : SH) (w : World) (k : SgAt w S h) (hT : Text.TabP 4 .i32 Text.Tx.lets w) (hnm : S.nm.size ≤ 140737488355000) (hc : chkS S = true) (he : S.x.ended = true) : Calls Tryz.prog 29 #[sv S h] w fun e w' => e = .returned (.slice none 0 0) ∧ Below w.heap.size w w' := by
  have HCK0 : ∀ w', Below w.heap.size w w' → Calls Tryz.prog 21 #[sv S h] w' fun e w'' => e = .returned (.int .i64 0) ∧ Below w'.heap.size w' w'' := fun w' hb => by have e := scheck_any S h w' (k.kept hb) (hT.kept hb) hnm; rw [hc] at e; exact e
  have HEN0 : ∀ w', Calls Tryz.prog 48 #[sv S h] w' fun e w'' => e = .returned (.bool true) ∧ Below w'.heap.size w' w'' := fun w' => by rw [← he]; exact ended_any S h w'
  obtain ⟨D, hD, hL, hE⟩ := sv_letter S h
  rw [hD] at HCK0 HEN0 ⊢
  have HCK : Hid _ := HCK0
  have HEN : Hid _ := HEN0
  have HL : Hid _ := hL
  have HE : Hid (D = scl S h) := hE
  have HX : Hid (∀ t, (w.alloc (.cells D.toArray t)).rangeAt w.heap.size 0 D ∧ Below w.heap.size w (w.alloc (.cells D.toArray t))) := fun t => boxed w D t
  clear hD hL hE HCK0 HEN0
  clear k hT hnm HE hc he
  go_enter Tryz.func29, Tryz.ntmps29
  go_wp2_with (first | (refine wpList_load_mid rfl 29 _ rfl w.heap.size 0 rfl D _ (HX.out _).1 Tryz.underlying29 rfl HL.out ?_) | (refine wpList_load_midG rfl 29 _ rfl w.heap.size 0 rfl D _ (HX.out _).1 Tryz.underlying29 rfl HL.out ?_))
  refine (HCK.out _ (HX.out _).2).mono ?_
  rintro e w1 ⟨rfl, b1⟩
  have B1 := andThen (HX.out _).2 b1
  have R1 := range_kept (HX.out _).1 b1
  clear b1 HX HCK
  go_wp2_with (first | (refine wpList_load_mid rfl 29 _ rfl w.heap.size 0 rfl D _ R1 Tryz.underlying29 rfl HL.out ?_) | (refine wpList_load_midG rfl 29 _ rfl w.heap.size 0 rfl D _ R1 Tryz.underlying29 rfl HL.out ?_))
  refine (HEN.out _).mono ?_
  rintro e w2 ⟨rfl, b2⟩
  have B2 := andThen B1 b2
  clear b2 B1 R1 HEN
  go_wp2
  go_ret
  exact ⟨rfl, B2⟩
set_option maxRecDepth 100000 in
set_option maxHeartbeats 4000000 in
theorem allowed_l (S : Sg) (h : SH) (w : World) (k : SgAt w S h) (hT : Text.TabP 4 .i32 Text.Tx.lets w) (hK : KindsT w) (hnm : S.nm.size ≤ 140737488355000) (hc : chkS S = true) (he : S.x.ended = false) : Calls Tryz.prog 29 #[sv S h] w fun e w' => ∃ v, e = .returned v ∧ Fld.RoI (w.heap.size + 1) w' v (upK S.x 8) ∧ Below w.heap.size w w' := by
  have HCK0 : ∀ w', Below w.heap.size w w' → Calls Tryz.prog 21 #[sv S h] w' fun e w'' => e = .returned (.int .i64 0) ∧ Below w'.heap.size w' w'' := fun w' hb => by have e := scheck_any S h w' (k.kept hb) (hT.kept hb) hnm; rw [hc] at e; exact e
  have HEN0 : ∀ w', Calls Tryz.prog 48 #[sv S h] w' fun e w'' => e = .returned (.bool false) ∧ Below w'.heap.size w' w'' := fun w' => by rw [← he]; exact ended_any S h w'
  have HIP0 : ∀ (j : Nat) (w' : World), 2 ≤ j → j ≤ 7 → Below w.heap.size w w' → Calls Tryz.prog 49 #[sv S h, .int .i64 (j : Int)] w' fun e w'' => e = .returned (.bool (S.x.inPh j)) ∧ Below w'.heap.size w' w'' := fun j w' h2 h7 hb => inPh_any S h j w' (by omega) (hK.kept hb)
  have HAE0 : ∀ w', Calls Tryz.prog 66 #[sv S h] w' fun e w'' => e = .returned (.bool S.x.atEnd) ∧ Below w'.heap.size w' w'' := fun w' => atEnd_any S h w'
  have HKB : Hid (∀ (j : Nat) (w' : World), j < 8 → Below w.heap.size w w' → w'.cell? ⟨0, j * 2 + 1, none⟩ = some (.bool (lands j))) := fun j w' hj hb => kinds_bool w' (hK.kept hb) j hj
  obtain ⟨D, hD, hL, hE⟩ := sv_letter S h
  rw [hD] at HCK0 HEN0 HIP0 HAE0 ⊢
  have HCK : Hid _ := HCK0
  have HEN : Hid _ := HEN0
  have HIP : Hid _ := HIP0
  have HAE : Hid _ := HAE0
  have HL : Hid _ := hL
  have HE : Hid (D = scl S h) := hE
  have HX : Hid (∀ t, (w.alloc (.cells D.toArray t)).rangeAt w.heap.size 0 D ∧ Below w.heap.size w (w.alloc (.cells D.toArray t))) := fun t => boxed w D t
  clear hD hL hE HCK0 HEN0 HIP0 HAE0
  clear k hT hnm hc he hK
  go_enter Tryz.func29, Tryz.ntmps29
  go_wp2_with (first | (refine wpList_load_mid rfl 29 _ rfl w.heap.size 0 rfl D _ (HX.out _).1 Tryz.underlying29 rfl HL.out ?_) | (refine wpList_load_midG rfl 29 _ rfl w.heap.size 0 rfl D _ (HX.out _).1 Tryz.underlying29 rfl HL.out ?_))
  refine (HCK.out _ (HX.out _).2).mono ?_
  rintro e w1 ⟨rfl, b1⟩
  have B1 := andThen (HX.out _).2 b1
  have R1 := range_kept (HX.out _).1 b1
  clear b1 HX HCK
  go_wp2_with (first | (refine wpList_load_mid rfl 29 _ rfl w.heap.size 0 rfl D _ R1 Tryz.underlying29 rfl HL.out ?_) | (refine wpList_load_midG rfl 29 _ rfl w.heap.size 0 rfl D _ R1 Tryz.underlying29 rfl HL.out ?_))
  refine (HEN.out _).mono ?_
  rintro e w2 ⟨rfl, b2⟩
  have B2 := andThen B1 b2
  have R2 := range_kept R1 b2
  clear b2 B1 R1 HEN
  go_wp2
  go_loopw [3, 4] (fun o i wr => ∃ j : Nat, 2 ≤ j ∧ j ≤ 8 ∧ i = .int .i64 (j : Int) ∧ Fld.RoI (w.heap.size + 1) wr o (upK S.x j) ∧ wr.rangeAt w.heap.size 0 D ∧ Below w.heap.size w wr) (fun _ i _ => 8 - (intOf i).toNat)
  case atStart => exact ⟨2, by omega, by omega, rfl, Fld.roI_nil _ _, R2, B2⟩
  case round =>
    obtain ⟨j, hj2, hj8, rfl, ho, hR, hbel⟩ := hrel
    by_cases hlt : j ≤ 7
    · have h7 : ((j : Int) ≤ 7) = True := by simp; omega
      have h8 : (j : Int) < 8 := by omega
      have h80 : (0 : Int) ≤ (j : Int) := by omega
      have hjn : j < 8 := by omega
      have HS : Hid (∀ w' : World, w'.rangeAt w.heap.size 0 D → Below wr.heap.size wr w' → w'.rangeAt w.heap.size 0 D ∧ w'.cell? ⟨w.heap.size, 9, none⟩ = some (.bool S.x.fl) ∧ w'.cell? ⟨0, j * 2 + 1, none⟩ = some (.bool (lands j)) ∧ Below wr.heap.size wr w') := fun w' hr hb => ⟨hr, range_cell hr 9 _ (by rw [HE.out]; rfl), HKB.out j w' hjn (andThen hbel hb), hb⟩
      have HO : Hid (Fld.RoI (w.heap.size + 1) wr u3 (upK S.x j)) := ho
      have HBEL : Hid (Below w.heap.size w wr) := hbel
      have HNX : Hid (upK S.x (j + 1) = if S.x.may j then upK S.x j ++ [(j : Int)] else upK S.x j) := upK_next S.x j hj2 hlt
      clear ho
      cases m1 : S.x.inPh j with
      | false =>
        go_wp2
        refine wp_region_held_drew (S := fun w' : World => w'.rangeAt w.heap.size 0 D ∧ w'.cell? ⟨w.heap.size, 9, none⟩ = some (.bool S.x.fl) ∧ w'.cell? ⟨0, j * 2 + 1, none⟩ = some (.bool (lands j)) ∧ Below wr.heap.size wr w') (by kernel_rfl) ?_ (fun hH => ?_)
        · exact HS.out _ (range_kept hR (Below.drew (Below.refl _ _))) (Below.drew (Below.refl _ _))
        refine zql 0 rfl (yieldsIf_load_mid (by rfl) _ _ rfl _ _ rfl D _ (fun w' hSw => hSw.1) Tryz.underlying29 rfl HL.out) hH ?_
        simp only [Act.put, zq1, zq2, zq3, zq4, zq5]
        refine zqk 1 rfl hH ?_
        simp only [Act.put, zq1, zq2, zq3, zq4, zq5, zq6]
        refine zqr 2 rfl (fun K hK => ?_)
        go_simp
        refine (HIP.out j _ hj2 hlt (andThen HBEL.out hH.2.2.2)).mono ?_
        rintro e wa ⟨rfl, ba⟩
        refine hK.out _ _ ?_ (fun hH2 => ?_)
        · exact HS.out _ (range_kept hH.1 ba) (andThen hH.2.2.2 ba)
        clear hK K hH
        have hH := hH2
        clear hH2
        rw [m1]
        clear ba
        refine zqk 3 rfl hH ?_
        simp only [Act.put, zq1, zq2, zq3, zq4, zq5, zq6]
        refine zql 4 rfl (Or.inr ⟨by rfl, rfl⟩) hH ?_
        simp only [Act.put, zq1, zq2, zq3, zq4, zq5, zq6]
        refine zql 5 rfl (Or.inr ⟨by rfl, rfl⟩) hH ?_
        simp only [Act.put, zq1, zq2, zq3, zq4, zq5, zq6]
        refine zql 6 rfl (Or.inr ⟨by rfl, rfl⟩) hH ?_
        simp only [Act.put, zq1, zq2, zq3, zq4, zq5, zq6]
        refine zql 7 rfl (Or.inr ⟨by rfl, rfl⟩) hH ?_
        simp only [Act.put, zq1, zq2, zq3, zq4, zq5, zq6]
        refine zql 8 rfl (Or.inr ⟨by rfl, rfl⟩) hH ?_
        simp only [Act.put, zq1, zq2, zq3, zq4, zq5, zq6]
        refine zql 9 rfl (Or.inr ⟨by rfl, rfl⟩) hH ?_
        simp only [Act.put, zq1, zq2, zq3, zq4, zq5, zq6]
        refine zql 10 rfl (Or.inr ⟨by rfl, rfl⟩) hH ?_
        simp only [Act.put, zq1, zq2, zq3, zq4, zq5, zq6]
        refine zqk 11 rfl hH ?_
        simp only [Act.put, zq1, zq2, zq3, zq4, zq5, zq6]
        refine zqk 12 rfl hH ?_
        simp only [Act.put, zq1, zq2, zq3, zq4, zq5, zq6]
        refine zql 13 rfl (Or.inr ⟨by rfl, rfl⟩) hH ?_
        simp only [Act.put, zq1, zq2, zq3, zq4, zq5, zq6]
        refine zql 14 rfl (Or.inr ⟨by rfl, rfl⟩) hH ?_
        simp only [Act.put, zq1, zq2, zq3, zq4, zq5, zq6]
        refine zql 15 rfl (Or.inr ⟨by rfl, rfl⟩) hH ?_
        simp only [Act.put, zq1, zq2, zq3, zq4, zq5, zq6]
        refine zql 16 rfl (Or.inr ⟨by rfl, rfl⟩) hH ?_
        simp only [Act.put, zq1, zq2, zq3, zq4, zq5, zq6]
        refine zql 17 rfl (Or.inr ⟨by rfl, rfl⟩) hH ?_
        simp only [Act.put, zq1, zq2, zq3, zq4, zq5, zq6]
        refine zqk 18 rfl hH ?_
        simp only [Act.put, zq1, zq2, zq3, zq4, zq5, zq6]
        refine wpAnyH_done (by kernel_rfl) ?_ _
        have HN : Hid (upK S.x (j + 1) = upK S.x j) := by show _ = _; rw [HNX.out, if_neg (by unfold SN.may; rw [m1]; simp)]
        have HF := hH
        clear hH
        go_wp2
        go_roundw
        case rel => exact ⟨j + 1, by omega, by omega, by go_num, by rw [HN.out]; exact HO.out.kept HF.2.2.2, HF.1, andThen HBEL.out HF.2.2.2⟩
        case measure => simp [intOf]; omega
      | true =>
        cases m2 : (lands j == S.x.fl) with
        | false =>
          go_wp2
          refine wp_region_held_drew (S := fun w' : World => w'.rangeAt w.heap.size 0 D ∧ w'.cell? ⟨w.heap.size, 9, none⟩ = some (.bool S.x.fl) ∧ w'.cell? ⟨0, j * 2 + 1, none⟩ = some (.bool (lands j)) ∧ Below wr.heap.size wr w') (by kernel_rfl) ?_ (fun hH => ?_)
          · exact HS.out _ (range_kept hR (Below.drew (Below.refl _ _))) (Below.drew (Below.refl _ _))
          refine zql 0 rfl (yieldsIf_load_mid (by rfl) _ _ rfl _ _ rfl D _ (fun w' hSw => hSw.1) Tryz.underlying29 rfl HL.out) hH ?_
          simp only [Act.put, zq1, zq2, zq3, zq4, zq5]
          refine zqk 1 rfl hH ?_
          simp only [Act.put, zq1, zq2, zq3, zq4, zq5, zq6]
          refine zqr 2 rfl (fun K hK => ?_)
          go_simp
          refine (HIP.out j _ hj2 hlt (andThen HBEL.out hH.2.2.2)).mono ?_
          rintro e wa ⟨rfl, ba⟩
          refine hK.out _ _ ?_ (fun hH2 => ?_)
          · exact HS.out _ (range_kept hH.1 ba) (andThen hH.2.2.2 ba)
          clear hK K hH
          have hH := hH2
          clear hH2
          rw [m1]
          clear ba
          refine zqk 3 rfl hH ?_
          simp only [Act.put, zq1, zq2, zq3, zq4, zq5, zq6]
          refine zqk 4 rfl hH ?_
          simp only [Act.put, zq1, zq2, zq3, zq4, zq5, zq6]
          refine zqk 5 rfl hH ?_
          simp only [Act.put, zq1, zq2, zq3, zq4, zq5, zq6]
          refine zqk 6 rfl hH ?_
          simp only [Act.put, zq1, zq2, zq3, zq4, zq5, zq6]
          refine zqk 7 rfl hH ?_
          simp only [Act.put, zq1, zq2, zq3, zq4, zq5, zq6]
          refine zqk 8 rfl hH ?_
          simp only [Act.put, zq1, zq2, zq3, zq4, zq5, zq6]
          refine zqk 9 rfl hH ?_
          simp only [Act.put, zq1, zq2, zq3, zq4, zq5, zq6]
          refine zqk 10 rfl hH ?_
          simp only [Act.put, zq1, zq2, zq3, zq4, zq5, zq6]
          refine zqk 11 rfl hH ?_
          simp only [Act.put, zq1, zq2, zq3, zq4, zq5, zq6]
          refine zqk 12 rfl hH ?_
          simp only [Act.put, zq1, zq2, zq3, zq4, zq5, zq6]
          refine zql 13 rfl (Or.inr ⟨by rfl, rfl⟩) hH ?_
          simp only [Act.put, zq1, zq2, zq3, zq4, zq5, zq6]
          refine zql 14 rfl (Or.inr ⟨by rfl, rfl⟩) hH ?_
          simp only [Act.put, zq1, zq2, zq3, zq4, zq5, zq6]
          refine zql 15 rfl (Or.inr ⟨by rfl, rfl⟩) hH ?_
          simp only [Act.put, zq1, zq2, zq3, zq4, zq5, zq6]
          refine zql 16 rfl (Or.inr ⟨by rfl, rfl⟩) hH ?_
          simp only [Act.put, zq1, zq2, zq3, zq4, zq5, zq6]
          refine zql 17 rfl (Or.inr ⟨by rfl, rfl⟩) hH ?_
          simp only [Act.put, zq1, zq2, zq3, zq4, zq5, zq6]
          refine zqk 18 rfl hH ?_
          simp only [Act.put, zq1, zq2, zq3, zq4, zq5, zq6]
          refine wpAnyH_done (by kernel_rfl) ?_ _
          have HN : Hid (upK S.x (j + 1) = upK S.x j) := by show _ = _; rw [HNX.out, if_neg (by unfold SN.may; rw [m1, m2]; simp)]
          have HF := hH
          clear hH
          go_wp2
          go_roundw
          case rel => exact ⟨j + 1, by omega, by omega, by go_num, by rw [HN.out]; exact HO.out.kept HF.2.2.2, HF.1, andThen HBEL.out HF.2.2.2⟩
          case measure => simp [intOf]; omega
        | true =>
          cases m3 : (((j : Int) == 7) == S.x.atEnd) with
          | false =>
            go_wp2
            refine wp_region_held_drew (S := fun w' : World => w'.rangeAt w.heap.size 0 D ∧ w'.cell? ⟨w.heap.size, 9, none⟩ = some (.bool S.x.fl) ∧ w'.cell? ⟨0, j * 2 + 1, none⟩ = some (.bool (lands j)) ∧ Below wr.heap.size wr w') (by kernel_rfl) ?_ (fun hH => ?_)
            · exact HS.out _ (range_kept hR (Below.drew (Below.refl _ _))) (Below.drew (Below.refl _ _))
            refine zql 0 rfl (yieldsIf_load_mid (by rfl) _ _ rfl _ _ rfl D _ (fun w' hSw => hSw.1) Tryz.underlying29 rfl HL.out) hH ?_
            simp only [Act.put, zq1, zq2, zq3, zq4, zq5]
            refine zqk 1 rfl hH ?_
            simp only [Act.put, zq1, zq2, zq3, zq4, zq5, zq6]
            refine zqr 2 rfl (fun K hK => ?_)
            go_simp
            refine (HIP.out j _ hj2 hlt (andThen HBEL.out hH.2.2.2)).mono ?_
            rintro e wa ⟨rfl, ba⟩
            refine hK.out _ _ ?_ (fun hH2 => ?_)
            · exact HS.out _ (range_kept hH.1 ba) (andThen hH.2.2.2 ba)
            clear hK K hH
            have hH := hH2
            clear hH2
            rw [m1]
            clear ba
            refine zqk 3 rfl hH ?_
            simp only [Act.put, zq1, zq2, zq3, zq4, zq5, zq6]
            refine zqk 4 rfl hH ?_
            simp only [Act.put, zq1, zq2, zq3, zq4, zq5, zq6]
            refine zqk 5 rfl hH ?_
            simp only [Act.put, zq1, zq2, zq3, zq4, zq5, zq6]
            refine zqk 6 rfl hH ?_
            simp only [Act.put, zq1, zq2, zq3, zq4, zq5, zq6]
            refine zqk 7 rfl hH ?_
            simp only [Act.put, zq1, zq2, zq3, zq4, zq5, zq6]
            refine zqk 8 rfl hH ?_
            simp only [Act.put, zq1, zq2, zq3, zq4, zq5, zq6]
            refine zqk 9 rfl hH ?_
            simp only [Act.put, zq1, zq2, zq3, zq4, zq5, zq6]
            refine zqk 10 rfl hH ?_
            simp only [Act.put, zq1, zq2, zq3, zq4, zq5, zq6]
            refine zqk 11 rfl hH ?_
            simp only [Act.put, zq1, zq2, zq3, zq4, zq5, zq6]
            refine zqk 12 rfl hH ?_
            simp only [Act.put, zq1, zq2, zq3, zq4, zq5, zq6]
            refine zqk 13 rfl hH ?_
            simp only [Act.put, zq1, zq2, zq3, zq4, zq5, zq6]
            refine zqk 14 rfl hH ?_
            simp only [Act.put, zq1, zq2, zq3, zq4, zq5, zq6]
            refine zql 15 rfl (yieldsIf_load_mid (by rfl) _ _ rfl _ _ rfl D _ (fun w' hSw => hSw.1) Tryz.underlying29 rfl HL.out) hH ?_
            simp only [Act.put, zq1, zq2, zq3, zq4, zq5, zq6]
            refine zqr 16 rfl (fun K hK => ?_)
            go_simp
            refine (HAE.out _).mono ?_
            rintro e wb ⟨rfl, bb⟩
            refine hK.out _ _ ?_ (fun hH2 => ?_)
            · exact HS.out _ (range_kept hH.1 bb) (andThen hH.2.2.2 bb)
            clear hK K hH
            have hH := hH2
            clear hH2
            clear bb
            refine zqk 17 rfl hH ?_
            simp only [Act.put, zq1, zq2, zq3, zq4, zq5, zq6]
            refine zqk 18 rfl hH ?_
            simp only [Act.put, zq1, zq2, zq3, zq4, zq5, zq6]
            refine wpAnyH_done (by kernel_rfl) ?_ _
            have HN : Hid (upK S.x (j + 1) = upK S.x j) := by show _ = _; rw [HNX.out, if_neg (by unfold SN.may; rw [m1, m2, m3]; simp)]
            have HF := hH
            clear hH
            go_wp2
            go_roundw
            case rel => exact ⟨j + 1, by omega, by omega, by go_num, by rw [HN.out]; exact HO.out.kept HF.2.2.2, HF.1, andThen HBEL.out HF.2.2.2⟩
            case measure => simp [intOf]; omega
          | true =>
            go_wp2
            refine wp_region_held_drew (S := fun w' : World => w'.rangeAt w.heap.size 0 D ∧ w'.cell? ⟨w.heap.size, 9, none⟩ = some (.bool S.x.fl) ∧ w'.cell? ⟨0, j * 2 + 1, none⟩ = some (.bool (lands j)) ∧ Below wr.heap.size wr w') (by kernel_rfl) ?_ (fun hH => ?_)
            · exact HS.out _ (range_kept hR (Below.drew (Below.refl _ _))) (Below.drew (Below.refl _ _))
            refine zql 0 rfl (yieldsIf_load_mid (by rfl) _ _ rfl _ _ rfl D _ (fun w' hSw => hSw.1) Tryz.underlying29 rfl HL.out) hH ?_
            simp only [Act.put, zq1, zq2, zq3, zq4, zq5]
            refine zqk 1 rfl hH ?_
            simp only [Act.put, zq1, zq2, zq3, zq4, zq5, zq6]
            refine zqr 2 rfl (fun K hK => ?_)
            go_simp
            refine (HIP.out j _ hj2 hlt (andThen HBEL.out hH.2.2.2)).mono ?_
            rintro e wa ⟨rfl, ba⟩
            refine hK.out _ _ ?_ (fun hH2 => ?_)
            · exact HS.out _ (range_kept hH.1 ba) (andThen hH.2.2.2 ba)
            clear hK K hH
            have hH := hH2
            clear hH2
            rw [m1]
            clear ba
            refine zqk 3 rfl hH ?_
            simp only [Act.put, zq1, zq2, zq3, zq4, zq5, zq6]
            refine zqk 4 rfl hH ?_
            simp only [Act.put, zq1, zq2, zq3, zq4, zq5, zq6]
            refine zqk 5 rfl hH ?_
            simp only [Act.put, zq1, zq2, zq3, zq4, zq5, zq6]
            refine zqk 6 rfl hH ?_
            simp only [Act.put, zq1, zq2, zq3, zq4, zq5, zq6]
            refine zqk 7 rfl hH ?_
            simp only [Act.put, zq1, zq2, zq3, zq4, zq5, zq6]
            refine zqk 8 rfl hH ?_
            simp only [Act.put, zq1, zq2, zq3, zq4, zq5, zq6]
            refine zqk 9 rfl hH ?_
            simp only [Act.put, zq1, zq2, zq3, zq4, zq5, zq6]
            refine zqk 10 rfl hH ?_
            simp only [Act.put, zq1, zq2, zq3, zq4, zq5, zq6]
            refine zqk 11 rfl hH ?_
            simp only [Act.put, zq1, zq2, zq3, zq4, zq5, zq6]
            refine zqk 12 rfl hH ?_
            simp only [Act.put, zq1, zq2, zq3, zq4, zq5, zq6]
            refine zqk 13 rfl hH ?_
            simp only [Act.put, zq1, zq2, zq3, zq4, zq5, zq6]
            refine zqk 14 rfl hH ?_
            simp only [Act.put, zq1, zq2, zq3, zq4, zq5, zq6]
            refine zql 15 rfl (yieldsIf_load_mid (by rfl) _ _ rfl _ _ rfl D _ (fun w' hSw => hSw.1) Tryz.underlying29 rfl HL.out) hH ?_
            simp only [Act.put, zq1, zq2, zq3, zq4, zq5, zq6]
            refine zqr 16 rfl (fun K hK => ?_)
            go_simp
            refine (HAE.out _).mono ?_
            rintro e wb ⟨rfl, bb⟩
            refine hK.out _ _ ?_ (fun hH2 => ?_)
            · exact HS.out _ (range_kept hH.1 bb) (andThen hH.2.2.2 bb)
            clear hK K hH
            have hH := hH2
            clear hH2
            clear bb
            refine zqk 17 rfl hH ?_
            simp only [Act.put, zq1, zq2, zq3, zq4, zq5, zq6]
            refine zqk 18 rfl hH ?_
            simp only [Act.put, zq1, zq2, zq3, zq4, zq5, zq6]
            refine wpAnyH_done (by kernel_rfl) ?_ _
            have HN : Hid (upK S.x (j + 1) = upK S.x j ++ [(j : Int)]) := by show _ = _; rw [HNX.out, if_pos (by unfold SN.may; rw [m1, m2, m3]; rfl)]
            have HF : Hid _ := hH
            clear hH
            have HLN : Hid ((upK S.x j).length ≤ 6) := upK_len _ _
            have HCE : Hid ((wb.alloc (.cells #[.int .i64 (j : Int)] 3)).cell? ⟨wb.heap.size, 0, none⟩ = some (.int .i64 (j : Int))) := by show _ = _; rw [World.cell?_alloc_new]; rfl
            have hlt0 : w.heap.size < wb.heap.size := World.block_lt_of_cell? wb ⟨w.heap.size, 9, none⟩ HF.out.2.1
            have HSZ : Hid (w.heap.size + 1 ≤ (wb.alloc (.cells #[.int .i64 (j : Int)] 3)).heap.size) := by show _ ≤ _; rw [heap_one]; omega
            clear hlt0
            go_wp2_with (at_builtin; refine Fld.wpList_app_int _ rfl (.tmp 35) (.tmp 37) 23 rfl (w.heap.size + 1) Fld.info3 Tryz.underlying23 _ (upK S.x j) rfl ((HO.out.kept HF.out.2.2.2).kept (up0 _ _)) _ (j : Int) rfl HCE.out (Nat.le_trans HLN.out (by decide)) HSZ.out ?_)
            intro v' w' hro hgr
            have HG : Hid (Fld.RoI (w.heap.size + 1) w' v' (upK S.x (j + 1)) ∧ w'.rangeAt w.heap.size 0 D ∧ Below w.heap.size w w') := by
              have hold : Fld.RoI (w.heap.size + 1) (wb.alloc (.cells #[.int .i64 (j : Int)] 3)) u3 (upK S.x j) := (HO.out.kept HF.out.2.2.2).kept (up0 _ _)
              have hbw : Below w.heap.size w (wb.alloc (.cells #[.int .i64 (j : Int)] 3)) := up (andThen HBEL.out HF.out.2.2.2) _
              refine ⟨by rw [HN.out]; exact hro, fun i v hv => ?_, (roI_weak hold (by omega)).below hbw hgr⟩
              have h1 := range_kept HF.out.1 (up0 _ (.cells #[.int .i64 (j : Int)] 3)) i v hv
              rw [← h1]
              refine World.cell?_of_block (w := wb.alloc (.cells #[.int .i64 (j : Int)] 3)) (hgr.block w.heap.size (World.block_lt_of_cell? _ _ h1) (fun e => ?_))
              have := roI_block hold _ e.symm
              omega
            clear hro hgr HCE HSZ HF HO HN
            go_wp2
            go_roundw
            case rel => exact ⟨j + 1, by omega, by omega, by go_num, HG.out.1, HG.out.2.1, HG.out.2.2⟩
            case measure => simp [intOf]; omega
    · obtain rfl : j = 8 := by omega
      have HF : Hid (Fld.RoI (w.heap.size + 1) wr u3 (upK S.x 8) ∧ Below w.heap.size w wr) := ⟨ho, hbel⟩
      clear ho hbel hR
      go_wp2
      go_ret
      exact ⟨_, rfl, HF.out.1, HF.out.2⟩
theorem allowed_any (S : Sg) (h : SH) (w : World) (k : SgAt w S h) (hT : Text.TabP 4 .i32 Text.Tx.lets w) (hK : KindsT w) (hnm : S.nm.size ≤ 140737488355000) : Calls Tryz.prog 29 #[sv S h] w fun e w' => ∃ v, e = .returned v ∧ Fld.RoI w.heap.size w' v (allowedP S) ∧ Below w.heap.size w w' := by
  cases hc : chkS S with
  | false =>
    have e : allowedP S = [] := by unfold allowedP; rw [if_pos (.inl hc)]
    rw [e]
    exact (allowed_c S h w k hT hnm hc).mono fun e w' ⟨he, hb⟩ => ⟨_, he, Fld.roI_nil _ _, hb⟩
  | true =>
    cases he : S.x.ended with
    | true =>
      have e : allowedP S = [] := by unfold allowedP; rw [if_pos (.inr he)]
      rw [e]
      exact (allowed_e S h w k hT hnm hc he).mono fun e w' ⟨he, hb⟩ => ⟨_, he, Fld.roI_nil _ _, hb⟩
    | false =>
      have e : allowedP S = upK S.x 8 := by unfold allowedP; rw [if_neg (by simp [hc, he])]; rfl
      rw [e]
      exact (allowed_l S h w k hT hK hnm hc he).mono fun e w' ⟨v, he, hr, hb⟩ => ⟨v, he, roI_weak hr (by omega), hb⟩
theorem apply_any (S : Sg) (h : SH) (r : Rec) (d : Value) (w : World) (k : SgAt w S h) (hb : Bs w d r.l) (hT : STabs w) (hnm : S.nm.size ≤ 140737488355000) (hnm2 : r.nm.size ≤ 140737488355000) (hf : r.x.fit) : Calls Tryz.prog 10 #[sv S h, rv r.x r.nm d] w fun e w' => ApPost w (applyP S r) e w' := by
  unfold applyP
  cases hc : chkS S with
  | false => rw [if_pos rfl]; exact apply_c S h r d w k hT hnm hc
  | true =>
    rw [if_neg (by simp)]
    by_cases h0 : (upP 3 r).1 = 0
    · rw [if_neg (by simpa using h0)]
      by_cases h1 : refP S.x (upP 3 r).2.x = 0
      · rw [if_neg (by simpa using h1)]
        obtain ⟨⟨_, _, _, hv⟩, _⟩ := up3 r hb.good h0
        have hk1 := (ref_zero h1).2.1
        have hk : (upP 3 r).2.x.k = 2 ∨ (upP 3 r).2.x.k = 3 ∨ (upP 3 r).2.x.k = 4 ∨ (upP 3 r).2.x.k = 5 ∨ (upP 3 r).2.x.k = 6 ∨ (upP 3 r).2.x.k = 7 := by omega
        rcases hk with hk | hk | hk | hk | hk | hk
        · exact apply_2 S h r d w k hb hT hnm hnm2 hf hc h0 h1 hk
        · exact apply_3 S h r d w k hb hT hnm hnm2 hf hc h0 h1 hk
        · exact apply_4 S h r d w k hb hT hnm hnm2 hf hc h0 h1 hk
        · exact apply_5 S h r d w k hb hT hnm hnm2 hf hc h0 h1 hk
        · exact apply_6 S h r d w k hb hT hnm hnm2 hf hc h0 h1 hk
        · exact apply_7 S h r d w k hb hT hnm hnm2 hf hc h0 h1 hk
      · rw [if_pos h1]; exact apply_r S h r d w k hb hT hnm hnm2 hf hc h0 h1
    · rw [if_pos h0]; exact apply_u S h r d w k hb hT hnm hnm2 hf hc h0
theorem snum_any (z : Int) (w : World) : Calls Tryz.prog 8 #[.int .i64 z] w fun e w' => e = .returned (.int .i64 z) ∧ w = w' := by
  go_enter Tryz.func8, Tryz.ntmps8
  go_wp2
  go_ret
  exact ⟨rfl, rfl⟩
theorem results_cell_cell {P : Program} {fn : Func} {p q : Tmp} {ty ty2 : TypeId} (h : fn.results = #[.cell p ty, .cell q ty2]) (tmps : Array Value) (w : World) (g g2 : Nat) (cs cs2 : List Value) (d d2 : TypeDesc)
    (hp : tmps.getD p undef = .pointer (some ⟨g, 0, none⟩)) (hc : w.rangeAt g 0 cs) (hu : P.underlying ty = some d) (hd : d.isRow = true) (hi : (P.info? ty).map (·.size) = some cs.length)
    (hp2 : tmps.getD q undef = .pointer (some ⟨g2, 0, none⟩)) (hc2 : w.rangeAt g2 0 cs2) (hu2 : P.underlying ty2 = some d2) (hd2 : d2.isRow = true) (hi2 : (P.info? ty2).map (·.size) = some cs2.length) :
    (results fn tmps).run P w = .ok (.tuple #[.agg cs.toArray, .agg cs2.toArray]) w := by
  have hp' : tmps[p]?.getD undef = .pointer (some ⟨g, 0, none⟩) := by simpa using hp
  have hp2' : tmps[q]?.getD undef = .pointer (some ⟨g2, 0, none⟩) := by simpa using hp2
  simp [results, h, hp', hp2', asAddr, run_loadVar_mid w g 0 ty cs d hc hu hd hi, run_loadVar_mid w g2 0 ty2 cs2 d2 hc2 hu2 hd2 hi2]
def buy : ByteArray := ⟨#[98, 117, 121]⟩
def rec1 : Rec := ⟨⟨3, 1, 7, 0, 0, 5, 0, 0, 2, 1⟩, buy, [105, 110]⟩
def sg1 : Sg := ⟨⟨7, 2, 1, 5, 5, 1, 0, false, 0, 0, 0⟩, buy, [105, 110], [], [], []⟩
theorem in_newM (w : World) : Bs (w.alloc (.cells #[.int .u8 105, .int .u8 110] 5 (2, 3))) (.slice (some ⟨w.heap.size, 0, none⟩) 2 2) [105, 110] := by
  refine ⟨⟨some ⟨w.heap.size, 0, none⟩, 2, rfl, Nat.le_refl _, by simp [maxLen], fun e => (by cases e), fun _ => ⟨w.heap.size, 0, rfl, fun j hj => ?_⟩⟩, by intro x hx; simp at hx; omega⟩
  have e := heap_new w (.cells #[.int .u8 105, .int .u8 110] 5 (2, 3))
  rw [Nat.zero_add]
  match j, hj with
  | 0, _ => unfold World.cell?; rw [e]; rfl
  | 1, _ => unfold World.cell?; rw [e]; rfl
def FirstPost (w : World) (e : Ending) (w' : World) : Prop := ∃ a, ∃ c : Nat, ∃ h1 : SH, e = .returned (.tuple #[rv rec1.x rec1.nm (.slice a rec1.l.length c), sv sg1 h1]) ∧ Bs w' (.slice a rec1.l.length c) rec1.l ∧ SgAt w' sg1 h1 ∧ Below w.heap.size w w'
set_option maxRecDepth 100000 in
set_option maxHeartbeats 4000000 in
theorem first_any (w : World) : Calls Tryz.prog 5 #[] w fun e w' => FirstPost w e w' := by
  obtain ⟨Z, hZ⟩ : ∃ Z, Z = zcl := ⟨_, rfl⟩
  obtain ⟨ZR, hZR⟩ : ∃ ZR, ZR = zrl := ⟨_, rfl⟩
  have HZ : Hid (Z = zcl) := hZ
  have HZR : Hid (ZR = zrl) := hZR
  clear hZ hZR
  obtain ⟨L, hL⟩ : ∃ L : List Value, [.int .i64 3, .int .i64 1, .int .i64 7, .int .i64 0, .int .i64 0, .int .i64 5, .int .i64 0, .int .i64 0, .int .i64 2, .int .i64 1, .string ⟨#[98, 117, 121]⟩, .slice (some ⟨w.heap.size + 1 + 1, 0, none⟩) 2 2] = L := ⟨_, rfl⟩
  have HL : Hid (L = rcE rec1.x rec1.nm (.slice (some ⟨w.heap.size + 1 + 1, 0, none⟩) 2 2)) := hL.symm
  have HLI : Hid ((Tryz.prog.info? 26).map (·.size) = some L.length) := by show _ = _; rw [HL.out]; exact infoRec
  have HL1 : Hid (∀ v ∈ L, v.oneCell' = true) := by show ∀ v ∈ L, _; rw [HL.out]; exact rcE_one _ _ _ rfl
  have HLZ : Hid (L.length = ZR.length) := by show _ = _; rw [HL.out, HZR.out]; rfl
  -- behind b's box
  have H3 : Hid (∃ W3, W3 = ((((w.alloc (.cells ZR.toArray 26)).alloc (.cells Z.toArray 29)).alloc (.cells #[.int .u8 105, .int .u8 110] 5 (2, 3))).alloc (.cells ZR.toArray 26)).setCells (w.heap.size + 1 + 1 + 1) 0 L ∧ LB W3 w.heap.size 26 ZR ∧ LB W3 (w.heap.size + 1) 29 Z ∧ LB W3 (w.heap.size + 1 + 1 + 1) 26 L ∧ Bs W3 (.slice (some ⟨w.heap.size + 1 + 1, 0, none⟩) 2 2) [105, 110] ∧ w.heap.size + 1 + 1 + 1 < W3.heap.size ∧ Below w.heap.size w W3) := by
    obtain ⟨a1, a2, a3⟩ := lb_new2 w ZR Z 26 29
    have b1 := in_newM ((w.alloc (.cells ZR.toArray 26)).alloc (.cells Z.toArray 29))
    rw [heap_one, heap_one] at b1
    have c1 := lb_new (((w.alloc (.cells ZR.toArray 26)).alloc (.cells Z.toArray 29)).alloc (.cells #[.int .u8 105, .int .u8 110] 5 (2, 3))) ZR 26
    rw [heap_one, heap_one, heap_one] at c1
    have hb := (b1.alloc (.cells ZR.toArray 26))
    refine ⟨_, rfl, ((a1.kept (up0 _ _)).kept (up0 _ _)).others _ _ _ (by omega), ((a2.kept (up0 _ _)).kept (up0 _ _)).others _ _ _ (by omega), c1.sets L HLZ.out, bs_off hb _ _ _ (fun _ b off n cap e => ?_), by rw [size_cells, heap_one, heap_one, heap_one, heap_one]; omega, below_cells (by omega) _ 0 _ (up (up a3 _) _)⟩
    simp only [Value.slice.injEq, Option.some.injEq, Addr.mk.injEq] at e
    omega
  have kc : (convert 24 24 (.slice (some ⟨w.heap.size + 1 + 1, 0, none⟩) 2 2)).run Tryz.prog (((w.alloc (.cells ZR.toArray 26)).alloc (.cells Z.toArray 29)).alloc (.cells #[.int .u8 105, .int .u8 110] 5)) = .ok (.slice (some ⟨w.heap.size + 1 + 1, 0, none⟩) 2 2) (((w.alloc (.cells ZR.toArray 26)).alloc (.cells Z.toArray 29)).alloc (.cells #[.int .u8 105, .int .u8 110] 5 (2, 3))) := by
    have e := Lib.run_convert_bytes_const (P := Tryz.prog) ((w.alloc (.cells ZR.toArray 26)).alloc (.cells Z.toArray 29)) 24 5 #[.int .u8 105, .int .u8 110] 2 2 Tryz.underlying24 Tryz.underlying5
    rw [heap_one, heap_one] at e
    exact e
  have HZL : Hid (Z.length = 16) := by show _ = _; rw [HZ.out]; rfl
  go_enter Tryz.func5, Tryz.ntmps5
  go_wp2_with (first | (refine wpList_alloc_R HZR.out rfl rfl ?_; (try simp only [heap_one])) | (refine wpList_alloc_Z HZ.out rfl rfl ?_; (try simp only [heap_one])) | (refine wpList_store_mid rfl 26 (.tmp 2) (.tmp 5) rfl (w.heap.size + 1 + 1 + 1) 0 L.toArray rfl rfl (there_of (Z := ZR) (by have c1 := lb_new (((w.alloc (.cells ZR.toArray 26)).alloc (.cells Z.toArray 29)).alloc (.cells #[.int .u8 105, .int .u8 110] 5 (2, 3))) ZR 26; rw [heap_one, heap_one, heap_one] at c1; exact c1) (by simpa using HLZ.out)) (by simpa using HLI.out) (all_oneCell_toArray HL1.out) ?_; (obtain ⟨W3, hW3, hq⟩ := H3.out); (have H4 : Hid _ := hq); (rw [List.toList_toArray, ← hW3]); (have kc3 : (convert 24 24 (.slice (some ⟨W3.heap.size, 0, none⟩) 2 2)).run Tryz.prog (W3.alloc (.cells #[.int .u8 105, .int .u8 110] 5)) = .ok (.slice (some ⟨W3.heap.size, 0, none⟩) 2 2) (W3.alloc (.cells #[.int .u8 105, .int .u8 110] 5 (2, 3))) := Lib.run_convert_bytes_const (P := Tryz.prog) W3 24 5 #[.int .u8 105, .int .u8 110] 2 2 Tryz.underlying24 Tryz.underlying5); (clear hW3 hq H3); (obtain ⟨M, hM⟩ : ∃ M : List Value, [.int .i64 7, .string ⟨#[98, 117, 121]⟩, .int .i64 2, .int .i64 1, .int .i64 5, .int .i64 5, .slice (some ⟨W3.heap.size, 0, none⟩) 2 2, .int .i64 1, .int .i64 0, .bool false, .int .i64 0, .slice none 0 0, .slice none 0 0, .int .i64 0, .int .i64 0, .slice none 0 0] = M := ⟨_, rfl⟩); (have HM : Hid (M = scl sg1 ⟨some ⟨W3.heap.size, 0, none⟩, 2, none, 0, none, 0, none, 0⟩) := hM.symm); (have HMI : Hid ((Tryz.prog.info? 29).map (·.size) = some M.length) := (by show _ = _; rw [HM.out]; exact infoSaga)); (have HM1 : Hid (∀ v ∈ M, v.oneCell' = true) := (by show ∀ v ∈ M, _; rw [HM.out]; exact scl_one _ _)); (have HMZ : Hid (M.length = Z.length) := (by show _ = _; rw [HM.out, HZL.out]; rfl))) | (refine wpList_load_mid rfl 26 _ rfl (w.heap.size + 1 + 1 + 1) 0 rfl L _ H4.out.2.2.1.range Tryz.underlying26 rfl HLI.out ?_) | (refine wpList_store_mid rfl 26 (.tmp 0) (.tmp 6) rfl w.heap.size 0 L.toArray rfl rfl (there_of (H4.out.1.kept (up0 _ _)) (by simpa using HLZ.out)) (by simpa using HLI.out) (all_oneCell_toArray HL1.out) ?_; (rw [List.toList_toArray])) | (refine wpList_store_mid rfl 29 (.tmp 1) (.tmp 9) rfl (w.heap.size + 1) 0 M.toArray rfl rfl (there_of ((H4.out.2.1.kept (up0 _ _)).others _ _ _ (by omega)) (by simpa using HMZ.out)) (by simpa using HMI.out) (all_oneCell_toArray HM1.out) ?_; (rw [List.toList_toArray])) | fail)
  have HN : Hid (LB (((W3.alloc (.cells #[.int .u8 105, .int .u8 110] 5 (2, 3))).setCells w.heap.size 0 L).setCells (w.heap.size + 1) 0 M) w.heap.size 26 L ∧ LB (((W3.alloc (.cells #[.int .u8 105, .int .u8 110] 5 (2, 3))).setCells w.heap.size 0 L).setCells (w.heap.size + 1) 0 M) (w.heap.size + 1) 29 M ∧ Bs (((W3.alloc (.cells #[.int .u8 105, .int .u8 110] 5 (2, 3))).setCells w.heap.size 0 L).setCells (w.heap.size + 1) 0 M) (.slice (some ⟨w.heap.size + 1 + 1, 0, none⟩) 2 2) [105, 110] ∧ Bs (((W3.alloc (.cells #[.int .u8 105, .int .u8 110] 5 (2, 3))).setCells w.heap.size 0 L).setCells (w.heap.size + 1) 0 M) (.slice (some ⟨W3.heap.size, 0, none⟩) 2 2) [105, 110] ∧ Below w.heap.size w (((W3.alloc (.cells #[.int .u8 105, .int .u8 110] 5 (2, 3))).setCells w.heap.size 0 L).setCells (w.heap.size + 1) 0 M)) := by
    obtain ⟨q1, q2, q3, q4, q5, q6⟩ := H4.out
    have hoff : ∀ (b g : Nat), b ≠ g → Off g (.slice (some ⟨b, 0, none⟩) 2 2) [105, 110] := fun b g hne _ b' off n cap e => by
      simp only [Value.slice.injEq, Option.some.injEq, Addr.mk.injEq] at e
      omega
    exact ⟨((q1.kept (up0 _ _)).sets L HLZ.out).others _ _ _ (by omega), ((q2.kept (up0 _ _)).others _ _ _ (by omega)).sets M HMZ.out, bs_off (bs_off (q4.alloc _) _ _ _ (hoff _ _ (by omega))) _ _ _ (hoff _ _ (by omega)), bs_off (bs_off (in_newM W3) _ _ _ (hoff _ _ (by omega))) _ _ _ (hoff _ _ (by omega)), below_cells (by omega) _ 0 _ (below_cells (Nat.le_refl _) _ 0 _ (up q6 _))⟩
  refine bodyPost_ret (results_cell_cell (p := 0) (q := 1) (ty := 26) (ty2 := 29) rfl _ (((W3.alloc (.cells #[.int .u8 105, .int .u8 110] 5 (2, 3))).setCells w.heap.size 0 L).setCells (w.heap.size + 1) 0 M) w.heap.size (w.heap.size + 1) L M _ _ rfl HN.out.1.range Tryz.underlying26 rfl HLI.out rfl HN.out.2.1.range Tryz.underlying29 rfl HMI.out) rfl ?_
  exact ⟨some ⟨w.heap.size + 1 + 1, 0, none⟩, 2, ⟨some ⟨W3.heap.size, 0, none⟩, 2, none, 0, none, 0, none, 0⟩, by rw [HL.out, HM.out]; rfl, HN.out.2.2.1, ⟨HN.out.2.2.2.1, ⟨none, 0, rfl, by simp [sg1], fun e => absurd rfl e⟩, ⟨none, 0, rfl, by simp [sg1], fun e => absurd rfl e⟩, Bs.nil _⟩, HN.out.2.2.2.2⟩
end Go.Proofs.YtdhpfplmgeljaaaGreatDoor
