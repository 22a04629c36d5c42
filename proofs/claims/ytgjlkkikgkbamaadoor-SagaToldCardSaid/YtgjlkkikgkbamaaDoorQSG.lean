import Derived.Test.YtgjlkkikgkbamaaDoorQS4
import Derived.Test.YtgjlkkikgkbamaaDoorQF1
/-
  Package saga: Allowed.
-/
namespace Go.Proofs.YtgjlkkikgkbamaaDoor
open Go Go.RowKit
open Wb

/-- the kinds below j that may come -/
def upK (x : SN) (j : Nat) : List Int := (([2, 3, 4, 5, 6, 7] : List Int).take (j - 2)).filter x.may
theorem upK_next (x : SN) (j : Nat) (h2 : 2 ≤ j) (h7 : j ≤ 7) : upK x (j + 1) = if x.may j then upK x j ++ [(j : Int)] else upK x j := by
  have e : ([2, 3, 4, 5, 6, 7] : List Int).take (j + 1 - 2) = ([2, 3, 4, 5, 6, 7] : List Int).take (j - 2) ++ [(j : Int)] := by
    obtain rfl | rfl | rfl | rfl | rfl | rfl : j = 2 ∨ j = 3 ∨ j = 4 ∨ j = 5 ∨ j = 6 ∨ j = 7 := by omega
    all_goals rfl
  unfold upK
  rw [e, List.filter_append]
  by_cases h : x.may j = true <;> simp [h]
theorem roI_weak {B B2 : Nat} {w : World} {v : Value} {l : List Int} (h : Fld.RoI B2 w v l) (hB : B ≤ B2) : Fld.RoI B w v l := by
  refine ⟨h.1, ?_⟩
  rcases h.2 with h1 | ⟨g, cap, cur, e, hb, rest⟩
  · exact .inl h1
  · exact .inr ⟨g, cap, cur, e, Nat.le_trans hB hb, rest⟩
theorem roI_block {B : Nat} {w : World} {v : Value} {l : List Int} (h : Fld.RoI B w v l) (g : Nat) (e : v.ownBlock = some g) : B ≤ g := by
  rcases h.2 with ⟨rfl, _⟩ | ⟨g', cap, cur, rfl, h1, _⟩
  · simp [Value.ownBlock] at e
  · simp [Value.ownBlock] at e
    omega
theorem upK_len (x : SN) (j : Nat) : (upK x j).length ≤ 6 := by
  unfold upK
  refine Nat.le_trans (List.length_filter_le _ _) ?_
  simp
  omega
theorem kinds_bool (w : World) (h : KindsT w) (j : Nat) (hj : j < 8) : w.cell? ⟨0, j * 2 + 1, none⟩ = some (.bool (lands j)) := by
  have e := (h j hj).2
  rwa [Nat.mul_comm] at e
set_option maxRecDepth 100000 in
set_option maxHeartbeats 4000000 in
theorem allowed_c (S : Sg) (h : SH) (w : World) (k : SgAt w S h) (hT : Text.TabP 3 .i32 Text.Tx.lets w) (hnm : S.nm.size ≤ 140737488355000) (hc : chkS S = false) : Calls Tryd.prog 14 #[sv S h] w fun e w' => e = .returned (.slice none 0 0) ∧ Below w.heap.size w w' := by
  have HCK0 : ∀ w', Below w.heap.size w w' → Calls Tryd.prog 18 #[sv S h] w' fun e w'' => e = .returned (.int .i64 100) ∧ Below w'.heap.size w' w'' := fun w' hb => by have e := scheck_any S h w' (k.kept hb) (hT.kept hb) hnm; rw [hc] at e; exact e
  obtain ⟨D, hD, hL, hE⟩ := sv_letter S h
  rw [hD] at HCK0 ⊢
  have HCK : Hid _ := HCK0
  have HL : Hid _ := hL
  have HE : Hid (D = scl S h) := hE
  have HX : Hid (∀ t, (w.alloc (.cells D.toArray t)).rangeAt w.heap.size 0 D ∧ Below w.heap.size w (w.alloc (.cells D.toArray t))) := fun t => boxed w D t
  clear hD hL hE HCK0
  clear k hT hnm HE hc
  go_enter Tryd.func14, Tryd.ntmps14
  go_wp2_with (first | (refine wpList_load_mid rfl 28 _ rfl w.heap.size 0 rfl D _ (HX.out _).1 Tryd.underlying28 rfl HL.out ?_) | (refine wpList_load_midG rfl 28 _ rfl w.heap.size 0 rfl D _ (HX.out _).1 Tryd.underlying28 rfl HL.out ?_))
  refine (HCK.out _ (HX.out _).2).mono ?_
  rintro e w1 ⟨rfl, b1⟩
  have B1 := andThen (HX.out _).2 b1
  go_wp2
  go_ret
  exact ⟨rfl, B1⟩
set_option maxRecDepth 100000 in
set_option maxHeartbeats 4000000 in
theorem allowed_e (S : Sg) (h : SH) (w : World) (k : SgAt w S h) (hT : Text.TabP 3 .i32 Text.Tx.lets w) (hnm : S.nm.size ≤ 140737488355000) (hc : chkS S = true) (he : S.x.ended = true) : Calls Tryd.prog 14 #[sv S h] w fun e w' => e = .returned (.slice none 0 0) ∧ Below w.heap.size w w' := by
  have HCK0 : ∀ w', Below w.heap.size w w' → Calls Tryd.prog 18 #[sv S h] w' fun e w'' => e = .returned (.int .i64 0) ∧ Below w'.heap.size w' w'' := fun w' hb => by have e := scheck_any S h w' (k.kept hb) (hT.kept hb) hnm; rw [hc] at e; exact e
  have HEN0 : ∀ w', Calls Tryd.prog 25 #[sv S h] w' fun e w'' => e = .returned (.bool true) ∧ Below w'.heap.size w' w'' := fun w' => by rw [← he]; exact ended_any S h w'
  obtain ⟨D, hD, hL, hE⟩ := sv_letter S h
  rw [hD] at HCK0 HEN0 ⊢
  have HCK : Hid _ := HCK0
  have HEN : Hid _ := HEN0
  have HL : Hid _ := hL
  have HE : Hid (D = scl S h) := hE
  have HX : Hid (∀ t, (w.alloc (.cells D.toArray t)).rangeAt w.heap.size 0 D ∧ Below w.heap.size w (w.alloc (.cells D.toArray t))) := fun t => boxed w D t
  clear hD hL hE HCK0 HEN0
  clear k hT hnm HE hc he
  go_enter Tryd.func14, Tryd.ntmps14
  go_wp2_with (first | (refine wpList_load_mid rfl 28 _ rfl w.heap.size 0 rfl D _ (HX.out _).1 Tryd.underlying28 rfl HL.out ?_) | (refine wpList_load_midG rfl 28 _ rfl w.heap.size 0 rfl D _ (HX.out _).1 Tryd.underlying28 rfl HL.out ?_))
  refine (HCK.out _ (HX.out _).2).mono ?_
  rintro e w1 ⟨rfl, b1⟩
  have B1 := andThen (HX.out _).2 b1
  have R1 := range_kept (HX.out _).1 b1
  clear b1 HX HCK
  go_wp2_with (first | (refine wpList_load_mid rfl 28 _ rfl w.heap.size 0 rfl D _ R1 Tryd.underlying28 rfl HL.out ?_) | (refine wpList_load_midG rfl 28 _ rfl w.heap.size 0 rfl D _ R1 Tryd.underlying28 rfl HL.out ?_))
  refine (HEN.out _).mono ?_
  rintro e w2 ⟨rfl, b2⟩
  have B2 := andThen B1 b2
  clear b2 B1 R1 HEN
  go_wp2
  go_ret
  exact ⟨rfl, B2⟩
set_option maxRecDepth 100000 in
set_option maxHeartbeats 4000000 in
theorem allowed_l (S : Sg) (h : SH) (w : World) (k : SgAt w S h) (hT : Text.TabP 3 .i32 Text.Tx.lets w) (hK : KindsT w) (hnm : S.nm.size ≤ 140737488355000) (hc : chkS S = true) (he : S.x.ended = false) : Calls Tryd.prog 14 #[sv S h] w fun e w' => ∃ v, e = .returned v ∧ Fld.RoI (w.heap.size + 1) w' v (upK S.x 8) ∧ Below w.heap.size w w' := by
  have HCK0 : ∀ w', Below w.heap.size w w' → Calls Tryd.prog 18 #[sv S h] w' fun e w'' => e = .returned (.int .i64 0) ∧ Below w'.heap.size w' w'' := fun w' hb => by have e := scheck_any S h w' (k.kept hb) (hT.kept hb) hnm; rw [hc] at e; exact e
  have HEN0 : ∀ w', Calls Tryd.prog 25 #[sv S h] w' fun e w'' => e = .returned (.bool false) ∧ Below w'.heap.size w' w'' := fun w' => by rw [← he]; exact ended_any S h w'
  have HIP0 : ∀ (j : Nat) (w' : World), 2 ≤ j → j ≤ 7 → Below w.heap.size w w' → Calls Tryd.prog 26 #[sv S h, .int .i64 (j : Int)] w' fun e w'' => e = .returned (.bool (S.x.inPh j)) ∧ Below w'.heap.size w' w'' := fun j w' h2 h7 hb => inPh_any S h j w' (by omega) (hK.kept hb)
  have HAE0 : ∀ w', Calls Tryd.prog 27 #[sv S h] w' fun e w'' => e = .returned (.bool S.x.atEnd) ∧ Below w'.heap.size w' w'' := fun w' => atEnd_any S h w'
  have HKB : Hid (∀ (j : Nat) (w' : World), j < 8 → Below w.heap.size w w' → w'.cell? ⟨0, j * 2 + 1, none⟩ = some (.bool (lands j))) := fun j w' hj hb => kinds_bool w' (hK.kept hb) j hj
  obtain ⟨D, hD, hL, hE⟩ := sv_letter S h
  rw [hD] at HCK0 HEN0 HIP0 HAE0 ⊢
  have HCK : Hid _ := HCK0
  have HEN : Hid _ := HEN0
  have HIP : Hid _ := HIP0
  have HAE : Hid _ := HAE0
  have HL : Hid _ := hL
  have HE : Hid (D = scl S h) := hE
  have HX : Hid (∀ t, (w.alloc (.cells D.toArray t)).rangeAt w.heap.size 0 D ∧ Below w.heap.size w (w.alloc (.cells D.toArray t))) := fun t => boxed w D t
  clear hD hL hE HCK0 HEN0 HIP0 HAE0
  clear k hT hnm hc he hK
  go_enter Tryd.func14, Tryd.ntmps14
  go_wp2_with (first | (refine wpList_load_mid rfl 28 _ rfl w.heap.size 0 rfl D _ (HX.out _).1 Tryd.underlying28 rfl HL.out ?_) | (refine wpList_load_midG rfl 28 _ rfl w.heap.size 0 rfl D _ (HX.out _).1 Tryd.underlying28 rfl HL.out ?_))
  refine (HCK.out _ (HX.out _).2).mono ?_
  rintro e w1 ⟨rfl, b1⟩
  have B1 := andThen (HX.out _).2 b1
  have R1 := range_kept (HX.out _).1 b1
  clear b1 HX HCK
  go_wp2_with (first | (refine wpList_load_mid rfl 28 _ rfl w.heap.size 0 rfl D _ R1 Tryd.underlying28 rfl HL.out ?_) | (refine wpList_load_midG rfl 28 _ rfl w.heap.size 0 rfl D _ R1 Tryd.underlying28 rfl HL.out ?_))
  refine (HEN.out _).mono ?_
  rintro e w2 ⟨rfl, b2⟩
  have B2 := andThen B1 b2
  have R2 := range_kept R1 b2
  clear b2 B1 R1 HEN
  go_wp2
  go_loopw [3, 4] (fun o i wr => ∃ j : Nat, 2 ≤ j ∧ j ≤ 8 ∧ i = .int .i64 (j : Int) ∧ Fld.RoI (w.heap.size + 1) wr o (upK S.x j) ∧ wr.rangeAt w.heap.size 0 D ∧ Below w.heap.size w wr) (fun _ i _ => 8 - (intOf i).toNat)
  case atStart => exact ⟨2, by omega, by omega, rfl, Fld.roI_nil _ _, R2, B2⟩
  case round =>
    obtain ⟨j, hj2, hj8, rfl, ho, hR, hbel⟩ := hrel
    by_cases hlt : j ≤ 7
    · have h7 : ((j : Int) ≤ 7) = True := by simp; omega
      have h8 : (j : Int) < 8 := by omega
      have h80 : (0 : Int) ≤ (j : Int) := by omega
      have hjn : j < 8 := by omega
      have HS : Hid (∀ w' : World, w'.rangeAt w.heap.size 0 D → Below wr.heap.size wr w' → w'.rangeAt w.heap.size 0 D ∧ w'.cell? ⟨w.heap.size, 9, none⟩ = some (.bool S.x.fl) ∧ w'.cell? ⟨0, j * 2 + 1, none⟩ = some (.bool (lands j)) ∧ Below wr.heap.size wr w') := fun w' hr hb => ⟨hr, range_cell hr 9 _ (by rw [HE.out]; rfl), HKB.out j w' hjn (andThen hbel hb), hb⟩
      have HO : Hid (Fld.RoI (w.heap.size + 1) wr u3 (upK S.x j)) := ho
      have HBEL : Hid (Below w.heap.size w wr) := hbel
      have HNX : Hid (upK S.x (j + 1) = if S.x.may j then upK S.x j ++ [(j : Int)] else upK S.x j) := upK_next S.x j hj2 hlt
      clear ho
      cases m1 : S.x.inPh j with
      | false =>
        go_wp2
        refine wp_region_held_drew (S := fun w' : World => w'.rangeAt w.heap.size 0 D ∧ w'.cell? ⟨w.heap.size, 9, none⟩ = some (.bool S.x.fl) ∧ w'.cell? ⟨0, j * 2 + 1, none⟩ = some (.bool (lands j)) ∧ Below wr.heap.size wr w') (by kernel_rfl) ?_ (fun hH => ?_)
        · exact HS.out _ (range_kept hR (Below.drew (Below.refl _ _))) (Below.drew (Below.refl _ _))
        refine wpAnyH_take (i := 0) rfl (by kernel_rfl) (by kernel_rfl) (by kernel_rfl) (fun _ _ _ h => h) (yieldsIf_load_mid (by rfl) _ _ rfl _ _ rfl D _ (fun w' hSw => hSw.1) Tryd.underlying28 rfl HL.out) hH ?_
        simp only [Act.put, List.setIfInBounds_toArray, List.set_cons_zero, List.set_cons_succ, List.getElem_toArray, List.getElem_cons_zero]
        refine wpAnyH_take (i := 1) (v := ?v1) rfl (by kernel_rfl) (by kernel_rfl) (by kernel_rfl) (fun _ _ _ h => h) (Or.inl ⟨by rfl, ?hy1⟩) hH ?rest1
        case hy1 => intro w' hSw; (try dsimp only at hSw); go_simp; all_goals rfl
        simp only [Act.put, List.setIfInBounds_toArray, List.set_cons_zero, List.set_cons_succ, List.getElem_toArray, List.getElem_cons_zero, List.getElem_cons_succ]
        refine wpAnyH_ready (rs := [2]) (by kernel_rfl) (by simp) ?_
        refine AllReadyH.cons rfl (fun K hK => ?_) AllReadyH.nil
        go_simp
        refine (HIP.out j _ hj2 hlt (andThen HBEL.out hH.2.2.2)).mono ?_
        rintro e wa ⟨rfl, ba⟩
        refine hK.out _ _ ?_ (fun hH2 => ?_)
        · exact HS.out _ (range_kept hH.1 ba) (andThen hH.2.2.2 ba)
        clear hK K hH
        have hH := hH2
        clear hH2
        rw [m1]
        clear ba
        refine wpAnyH_take (i := 3) (v := ?v2) rfl (by kernel_rfl) (by kernel_rfl) (by kernel_rfl) (fun _ _ _ h => h) (Or.inl ⟨by rfl, ?hy2⟩) hH ?rest2
        case hy2 => intro w' hSw; (try dsimp only at hSw); go_simp; all_goals rfl
        simp only [Act.put, List.setIfInBounds_toArray, List.set_cons_zero, List.set_cons_succ, List.getElem_toArray, List.getElem_cons_zero, List.getElem_cons_succ]
        refine wpAnyH_take (i := 4) rfl (by kernel_rfl) (by kernel_rfl) (by kernel_rfl) (fun _ _ _ h => h) (Or.inr ⟨by rfl, rfl⟩) hH ?_
        simp only [Act.put, List.setIfInBounds_toArray, List.set_cons_zero, List.set_cons_succ, List.getElem_toArray, List.getElem_cons_zero, List.getElem_cons_succ]
        refine wpAnyH_take (i := 5) rfl (by kernel_rfl) (by kernel_rfl) (by kernel_rfl) (fun _ _ _ h => h) (Or.inr ⟨by rfl, rfl⟩) hH ?_
        simp only [Act.put, List.setIfInBounds_toArray, List.set_cons_zero, List.set_cons_succ, List.getElem_toArray, List.getElem_cons_zero, List.getElem_cons_succ]
        refine wpAnyH_take (i := 6) rfl (by kernel_rfl) (by kernel_rfl) (by kernel_rfl) (fun _ _ _ h => h) (Or.inr ⟨by rfl, rfl⟩) hH ?_
        simp only [Act.put, List.setIfInBounds_toArray, List.set_cons_zero, List.set_cons_succ, List.getElem_toArray, List.getElem_cons_zero, List.getElem_cons_succ]
        refine wpAnyH_take (i := 7) rfl (by kernel_rfl) (by kernel_rfl) (by kernel_rfl) (fun _ _ _ h => h) (Or.inr ⟨by rfl, rfl⟩) hH ?_
        simp only [Act.put, List.setIfInBounds_toArray, List.set_cons_zero, List.set_cons_succ, List.getElem_toArray, List.getElem_cons_zero, List.getElem_cons_succ]
        refine wpAnyH_take (i := 8) rfl (by kernel_rfl) (by kernel_rfl) (by kernel_rfl) (fun _ _ _ h => h) (Or.inr ⟨by rfl, rfl⟩) hH ?_
        simp only [Act.put, List.setIfInBounds_toArray, List.set_cons_zero, List.set_cons_succ, List.getElem_toArray, List.getElem_cons_zero, List.getElem_cons_succ]
        refine wpAnyH_take (i := 9) rfl (by kernel_rfl) (by kernel_rfl) (by kernel_rfl) (fun _ _ _ h => h) (Or.inr ⟨by rfl, rfl⟩) hH ?_
        simp only [Act.put, List.setIfInBounds_toArray, List.set_cons_zero, List.set_cons_succ, List.getElem_toArray, List.getElem_cons_zero, List.getElem_cons_succ]
        refine wpAnyH_take (i := 10) rfl (by kernel_rfl) (by kernel_rfl) (by kernel_rfl) (fun _ _ _ h => h) (Or.inr ⟨by rfl, rfl⟩) hH ?_
        simp only [Act.put, List.setIfInBounds_toArray, List.set_cons_zero, List.set_cons_succ, List.getElem_toArray, List.getElem_cons_zero, List.getElem_cons_succ]
        refine wpAnyH_take (i := 11) (v := ?v3) rfl (by kernel_rfl) (by kernel_rfl) (by kernel_rfl) (fun _ _ _ h => h) (Or.inl ⟨by rfl, ?hy3⟩) hH ?rest3
        case hy3 => intro w' hSw; (try dsimp only at hSw); go_simp; all_goals rfl
        simp only [Act.put, List.setIfInBounds_toArray, List.set_cons_zero, List.set_cons_succ, List.getElem_toArray, List.getElem_cons_zero, List.getElem_cons_succ]
        refine wpAnyH_take (i := 12) (v := ?v4) rfl (by kernel_rfl) (by kernel_rfl) (by kernel_rfl) (fun _ _ _ h => h) (Or.inl ⟨by rfl, ?hy4⟩) hH ?rest4
        case hy4 => intro w' hSw; (try dsimp only at hSw); go_simp; all_goals rfl
        simp only [Act.put, List.setIfInBounds_toArray, List.set_cons_zero, List.set_cons_succ, List.getElem_toArray, List.getElem_cons_zero, List.getElem_cons_succ]
        refine wpAnyH_take (i := 13) rfl (by kernel_rfl) (by kernel_rfl) (by kernel_rfl) (fun _ _ _ h => h) (Or.inr ⟨by rfl, rfl⟩) hH ?_
        simp only [Act.put, List.setIfInBounds_toArray, List.set_cons_zero, List.set_cons_succ, List.getElem_toArray, List.getElem_cons_zero, List.getElem_cons_succ]
        refine wpAnyH_take (i := 14) rfl (by kernel_rfl) (by kernel_rfl) (by kernel_rfl) (fun _ _ _ h => h) (Or.inr ⟨by rfl, rfl⟩) hH ?_
        simp only [Act.put, List.setIfInBounds_toArray, List.set_cons_zero, List.set_cons_succ, List.getElem_toArray, List.getElem_cons_zero, List.getElem_cons_succ]
        refine wpAnyH_take (i := 15) rfl (by kernel_rfl) (by kernel_rfl) (by kernel_rfl) (fun _ _ _ h => h) (Or.inr ⟨by rfl, rfl⟩) hH ?_
        simp only [Act.put, List.setIfInBounds_toArray, List.set_cons_zero, List.set_cons_succ, List.getElem_toArray, List.getElem_cons_zero, List.getElem_cons_succ]
        refine wpAnyH_take (i := 16) rfl (by kernel_rfl) (by kernel_rfl) (by kernel_rfl) (fun _ _ _ h => h) (Or.inr ⟨by rfl, rfl⟩) hH ?_
        simp only [Act.put, List.setIfInBounds_toArray, List.set_cons_zero, List.set_cons_succ, List.getElem_toArray, List.getElem_cons_zero, List.getElem_cons_succ]
        refine wpAnyH_take (i := 17) rfl (by kernel_rfl) (by kernel_rfl) (by kernel_rfl) (fun _ _ _ h => h) (Or.inr ⟨by rfl, rfl⟩) hH ?_
        simp only [Act.put, List.setIfInBounds_toArray, List.set_cons_zero, List.set_cons_succ, List.getElem_toArray, List.getElem_cons_zero, List.getElem_cons_succ]
        refine wpAnyH_take (i := 18) (v := ?v5) rfl (by kernel_rfl) (by kernel_rfl) (by kernel_rfl) (fun _ _ _ h => h) (Or.inl ⟨by rfl, ?hy5⟩) hH ?rest5
        case hy5 => intro w' hSw; (try dsimp only at hSw); go_simp; all_goals rfl
        simp only [Act.put, List.setIfInBounds_toArray, List.set_cons_zero, List.set_cons_succ, List.getElem_toArray, List.getElem_cons_zero, List.getElem_cons_succ]
        refine wpAnyH_done (by kernel_rfl) ?_ _
        have HN : Hid (upK S.x (j + 1) = upK S.x j) := by show _ = _; rw [HNX.out, if_neg (by unfold SN.may; rw [m1]; simp)]
        have HF := hH
        clear hH
        go_wp2
        go_roundw
        case rel => exact ⟨j + 1, by omega, by omega, by go_num, by rw [HN.out]; exact HO.out.kept HF.2.2.2, HF.1, andThen HBEL.out HF.2.2.2⟩
        case measure => simp [intOf]; omega
      | true =>
        cases m2 : (lands j == S.x.fl) with
        | false =>
          go_wp2
          refine wp_region_held_drew (S := fun w' : World => w'.rangeAt w.heap.size 0 D ∧ w'.cell? ⟨w.heap.size, 9, none⟩ = some (.bool S.x.fl) ∧ w'.cell? ⟨0, j * 2 + 1, none⟩ = some (.bool (lands j)) ∧ Below wr.heap.size wr w') (by kernel_rfl) ?_ (fun hH => ?_)
          · exact HS.out _ (range_kept hR (Below.drew (Below.refl _ _))) (Below.drew (Below.refl _ _))
          refine wpAnyH_take (i := 0) rfl (by kernel_rfl) (by kernel_rfl) (by kernel_rfl) (fun _ _ _ h => h) (yieldsIf_load_mid (by rfl) _ _ rfl _ _ rfl D _ (fun w' hSw => hSw.1) Tryd.underlying28 rfl HL.out) hH ?_
          simp only [Act.put, List.setIfInBounds_toArray, List.set_cons_zero, List.set_cons_succ, List.getElem_toArray, List.getElem_cons_zero]
          refine wpAnyH_take (i := 1) (v := ?v6) rfl (by kernel_rfl) (by kernel_rfl) (by kernel_rfl) (fun _ _ _ h => h) (Or.inl ⟨by rfl, ?hy6⟩) hH ?rest6
          case hy6 => intro w' hSw; (try dsimp only at hSw); go_simp; all_goals rfl
          simp only [Act.put, List.setIfInBounds_toArray, List.set_cons_zero, List.set_cons_succ, List.getElem_toArray, List.getElem_cons_zero, List.getElem_cons_succ]
          refine wpAnyH_ready (rs := [2]) (by kernel_rfl) (by simp) ?_
          refine AllReadyH.cons rfl (fun K hK => ?_) AllReadyH.nil
          go_simp
          refine (HIP.out j _ hj2 hlt (andThen HBEL.out hH.2.2.2)).mono ?_
          rintro e wa ⟨rfl, ba⟩
          refine hK.out _ _ ?_ (fun hH2 => ?_)
          · exact HS.out _ (range_kept hH.1 ba) (andThen hH.2.2.2 ba)
          clear hK K hH
          have hH := hH2
          clear hH2
          rw [m1]
          clear ba
          refine wpAnyH_take (i := 3) (v := ?v7) rfl (by kernel_rfl) (by kernel_rfl) (by kernel_rfl) (fun _ _ _ h => h) (Or.inl ⟨by rfl, ?hy7⟩) hH ?rest7
          case hy7 => intro w' hSw; (try dsimp only at hSw); go_simp; all_goals rfl
          simp only [Act.put, List.setIfInBounds_toArray, List.set_cons_zero, List.set_cons_succ, List.getElem_toArray, List.getElem_cons_zero, List.getElem_cons_succ]
          refine wpAnyH_take (i := 4) (v := ?v8) rfl (by kernel_rfl) (by kernel_rfl) (by kernel_rfl) (fun _ _ _ h => h) (Or.inl ⟨by rfl, ?hy8⟩) hH ?rest8
          case hy8 => intro w' hSw; (try dsimp only at hSw); go_simp; all_goals rfl
          simp only [Act.put, List.setIfInBounds_toArray, List.set_cons_zero, List.set_cons_succ, List.getElem_toArray, List.getElem_cons_zero, List.getElem_cons_succ]
          refine wpAnyH_take (i := 5) (v := ?v9) rfl (by kernel_rfl) (by kernel_rfl) (by kernel_rfl) (fun _ _ _ h => h) (Or.inl ⟨by rfl, ?hy9⟩) hH ?rest9
          case hy9 => intro w' hSw; (try dsimp only at hSw); go_simp; all_goals rfl
          simp only [Act.put, List.setIfInBounds_toArray, List.set_cons_zero, List.set_cons_succ, List.getElem_toArray, List.getElem_cons_zero, List.getElem_cons_succ]
          refine wpAnyH_take (i := 6) (v := ?v10) rfl (by kernel_rfl) (by kernel_rfl) (by kernel_rfl) (fun _ _ _ h => h) (Or.inl ⟨by rfl, ?hy10⟩) hH ?rest10
          case hy10 => intro w' hSw; (try dsimp only at hSw); go_simp; all_goals rfl
          simp only [Act.put, List.setIfInBounds_toArray, List.set_cons_zero, List.set_cons_succ, List.getElem_toArray, List.getElem_cons_zero, List.getElem_cons_succ]
          refine wpAnyH_take (i := 7) (v := ?v11) rfl (by kernel_rfl) (by kernel_rfl) (by kernel_rfl) (fun _ _ _ h => h) (Or.inl ⟨by rfl, ?hy11⟩) hH ?rest11
          case hy11 => intro w' hSw; (try dsimp only at hSw); go_simp; all_goals rfl
          simp only [Act.put, List.setIfInBounds_toArray, List.set_cons_zero, List.set_cons_succ, List.getElem_toArray, List.getElem_cons_zero, List.getElem_cons_succ]
          refine wpAnyH_take (i := 8) (v := ?v12) rfl (by kernel_rfl) (by kernel_rfl) (by kernel_rfl) (fun _ _ _ h => h) (Or.inl ⟨by rfl, ?hy12⟩) hH ?rest12
          case hy12 => intro w' hSw; (try dsimp only at hSw); go_simp; all_goals rfl
          simp only [Act.put, List.setIfInBounds_toArray, List.set_cons_zero, List.set_cons_succ, List.getElem_toArray, List.getElem_cons_zero, List.getElem_cons_succ]
          refine wpAnyH_take (i := 9) (v := ?v13) rfl (by kernel_rfl) (by kernel_rfl) (by kernel_rfl) (fun _ _ _ h => h) (Or.inl ⟨by rfl, ?hy13⟩) hH ?rest13
          case hy13 => intro w' hSw; (try dsimp only at hSw); go_simp; all_goals rfl
          simp only [Act.put, List.setIfInBounds_toArray, List.set_cons_zero, List.set_cons_succ, List.getElem_toArray, List.getElem_cons_zero, List.getElem_cons_succ]
          refine wpAnyH_take (i := 10) (v := ?v14) rfl (by kernel_rfl) (by kernel_rfl) (by kernel_rfl) (fun _ _ _ h => h) (Or.inl ⟨by rfl, ?hy14⟩) hH ?rest14
          case hy14 => intro w' hSw; (try dsimp only at hSw); go_simp; all_goals rfl
          simp only [Act.put, List.setIfInBounds_toArray, List.set_cons_zero, List.set_cons_succ, List.getElem_toArray, List.getElem_cons_zero, List.getElem_cons_succ]
          refine wpAnyH_take (i := 11) (v := ?v15) rfl (by kernel_rfl) (by kernel_rfl) (by kernel_rfl) (fun _ _ _ h => h) (Or.inl ⟨by rfl, ?hy15⟩) hH ?rest15
          case hy15 => intro w' hSw; (try dsimp only at hSw); go_simp; all_goals rfl
          simp only [Act.put, List.setIfInBounds_toArray, List.set_cons_zero, List.set_cons_succ, List.getElem_toArray, List.getElem_cons_zero, List.getElem_cons_succ]
          refine wpAnyH_take (i := 12) (v := ?v16) rfl (by kernel_rfl) (by kernel_rfl) (by kernel_rfl) (fun _ _ _ h => h) (Or.inl ⟨by rfl, ?hy16⟩) hH ?rest16
          case hy16 => intro w' hSw; (try dsimp only at hSw); go_simp; all_goals rfl
          simp only [Act.put, List.setIfInBounds_toArray, List.set_cons_zero, List.set_cons_succ, List.getElem_toArray, List.getElem_cons_zero, List.getElem_cons_succ]
          refine wpAnyH_take (i := 13) rfl (by kernel_rfl) (by kernel_rfl) (by kernel_rfl) (fun _ _ _ h => h) (Or.inr ⟨by rfl, rfl⟩) hH ?_
          simp only [Act.put, List.setIfInBounds_toArray, List.set_cons_zero, List.set_cons_succ, List.getElem_toArray, List.getElem_cons_zero, List.getElem_cons_succ]
          refine wpAnyH_take (i := 14) rfl (by kernel_rfl) (by kernel_rfl) (by kernel_rfl) (fun _ _ _ h => h) (Or.inr ⟨by rfl, rfl⟩) hH ?_
          simp only [Act.put, List.setIfInBounds_toArray, List.set_cons_zero, List.set_cons_succ, List.getElem_toArray, List.getElem_cons_zero, List.getElem_cons_succ]
          refine wpAnyH_take (i := 15) rfl (by kernel_rfl) (by kernel_rfl) (by kernel_rfl) (fun _ _ _ h => h) (Or.inr ⟨by rfl, rfl⟩) hH ?_
          simp only [Act.put, List.setIfInBounds_toArray, List.set_cons_zero, List.set_cons_succ, List.getElem_toArray, List.getElem_cons_zero, List.getElem_cons_succ]
          refine wpAnyH_take (i := 16) rfl (by kernel_rfl) (by kernel_rfl) (by kernel_rfl) (fun _ _ _ h => h) (Or.inr ⟨by rfl, rfl⟩) hH ?_
          simp only [Act.put, List.setIfInBounds_toArray, List.set_cons_zero, List.set_cons_succ, List.getElem_toArray, List.getElem_cons_zero, List.getElem_cons_succ]
          refine wpAnyH_take (i := 17) rfl (by kernel_rfl) (by kernel_rfl) (by kernel_rfl) (fun _ _ _ h => h) (Or.inr ⟨by rfl, rfl⟩) hH ?_
          simp only [Act.put, List.setIfInBounds_toArray, List.set_cons_zero, List.set_cons_succ, List.getElem_toArray, List.getElem_cons_zero, List.getElem_cons_succ]
          refine wpAnyH_take (i := 18) (v := ?v17) rfl (by kernel_rfl) (by kernel_rfl) (by kernel_rfl) (fun _ _ _ h => h) (Or.inl ⟨by rfl, ?hy17⟩) hH ?rest17
          case hy17 => intro w' hSw; (try dsimp only at hSw); go_simp; all_goals rfl
          simp only [Act.put, List.setIfInBounds_toArray, List.set_cons_zero, List.set_cons_succ, List.getElem_toArray, List.getElem_cons_zero, List.getElem_cons_succ]
          refine wpAnyH_done (by kernel_rfl) ?_ _
          have HN : Hid (upK S.x (j + 1) = upK S.x j) := by show _ = _; rw [HNX.out, if_neg (by unfold SN.may; rw [m1, m2]; simp)]
          have HF := hH
          clear hH
          go_wp2
          go_roundw
          case rel => exact ⟨j + 1, by omega, by omega, by go_num, by rw [HN.out]; exact HO.out.kept HF.2.2.2, HF.1, andThen HBEL.out HF.2.2.2⟩
          case measure => simp [intOf]; omega
        | true =>
          cases m3 : (((j : Int) == 7) == S.x.atEnd) with
          | false =>
            go_wp2
            refine wp_region_held_drew (S := fun w' : World => w'.rangeAt w.heap.size 0 D ∧ w'.cell? ⟨w.heap.size, 9, none⟩ = some (.bool S.x.fl) ∧ w'.cell? ⟨0, j * 2 + 1, none⟩ = some (.bool (lands j)) ∧ Below wr.heap.size wr w') (by kernel_rfl) ?_ (fun hH => ?_)
            · exact HS.out _ (range_kept hR (Below.drew (Below.refl _ _))) (Below.drew (Below.refl _ _))
            refine wpAnyH_take (i := 0) rfl (by kernel_rfl) (by kernel_rfl) (by kernel_rfl) (fun _ _ _ h => h) (yieldsIf_load_mid (by rfl) _ _ rfl _ _ rfl D _ (fun w' hSw => hSw.1) Tryd.underlying28 rfl HL.out) hH ?_
            simp only [Act.put, List.setIfInBounds_toArray, List.set_cons_zero, List.set_cons_succ, List.getElem_toArray, List.getElem_cons_zero]
            refine wpAnyH_take (i := 1) (v := ?v18) rfl (by kernel_rfl) (by kernel_rfl) (by kernel_rfl) (fun _ _ _ h => h) (Or.inl ⟨by rfl, ?hy18⟩) hH ?rest18
            case hy18 => intro w' hSw; (try dsimp only at hSw); go_simp; all_goals rfl
            simp only [Act.put, List.setIfInBounds_toArray, List.set_cons_zero, List.set_cons_succ, List.getElem_toArray, List.getElem_cons_zero, List.getElem_cons_succ]
            refine wpAnyH_ready (rs := [2]) (by kernel_rfl) (by simp) ?_
            refine AllReadyH.cons rfl (fun K hK => ?_) AllReadyH.nil
            go_simp
            refine (HIP.out j _ hj2 hlt (andThen HBEL.out hH.2.2.2)).mono ?_
            rintro e wa ⟨rfl, ba⟩
            refine hK.out _ _ ?_ (fun hH2 => ?_)
            · exact HS.out _ (range_kept hH.1 ba) (andThen hH.2.2.2 ba)
            clear hK K hH
            have hH := hH2
            clear hH2
            rw [m1]
            clear ba
            refine wpAnyH_take (i := 3) (v := ?v19) rfl (by kernel_rfl) (by kernel_rfl) (by kernel_rfl) (fun _ _ _ h => h) (Or.inl ⟨by rfl, ?hy19⟩) hH ?rest19
            case hy19 => intro w' hSw; (try dsimp only at hSw); go_simp; all_goals rfl
            simp only [Act.put, List.setIfInBounds_toArray, List.set_cons_zero, List.set_cons_succ, List.getElem_toArray, List.getElem_cons_zero, List.getElem_cons_succ]
            refine wpAnyH_take (i := 4) (v := ?v20) rfl (by kernel_rfl) (by kernel_rfl) (by kernel_rfl) (fun _ _ _ h => h) (Or.inl ⟨by rfl, ?hy20⟩) hH ?rest20
            case hy20 => intro w' hSw; (try dsimp only at hSw); go_simp; all_goals rfl
            simp only [Act.put, List.setIfInBounds_toArray, List.set_cons_zero, List.set_cons_succ, List.getElem_toArray, List.getElem_cons_zero, List.getElem_cons_succ]
            refine wpAnyH_take (i := 5) (v := ?v21) rfl (by kernel_rfl) (by kernel_rfl) (by kernel_rfl) (fun _ _ _ h => h) (Or.inl ⟨by rfl, ?hy21⟩) hH ?rest21
            case hy21 => intro w' hSw; (try dsimp only at hSw); go_simp; all_goals rfl
            simp only [Act.put, List.setIfInBounds_toArray, List.set_cons_zero, List.set_cons_succ, List.getElem_toArray, List.getElem_cons_zero, List.getElem_cons_succ]
            refine wpAnyH_take (i := 6) (v := ?v22) rfl (by kernel_rfl) (by kernel_rfl) (by kernel_rfl) (fun _ _ _ h => h) (Or.inl ⟨by rfl, ?hy22⟩) hH ?rest22
            case hy22 => intro w' hSw; (try dsimp only at hSw); go_simp; all_goals rfl
            simp only [Act.put, List.setIfInBounds_toArray, List.set_cons_zero, List.set_cons_succ, List.getElem_toArray, List.getElem_cons_zero, List.getElem_cons_succ]
            refine wpAnyH_take (i := 7) (v := ?v23) rfl (by kernel_rfl) (by kernel_rfl) (by kernel_rfl) (fun _ _ _ h => h) (Or.inl ⟨by rfl, ?hy23⟩) hH ?rest23
            case hy23 => intro w' hSw; (try dsimp only at hSw); go_simp; all_goals rfl
            simp only [Act.put, List.setIfInBounds_toArray, List.set_cons_zero, List.set_cons_succ, List.getElem_toArray, List.getElem_cons_zero, List.getElem_cons_succ]
            refine wpAnyH_take (i := 8) (v := ?v24) rfl (by kernel_rfl) (by kernel_rfl) (by kernel_rfl) (fun _ _ _ h => h) (Or.inl ⟨by rfl, ?hy24⟩) hH ?rest24
            case hy24 => intro w' hSw; (try dsimp only at hSw); go_simp; all_goals rfl
            simp only [Act.put, List.setIfInBounds_toArray, List.set_cons_zero, List.set_cons_succ, List.getElem_toArray, List.getElem_cons_zero, List.getElem_cons_succ]
            refine wpAnyH_take (i := 9) (v := ?v25) rfl (by kernel_rfl) (by kernel_rfl) (by kernel_rfl) (fun _ _ _ h => h) (Or.inl ⟨by rfl, ?hy25⟩) hH ?rest25
            case hy25 => intro w' hSw; (try dsimp only at hSw); go_simp; all_goals rfl
            simp only [Act.put, List.setIfInBounds_toArray, List.set_cons_zero, List.set_cons_succ, List.getElem_toArray, List.getElem_cons_zero, List.getElem_cons_succ]
            refine wpAnyH_take (i := 10) (v := ?v26) rfl (by kernel_rfl) (by kernel_rfl) (by kernel_rfl) (fun _ _ _ h => h) (Or.inl ⟨by rfl, ?hy26⟩) hH ?rest26
            case hy26 => intro w' hSw; (try dsimp only at hSw); go_simp; all_goals rfl
            simp only [Act.put, List.setIfInBounds_toArray, List.set_cons_zero, List.set_cons_succ, List.getElem_toArray, List.getElem_cons_zero, List.getElem_cons_succ]
            refine wpAnyH_take (i := 11) (v := ?v27) rfl (by kernel_rfl) (by kernel_rfl) (by kernel_rfl) (fun _ _ _ h => h) (Or.inl ⟨by rfl, ?hy27⟩) hH ?rest27
            case hy27 => intro w' hSw; (try dsimp only at hSw); go_simp; all_goals rfl
            simp only [Act.put, List.setIfInBounds_toArray, List.set_cons_zero, List.set_cons_succ, List.getElem_toArray, List.getElem_cons_zero, List.getElem_cons_succ]
            refine wpAnyH_take (i := 12) (v := ?v28) rfl (by kernel_rfl) (by kernel_rfl) (by kernel_rfl) (fun _ _ _ h => h) (Or.inl ⟨by rfl, ?hy28⟩) hH ?rest28
            case hy28 => intro w' hSw; (try dsimp only at hSw); go_simp; all_goals rfl
            simp only [Act.put, List.setIfInBounds_toArray, List.set_cons_zero, List.set_cons_succ, List.getElem_toArray, List.getElem_cons_zero, List.getElem_cons_succ]
            refine wpAnyH_take (i := 13) (v := ?v29) rfl (by kernel_rfl) (by kernel_rfl) (by kernel_rfl) (fun _ _ _ h => h) (Or.inl ⟨by rfl, ?hy29⟩) hH ?rest29
            case hy29 => intro w' hSw; (try dsimp only at hSw); go_simp; all_goals rfl
            simp only [Act.put, List.setIfInBounds_toArray, List.set_cons_zero, List.set_cons_succ, List.getElem_toArray, List.getElem_cons_zero, List.getElem_cons_succ]
            refine wpAnyH_take (i := 14) (v := ?v30) rfl (by kernel_rfl) (by kernel_rfl) (by kernel_rfl) (fun _ _ _ h => h) (Or.inl ⟨by rfl, ?hy30⟩) hH ?rest30
            case hy30 => intro w' hSw; (try dsimp only at hSw); go_simp; all_goals rfl
            simp only [Act.put, List.setIfInBounds_toArray, List.set_cons_zero, List.set_cons_succ, List.getElem_toArray, List.getElem_cons_zero, List.getElem_cons_succ]
            refine wpAnyH_take (i := 15) rfl (by kernel_rfl) (by kernel_rfl) (by kernel_rfl) (fun _ _ _ h => h) (yieldsIf_load_mid (by rfl) _ _ rfl _ _ rfl D _ (fun w' hSw => hSw.1) Tryd.underlying28 rfl HL.out) hH ?_
            simp only [Act.put, List.setIfInBounds_toArray, List.set_cons_zero, List.set_cons_succ, List.getElem_toArray, List.getElem_cons_zero, List.getElem_cons_succ]
            refine wpAnyH_ready (rs := [16]) (by kernel_rfl) (by simp) ?_
            refine AllReadyH.cons rfl (fun K hK => ?_) AllReadyH.nil
            go_simp
            refine (HAE.out _).mono ?_
            rintro e wb ⟨rfl, bb⟩
            refine hK.out _ _ ?_ (fun hH2 => ?_)
            · exact HS.out _ (range_kept hH.1 bb) (andThen hH.2.2.2 bb)
            clear hK K hH
            have hH := hH2
            clear hH2
            clear bb
            refine wpAnyH_take (i := 17) (v := ?v31) rfl (by kernel_rfl) (by kernel_rfl) (by kernel_rfl) (fun _ _ _ h => h) (Or.inl ⟨by rfl, ?hy31⟩) hH ?rest31
            case hy31 => intro w' hSw; (try dsimp only at hSw); go_simp; all_goals rfl
            simp only [Act.put, List.setIfInBounds_toArray, List.set_cons_zero, List.set_cons_succ, List.getElem_toArray, List.getElem_cons_zero, List.getElem_cons_succ]
            refine wpAnyH_take (i := 18) (v := ?v32) rfl (by kernel_rfl) (by kernel_rfl) (by kernel_rfl) (fun _ _ _ h => h) (Or.inl ⟨by rfl, ?hy32⟩) hH ?rest32
            case hy32 => intro w' hSw; (try dsimp only at hSw); go_simp; all_goals rfl
            simp only [Act.put, List.setIfInBounds_toArray, List.set_cons_zero, List.set_cons_succ, List.getElem_toArray, List.getElem_cons_zero, List.getElem_cons_succ]
            refine wpAnyH_done (by kernel_rfl) ?_ _
            have HN : Hid (upK S.x (j + 1) = upK S.x j) := by show _ = _; rw [HNX.out, if_neg (by unfold SN.may; rw [m1, m2, m3]; simp)]
            have HF := hH
            clear hH
            go_wp2
            go_roundw
            case rel => exact ⟨j + 1, by omega, by omega, by go_num, by rw [HN.out]; exact HO.out.kept HF.2.2.2, HF.1, andThen HBEL.out HF.2.2.2⟩
            case measure => simp [intOf]; omega
          | true =>
            go_wp2
            refine wp_region_held_drew (S := fun w' : World => w'.rangeAt w.heap.size 0 D ∧ w'.cell? ⟨w.heap.size, 9, none⟩ = some (.bool S.x.fl) ∧ w'.cell? ⟨0, j * 2 + 1, none⟩ = some (.bool (lands j)) ∧ Below wr.heap.size wr w') (by kernel_rfl) ?_ (fun hH => ?_)
            · exact HS.out _ (range_kept hR (Below.drew (Below.refl _ _))) (Below.drew (Below.refl _ _))
            refine wpAnyH_take (i := 0) rfl (by kernel_rfl) (by kernel_rfl) (by kernel_rfl) (fun _ _ _ h => h) (yieldsIf_load_mid (by rfl) _ _ rfl _ _ rfl D _ (fun w' hSw => hSw.1) Tryd.underlying28 rfl HL.out) hH ?_
            simp only [Act.put, List.setIfInBounds_toArray, List.set_cons_zero, List.set_cons_succ, List.getElem_toArray, List.getElem_cons_zero]
            refine wpAnyH_take (i := 1) (v := ?v33) rfl (by kernel_rfl) (by kernel_rfl) (by kernel_rfl) (fun _ _ _ h => h) (Or.inl ⟨by rfl, ?hy33⟩) hH ?rest33
            case hy33 => intro w' hSw; (try dsimp only at hSw); go_simp; all_goals rfl
            simp only [Act.put, List.setIfInBounds_toArray, List.set_cons_zero, List.set_cons_succ, List.getElem_toArray, List.getElem_cons_zero, List.getElem_cons_succ]
            refine wpAnyH_ready (rs := [2]) (by kernel_rfl) (by simp) ?_
            refine AllReadyH.cons rfl (fun K hK => ?_) AllReadyH.nil
            go_simp
            refine (HIP.out j _ hj2 hlt (andThen HBEL.out hH.2.2.2)).mono ?_
            rintro e wa ⟨rfl, ba⟩
            refine hK.out _ _ ?_ (fun hH2 => ?_)
            · exact HS.out _ (range_kept hH.1 ba) (andThen hH.2.2.2 ba)
            clear hK K hH
            have hH := hH2
            clear hH2
            rw [m1]
            clear ba
            refine wpAnyH_take (i := 3) (v := ?v34) rfl (by kernel_rfl) (by kernel_rfl) (by kernel_rfl) (fun _ _ _ h => h) (Or.inl ⟨by rfl, ?hy34⟩) hH ?rest34
            case hy34 => intro w' hSw; (try dsimp only at hSw); go_simp; all_goals rfl
            simp only [Act.put, List.setIfInBounds_toArray, List.set_cons_zero, List.set_cons_succ, List.getElem_toArray, List.getElem_cons_zero, List.getElem_cons_succ]
            refine wpAnyH_take (i := 4) (v := ?v35) rfl (by kernel_rfl) (by kernel_rfl) (by kernel_rfl) (fun _ _ _ h => h) (Or.inl ⟨by rfl, ?hy35⟩) hH ?rest35
            case hy35 => intro w' hSw; (try dsimp only at hSw); go_simp; all_goals rfl
            simp only [Act.put, List.setIfInBounds_toArray, List.set_cons_zero, List.set_cons_succ, List.getElem_toArray, List.getElem_cons_zero, List.getElem_cons_succ]
            refine wpAnyH_take (i := 5) (v := ?v36) rfl (by kernel_rfl) (by kernel_rfl) (by kernel_rfl) (fun _ _ _ h => h) (Or.inl ⟨by rfl, ?hy36⟩) hH ?rest36
            case hy36 => intro w' hSw; (try dsimp only at hSw); go_simp; all_goals rfl
            simp only [Act.put, List.setIfInBounds_toArray, List.set_cons_zero, List.set_cons_succ, List.getElem_toArray, List.getElem_cons_zero, List.getElem_cons_succ]
            refine wpAnyH_take (i := 6) (v := ?v37) rfl (by kernel_rfl) (by kernel_rfl) (by kernel_rfl) (fun _ _ _ h => h) (Or.inl ⟨by rfl, ?hy37⟩) hH ?rest37
            case hy37 => intro w' hSw; (try dsimp only at hSw); go_simp; all_goals rfl
            simp only [Act.put, List.setIfInBounds_toArray, List.set_cons_zero, List.set_cons_succ, List.getElem_toArray, List.getElem_cons_zero, List.getElem_cons_succ]
            refine wpAnyH_take (i := 7) (v := ?v38) rfl (by kernel_rfl) (by kernel_rfl) (by kernel_rfl) (fun _ _ _ h => h) (Or.inl ⟨by rfl, ?hy38⟩) hH ?rest38
            case hy38 => intro w' hSw; (try dsimp only at hSw); go_simp; all_goals rfl
            simp only [Act.put, List.setIfInBounds_toArray, List.set_cons_zero, List.set_cons_succ, List.getElem_toArray, List.getElem_cons_zero, List.getElem_cons_succ]
            refine wpAnyH_take (i := 8) (v := ?v39) rfl (by kernel_rfl) (by kernel_rfl) (by kernel_rfl) (fun _ _ _ h => h) (Or.inl ⟨by rfl, ?hy39⟩) hH ?rest39
            case hy39 => intro w' hSw; (try dsimp only at hSw); go_simp; all_goals rfl
            simp only [Act.put, List.setIfInBounds_toArray, List.set_cons_zero, List.set_cons_succ, List.getElem_toArray, List.getElem_cons_zero, List.getElem_cons_succ]
            refine wpAnyH_take (i := 9) (v := ?v40) rfl (by kernel_rfl) (by kernel_rfl) (by kernel_rfl) (fun _ _ _ h => h) (Or.inl ⟨by rfl, ?hy40⟩) hH ?rest40
            case hy40 => intro w' hSw; (try dsimp only at hSw); go_simp; all_goals rfl
            simp only [Act.put, List.setIfInBounds_toArray, List.set_cons_zero, List.set_cons_succ, List.getElem_toArray, List.getElem_cons_zero, List.getElem_cons_succ]
            refine wpAnyH_take (i := 10) (v := ?v41) rfl (by kernel_rfl) (by kernel_rfl) (by kernel_rfl) (fun _ _ _ h => h) (Or.inl ⟨by rfl, ?hy41⟩) hH ?rest41
            case hy41 => intro w' hSw; (try dsimp only at hSw); go_simp; all_goals rfl
            simp only [Act.put, List.setIfInBounds_toArray, List.set_cons_zero, List.set_cons_succ, List.getElem_toArray, List.getElem_cons_zero, List.getElem_cons_succ]
            refine wpAnyH_take (i := 11) (v := ?v42) rfl (by kernel_rfl) (by kernel_rfl) (by kernel_rfl) (fun _ _ _ h => h) (Or.inl ⟨by rfl, ?hy42⟩) hH ?rest42
            case hy42 => intro w' hSw; (try dsimp only at hSw); go_simp; all_goals rfl
            simp only [Act.put, List.setIfInBounds_toArray, List.set_cons_zero, List.set_cons_succ, List.getElem_toArray, List.getElem_cons_zero, List.getElem_cons_succ]
            refine wpAnyH_take (i := 12) (v := ?v43) rfl (by kernel_rfl) (by kernel_rfl) (by kernel_rfl) (fun _ _ _ h => h) (Or.inl ⟨by rfl, ?hy43⟩) hH ?rest43
            case hy43 => intro w' hSw; (try dsimp only at hSw); go_simp; all_goals rfl
            simp only [Act.put, List.setIfInBounds_toArray, List.set_cons_zero, List.set_cons_succ, List.getElem_toArray, List.getElem_cons_zero, List.getElem_cons_succ]
            refine wpAnyH_take (i := 13) (v := ?v44) rfl (by kernel_rfl) (by kernel_rfl) (by kernel_rfl) (fun _ _ _ h => h) (Or.inl ⟨by rfl, ?hy44⟩) hH ?rest44
            case hy44 => intro w' hSw; (try dsimp only at hSw); go_simp; all_goals rfl
            simp only [Act.put, List.setIfInBounds_toArray, List.set_cons_zero, List.set_cons_succ, List.getElem_toArray, List.getElem_cons_zero, List.getElem_cons_succ]
            refine wpAnyH_take (i := 14) (v := ?v45) rfl (by kernel_rfl) (by kernel_rfl) (by kernel_rfl) (fun _ _ _ h => h) (Or.inl ⟨by rfl, ?hy45⟩) hH ?rest45
            case hy45 => intro w' hSw; (try dsimp only at hSw); go_simp; all_goals rfl
            simp only [Act.put, List.setIfInBounds_toArray, List.set_cons_zero, List.set_cons_succ, List.getElem_toArray, List.getElem_cons_zero, List.getElem_cons_succ]
            refine wpAnyH_take (i := 15) rfl (by kernel_rfl) (by kernel_rfl) (by kernel_rfl) (fun _ _ _ h => h) (yieldsIf_load_mid (by rfl) _ _ rfl _ _ rfl D _ (fun w' hSw => hSw.1) Tryd.underlying28 rfl HL.out) hH ?_
            simp only [Act.put, List.setIfInBounds_toArray, List.set_cons_zero, List.set_cons_succ, List.getElem_toArray, List.getElem_cons_zero, List.getElem_cons_succ]
            refine wpAnyH_ready (rs := [16]) (by kernel_rfl) (by simp) ?_
            refine AllReadyH.cons rfl (fun K hK => ?_) AllReadyH.nil
            go_simp
            refine (HAE.out _).mono ?_
            rintro e wb ⟨rfl, bb⟩
            refine hK.out _ _ ?_ (fun hH2 => ?_)
            · exact HS.out _ (range_kept hH.1 bb) (andThen hH.2.2.2 bb)
            clear hK K hH
            have hH := hH2
            clear hH2
            clear bb
            refine wpAnyH_take (i := 17) (v := ?v46) rfl (by kernel_rfl) (by kernel_rfl) (by kernel_rfl) (fun _ _ _ h => h) (Or.inl ⟨by rfl, ?hy46⟩) hH ?rest46
            case hy46 => intro w' hSw; (try dsimp only at hSw); go_simp; all_goals rfl
            simp only [Act.put, List.setIfInBounds_toArray, List.set_cons_zero, List.set_cons_succ, List.getElem_toArray, List.getElem_cons_zero, List.getElem_cons_succ]
            refine wpAnyH_take (i := 18) (v := ?v47) rfl (by kernel_rfl) (by kernel_rfl) (by kernel_rfl) (fun _ _ _ h => h) (Or.inl ⟨by rfl, ?hy47⟩) hH ?rest47
            case hy47 => intro w' hSw; (try dsimp only at hSw); go_simp; all_goals rfl
            simp only [Act.put, List.setIfInBounds_toArray, List.set_cons_zero, List.set_cons_succ, List.getElem_toArray, List.getElem_cons_zero, List.getElem_cons_succ]
            refine wpAnyH_done (by kernel_rfl) ?_ _
            have HN : Hid (upK S.x (j + 1) = upK S.x j ++ [(j : Int)]) := by show _ = _; rw [HNX.out, if_pos (by unfold SN.may; rw [m1, m2, m3]; rfl)]
            have HF : Hid _ := hH
            clear hH
            have HLN : Hid ((upK S.x j).length ≤ 6) := upK_len _ _
            have HCE : Hid ((wb.alloc (.cells #[.int .i64 (j : Int)] 3)).cell? ⟨wb.heap.size, 0, none⟩ = some (.int .i64 (j : Int))) := by show _ = _; rw [World.cell?_alloc_new]; rfl
            have hlt0 : w.heap.size < wb.heap.size := World.block_lt_of_cell? wb ⟨w.heap.size, 9, none⟩ HF.out.2.1
            have HSZ : Hid (w.heap.size + 1 ≤ (wb.alloc (.cells #[.int .i64 (j : Int)] 3)).heap.size) := by show _ ≤ _; rw [heap_one]; omega
            clear hlt0
            go_wp2_with (at_builtin; refine Fld.wpList_app_int _ rfl (.tmp 35) (.tmp 37) 43 rfl (w.heap.size + 1) Fld.info3 Tryd.underlying43 _ (upK S.x j) rfl ((HO.out.kept HF.out.2.2.2).kept (up0 _ _)) _ (j : Int) rfl HCE.out (Nat.le_trans HLN.out (by decide)) HSZ.out ?_)
            intro v' w' hro hgr
            have HG : Hid (Fld.RoI (w.heap.size + 1) w' v' (upK S.x (j + 1)) ∧ w'.rangeAt w.heap.size 0 D ∧ Below w.heap.size w w') := by
              have hold : Fld.RoI (w.heap.size + 1) (wb.alloc (.cells #[.int .i64 (j : Int)] 3)) u3 (upK S.x j) := (HO.out.kept HF.out.2.2.2).kept (up0 _ _)
              have hbw : Below w.heap.size w (wb.alloc (.cells #[.int .i64 (j : Int)] 3)) := up (andThen HBEL.out HF.out.2.2.2) _
              refine ⟨by rw [HN.out]; exact hro, fun i v hv => ?_, (roI_weak hold (by omega)).below hbw hgr⟩
              have h1 := range_kept HF.out.1 (up0 _ (.cells #[.int .i64 (j : Int)] 3)) i v hv
              rw [← h1]
              refine World.cell?_of_block (w := wb.alloc (.cells #[.int .i64 (j : Int)] 3)) (hgr.block w.heap.size (World.block_lt_of_cell? _ _ h1) (fun e => ?_))
              have := roI_block hold _ e.symm
              omega
            clear hro hgr HCE HSZ HF HO HN
            go_wp2
            go_roundw
            case rel => exact ⟨j + 1, by omega, by omega, by go_num, HG.out.1, HG.out.2.1, HG.out.2.2⟩
            case measure => simp [intOf]; omega
    · obtain rfl : j = 8 := by omega
      have HF : Hid (Fld.RoI (w.heap.size + 1) wr u3 (upK S.x 8) ∧ Below w.heap.size w wr) := ⟨ho, hbel⟩
      clear ho hbel hR
      go_wp2
      go_ret
      exact ⟨_, rfl, HF.out.1, HF.out.2⟩
theorem allowed_any (S : Sg) (h : SH) (w : World) (k : SgAt w S h) (hT : Text.TabP 3 .i32 Text.Tx.lets w) (hK : KindsT w) (hnm : S.nm.size ≤ 140737488355000) : Calls Tryd.prog 14 #[sv S h] w fun e w' => ∃ v, e = .returned v ∧ Fld.RoI w.heap.size w' v (allowedP S) ∧ Below w.heap.size w w' := by
  cases hc : chkS S with
  | false =>
    have e : allowedP S = [] := by unfold allowedP; rw [if_pos (.inl hc)]
    rw [e]
    exact (allowed_c S h w k hT hnm hc).mono fun e w' ⟨he, hb⟩ => ⟨_, he, Fld.roI_nil _ _, hb⟩
  | true =>
    cases he : S.x.ended with
    | true =>
      have e : allowedP S = [] := by unfold allowedP; rw [if_pos (.inr he)]
      rw [e]
      exact (allowed_e S h w k hT hnm hc he).mono fun e w' ⟨he, hb⟩ => ⟨_, he, Fld.roI_nil _ _, hb⟩
    | false =>
      have e : allowedP S = upK S.x 8 := by unfold allowedP; rw [if_neg (by simp [hc, he])]; rfl
      rw [e]
      exact (allowed_l S h w k hT hK hnm hc he).mono fun e w' ⟨v, he, hr, hb⟩ => ⟨v, he, roI_weak hr (by omega), hb⟩
end Go.Proofs.YtgjlkkikgkbamaaDoor
