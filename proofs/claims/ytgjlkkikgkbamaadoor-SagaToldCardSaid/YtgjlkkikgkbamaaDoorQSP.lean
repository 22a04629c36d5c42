import Derived.Test.YtgjlkkikgkbamaaDoorQSM
/-
  SagaEnds ..: the record that succeeds, kind by kind, and where Allowed holds it.
-/
namespace Go.Proofs.YtgjlkkikgkbamaaDoor
open Go Go.RowKit
open Wb

/-- what happy looks for: the first kind of the list that is not 4 -/
theorem happy_first (S : Sg) (h : chkS S = true) (he : S.x.ended = false) (k : Nat) (hk : k ≤ (allowedP S).length) (h4 : ∀ j (hj : j < (allowedP S).length), j < k → (allowedP S)[j] = 4) : ∃ hk : k < (allowedP S).length, (allowedP S)[k] = 4 ∨ (allowedP S)[k] = happyK S := by
  have e := allowed_eq S h he
  unfold happyK
  generalize allowedP S = l at *
  subst e
  cases ha : S.x.atEnd with
  | true =>
    simp only [ha, ↓reduceIte] at hk h4 ⊢
    match k, hk with
    | 0, _ => exact ⟨by simp, .inr rfl⟩
    | 1, _ => have := h4 0 (by simp) (by omega); simp at this
  | false =>
    by_cases hp : S.x.ph = 1 <;> cases hf : S.x.fl <;> simp only [ha, hp, hf, ↓reduceIte, Bool.false_eq_true] at hk h4 ⊢
    · match k, hk with
      | 0, _ => exact ⟨by simp, .inr rfl⟩
      | 1, _ => have := h4 0 (by simp) (by omega); simp at this
    · match k, hk with
      | 0, _ => exact ⟨by simp, .inr rfl⟩
      | 1, _ => have := h4 0 (by simp) (by omega); simp at this
      | 2, _ => have := h4 0 (by simp) (by omega); simp at this
    · match k, hk with
      | 0, _ => exact ⟨by simp, .inr rfl⟩
      | 1, _ => have := h4 0 (by simp) (by omega); simp at this
    · match k, hk with
      | 0, _ => exact ⟨by simp, .inl rfl⟩
      | 1, _ => exact ⟨by simp, .inr rfl⟩
      | 2, _ => have := h4 1 (by simp) (by omega); simp at this
/-- the kinds it can be, and the phase each belongs to -/
theorem happy_kinds (S : Sg) : happyK S = 7 ∨ (happyK S = 2 ∨ happyK S = 3) ∧ S.x.ph = 1 ∨ (happyK S = 5 ∨ happyK S = 6) ∧ S.x.ph ≠ 1 := by
  unfold happyK
  cases S.x.atEnd <;> by_cases hp : S.x.ph = 1 <;> cases S.x.fl <;> simp [hp]
end Go.Proofs.YtgjlkkikgkbamaaDoor

/-
  SagaEnds ..: happy.
-/
namespace Go.Proofs.YtgjlkkikgkbamaaDoor
open Go Go.RowKit
open Wb

set_option maxRecDepth 100000 in
set_option maxHeartbeats 4000000 in
theorem happy_7 (S : Sg) (h : SH) (w : World) (k : SgAt w S h) (hT : Text.TabP 3 .i32 Text.Tx.lets w) (hK : KindsT w) (hnm : S.nm.size ≤ 140737488355000) (hc : chkS S = true) (he : S.x.ended = false) (hk : happyK S = 7) :
    Calls Tryd.prog 16 #[sv S h] w fun e w' => e = .returned (.tuple #[rv (happyP S).x (happyP S).nm (.slice none 0 0), .bool true]) ∧ Below w.heap.size w w' := by
  have HAL0 : ∀ w', Below w.heap.size w w' → Calls Tryd.prog 14 #[sv S h] w' fun e w'' => ∃ v, e = .returned v ∧ Fld.RoI w'.heap.size w'' v (allowedP S) ∧ Below w'.heap.size w' w'' := fun w' hb' => allowed_any S h w' (k.kept hb') (hT.kept hb') (hK.kept hb') hnm
  have HFI0 := happy_first S hc he
  have HSM0 := allowed_small S
  rw [hk] at HFI0
  have HHP : Hid (happyP S = ⟨⟨3, 7, S.x.id, 0, 0, 9, 0, 0, 0, 0⟩, ⟨#[]⟩, []⟩) := by show _ = _; unfold happyP; rw [hk]; simp
  obtain ⟨l, hl⟩ : ∃ l, allowedP S = l := ⟨_, rfl⟩
  rw [hl] at HAL0 HFI0 HSM0
  clear k hT hK hnm hc he hk hl
  obtain ⟨ZR, hZR⟩ : ∃ ZR, ZR = zrl := ⟨_, rfl⟩
  have HZR : Hid (ZR = zrl) := hZR
  obtain ⟨D, hD, hL, hE⟩ := sv_letter S h
  rw [hD]
  rw [hD] at HAL0
  have HAL : Hid _ := HAL0
  have HFI : Hid _ := HFI0
  have HL : Hid _ := hL
  have HE : Hid (D = scl S h) := hE
  have HX : Hid (∀ t t2, LB ((w.alloc (.cells D.toArray t)).alloc (.cells ZR.toArray t2)) w.heap.size t D ∧ LB ((w.alloc (.cells D.toArray t)).alloc (.cells ZR.toArray t2)) (w.heap.size + 1) t2 ZR ∧ Below w.heap.size w ((w.alloc (.cells D.toArray t)).alloc (.cells ZR.toArray t2))) := fun t t2 => lb_new2 w D ZR t t2
  clear hD hL hE hZR HAL0 HFI0
  go_enter Tryd.func16, Tryd.ntmps16
  go_wp2_with (first | (refine wpList_alloc_R HZR.out rfl rfl ?_; (try simp only [heap_one])) | (refine wpList_load_mid rfl 28 _ rfl w.heap.size 0 rfl D _ (HX.out _ _).1.range Tryd.underlying28 rfl HL.out ?_) | fail)
  refine (HAL.out _ (HX.out _ _).2.2).mono ?_
  rintro e w1 ⟨v1, rfl, ro1, b1⟩
  obtain ⟨a1, c1, rfl⟩ := ro1.shape
  have H1 : Hid (LB w1 w.heap.size 28 D ∧ LB w1 (w.heap.size + 1) 25 ZR ∧ Fld.RoI (w.heap.size + 2) w1 (.slice a1 l.length c1) l ∧ Below w.heap.size w w1) := ⟨(HX.out _ _).1.kept b1, (HX.out _ _).2.1.kept b1, roI_weak ro1 (by rw [heap_one, heap_one]; omega), andThen (HX.out _ _).2.2 b1⟩
  clear b1 ro1 HX HAL
  have hlen := HSM0.1
  go_wp2
  go_loopw [5] (fun i wr => ∃ k : Nat, k ≤ l.length ∧ i = .int .i64 (k : Int) ∧ wr = w1 ∧ ∀ j (hj : j < l.length), j < k → l[j] = 4) (fun i _ => l.length - (intOf i).toNat)
  case atStart => exact ⟨0, Nat.zero_le _, rfl, rfl, fun j _ h => absurd h (Nat.not_lt_zero _)⟩
  case round =>
    obtain ⟨k, hk, rfl, rfl, h4⟩ := hrel
    obtain ⟨hlt, hor⟩ := HFI.out k hk h4
    obtain ⟨g1, rfl, q1⟩ := H1.out.2.2.1.cell k hlt
    rcases hor with e4 | e7
    · rw [e4] at q1
      go_wp2
      go_roundw
      case rel => exact ⟨k + 1, by omega, by go_num, trivial, fun j hj h => by
        by_cases hjk : j < k
        · exact h4 j hj hjk
        · obtain rfl : j = k := by omega
          exact e4⟩
      case measure => simp [intOf]; omega
    · rw [e7] at q1
      have c0 := H1.out.1.cell 0 (.int .i64 S.x.id) (by rw [HE.out]; rfl)
      go_wp2
      have H2 : Hid (LB wr.drew w.heap.size 28 D ∧ LB wr.drew (w.heap.size + 1) 25 ZR ∧ Below w.heap.size w wr.drew ∧ wr.drew.cell? ⟨g1, k, none⟩ = some (.int .i64 7) ∧ wr.drew.cell? ⟨w.heap.size, 0, none⟩ = some (.int .i64 S.x.id)) := ⟨H1.out.1.kept (Below.drew (Below.refl _ _)), H1.out.2.1.kept (Below.drew (Below.refl _ _)), Below.drew H1.out.2.2.2, q1, c0⟩
      refine wp_region_held_drew (S := fun w' : World => w'.cell? ⟨g1, k, none⟩ = some (.int .i64 7) ∧ w'.cell? ⟨w.heap.size, 0, none⟩ = some (.int .i64 S.x.id)) (by kernel_rfl) ?_ (fun hH => ?_)
      · exact ⟨H2.out.2.2.2.1, H2.out.2.2.2.2⟩
      clear H1 q1 c0
      generalize wr.drew = W8 at *
      refine wpAnyH_take (i := 0) (v := ?v1) rfl (by kernel_rfl) (by kernel_rfl) (by kernel_rfl) (fun _ _ _ h => h) (Or.inl ⟨by rfl, ?hy1⟩) hH ?rest1
      case hy1 => intro w' hSw; (try dsimp only at hSw); go_simp; all_goals rfl
      simp only [Act.put, List.setIfInBounds_toArray, List.set_cons_zero, List.set_cons_succ, List.getElem_toArray, List.getElem_cons_zero]
      refine wpAnyH_take (i := 1) (v := ?v2) rfl (by kernel_rfl) (by kernel_rfl) (by kernel_rfl) (fun _ _ _ h => h) (Or.inl ⟨by rfl, ?hy2⟩) hH ?rest2
      case hy2 => intro w' hSw; (try dsimp only at hSw); go_simp; all_goals rfl
      simp only [Act.put, List.setIfInBounds_toArray, List.set_cons_zero, List.set_cons_succ, List.getElem_toArray, List.getElem_cons_zero, List.getElem_cons_succ]
      refine wpAnyH_take (i := 2) (v := ?v3) rfl (by kernel_rfl) (by kernel_rfl) (by kernel_rfl) (fun _ _ _ h => h) (Or.inl ⟨by rfl, ?hy3⟩) hH ?rest3
      case hy3 => intro w' hSw; (try dsimp only at hSw); go_simp; all_goals rfl
      simp only [Act.put, List.setIfInBounds_toArray, List.set_cons_zero, List.set_cons_succ, List.getElem_toArray, List.getElem_cons_zero, List.getElem_cons_succ]
      refine wpAnyH_take (i := 3) (v := ?v4) rfl (by kernel_rfl) (by kernel_rfl) (by kernel_rfl) (fun _ _ _ h => h) (Or.inl ⟨by rfl, ?hy4⟩) hH ?rest4
      case hy4 => intro w' hSw; (try dsimp only at hSw); go_simp; all_goals rfl
      simp only [Act.put, List.setIfInBounds_toArray, List.set_cons_zero, List.set_cons_succ, List.getElem_toArray, List.getElem_cons_zero, List.getElem_cons_succ]
      refine wpAnyH_take (i := 4) (v := ?v5) rfl (by kernel_rfl) (by kernel_rfl) (by kernel_rfl) (fun _ _ _ h => h) (Or.inl ⟨by rfl, ?hy5⟩) hH ?rest5
      case hy5 => intro w' hSw; (try dsimp only at hSw); go_simp; all_goals rfl
      simp only [Act.put, List.setIfInBounds_toArray, List.set_cons_zero, List.set_cons_succ, List.getElem_toArray, List.getElem_cons_zero, List.getElem_cons_succ]
      refine wpAnyH_take (i := 5) (v := ?v6) rfl (by kernel_rfl) (by kernel_rfl) (by kernel_rfl) (fun _ _ _ h => h) (Or.inl ⟨by rfl, ?hy6⟩) hH ?rest6
      case hy6 => intro w' hSw; (try dsimp only at hSw); go_simp; all_goals rfl
      simp only [Act.put, List.setIfInBounds_toArray, List.set_cons_zero, List.set_cons_succ, List.getElem_toArray, List.getElem_cons_zero, List.getElem_cons_succ]
      refine wpAnyH_take (i := 6) (v := ?v7) rfl (by kernel_rfl) (by kernel_rfl) (by kernel_rfl) (fun _ _ _ h => h) (Or.inl ⟨by rfl, ?hy7⟩) hH ?rest7
      case hy7 => intro w' hSw; (try dsimp only at hSw); go_simp; all_goals rfl
      simp only [Act.put, List.setIfInBounds_toArray, List.set_cons_zero, List.set_cons_succ, List.getElem_toArray, List.getElem_cons_zero, List.getElem_cons_succ]
      refine wpAnyH_ready (rs := [7]) (by kernel_rfl) (by simp) ?_
      refine AllReadyH.cons rfl (fun K hK => ?_) AllReadyH.nil
      go_simp
      refine hK.out _ _ ?_ (fun hH2 => ?_)
      · exact ⟨((up0 W8 _).cell (World.block_lt_of_cell? _ _ H2.out.2.2.2.1)).trans H2.out.2.2.2.1, ((up0 W8 _).cell (World.block_lt_of_cell? _ _ H2.out.2.2.2.2)).trans H2.out.2.2.2.2⟩
      clear hK K hH
      have hH := hH2
      clear hH2
      refine wpAnyH_ready (rs := [8]) (by kernel_rfl) (by simp) ?_
      refine AllReadyH.cons rfl (fun K hK => ?_) AllReadyH.nil
      go_simp
      refine hK.out _ _ ?_ (fun hH2 => ?_)
      · exact ⟨((up0 W8 _).cell (World.block_lt_of_cell? _ _ H2.out.2.2.2.1)).trans H2.out.2.2.2.1, ((up0 W8 _).cell (World.block_lt_of_cell? _ _ H2.out.2.2.2.2)).trans H2.out.2.2.2.2⟩
      clear hK K hH hH2
      refine wpAnyH_done (by kernel_rfl) ?_ _
      obtain ⟨M, hM⟩ : ∃ M : List Value, [.int .i64 3, .int .i64 7, .int .i64 S.x.id, .int .i64 0, .int .i64 0, .int .i64 9, .int .i64 0, .int .i64 0, .int .i64 0, .int .i64 0, .string ⟨#[]⟩, .slice none 0 0] = M := ⟨_, rfl⟩
      rw [hM]
      have HM : Hid (M = rcE ⟨3, 7, S.x.id, 0, 0, 9, 0, 0, 0, 0⟩ ⟨#[]⟩ (.slice none 0 0)) := hM.symm
      have HMI : Hid ((Tryd.prog.info? 25).map (·.size) = some M.length) := by show _ = _; rw [HM.out]; exact infoRec
      have HM1 : Hid (∀ v ∈ M, v.oneCell' = true) := by show ∀ v ∈ M, _; rw [HM.out]; exact rcE_one _ _ _ rfl
      have HMZ : Hid (M.length = ZR.length) := by show _ = _; rw [HM.out, HZR.out]; rfl
      clear hM
      obtain ⟨W9, hW9, hq⟩ : ∃ W9, W9 = W8.alloc (.cells M.toArray 25) ∧ LB W9 (w.heap.size + 1) 25 ZR ∧ LB W9 W8.heap.size 25 M ∧ Below w.heap.size w W9 ∧ W9.cell? ⟨g1, k, none⟩ = some (.int .i64 7) ∧ w.heap.size + 1 < W8.heap.size := ⟨_, rfl, H2.out.2.1.kept (up0 _ _), lb_new W8 M _, up H2.out.2.2.1 _, ((up0 W8 _).cell (World.block_lt_of_cell? _ _ H2.out.2.2.2.1)).trans H2.out.2.2.2.1, H2.out.2.1.lt⟩
      rw [← hW9]
      have H3 : Hid _ := hq
      have q9 := hq.2.2.2.1
      clear hW9 hq H2
      have HT9 : Hid (W9.there (w.heap.size + 1) 0 M.toArray.size) := there_of H3.out.1 (by simpa using HMZ.out)
      go_wp2_with (first | (refine wpList_load_mid rfl 25 _ rfl W8.heap.size 0 rfl M _ H3.out.2.1.range Tryd.underlying25 rfl HMI.out ?_) | (refine wpList_store_mid rfl 25 (.tmp 2) (.tmp 64) rfl (w.heap.size + 1) 0 M.toArray rfl rfl HT9.out (by simpa using HMI.out) (all_oneCell_toArray HM1.out) ?_; (rw [List.toList_toArray])) | fail)
      have HR9 : Hid ((W9.setCells (w.heap.size + 1) 0 M).rangeAt (w.heap.size + 1) 0 M) := (H3.out.1.sets M HMZ.out).range
      refine bodyPost_ret (results_cell_slot (p := 2) (s := 3) (ty := 25) rfl _ (W9.setCells (w.heap.size + 1) 0 M) (w.heap.size + 1) M _ rfl HR9.out Tryd.underlying25 rfl HMI.out) rfl ?_
      exact ⟨by rw [HHP.out, HM.out]; rfl, below_cells (by omega) _ 0 _ H3.out.2.2.1⟩
end Go.Proofs.YtgjlkkikgkbamaaDoor
