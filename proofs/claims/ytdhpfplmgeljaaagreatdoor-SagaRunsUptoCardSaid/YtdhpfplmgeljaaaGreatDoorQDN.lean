import Derived.Test.YtdhpfplmgeljaaaGreatDoorQD1
import Derived.Test.YtdhpfplmgeljaaaGreatDoorQS1
import Derived.Test.YtdhpfplmgeljaaaGreatDoorQSH
namespace Go.Proofs.YtdhpfplmgeljaaaGreatDoor
open Go Go.RowKit
open Wb

def askR (x : SN) (k : Int) : Nums := ⟨3, k, x.id, if k = 7 then 0 else if x.ph = 2 then x.nx - 1 else x.nx, x.nextTry, 0, 0, 0, 0, 0⟩
def mayR (x : SN) (k : Int) : Bool := refP x (if k = 2 ∨ k = 5 then askR x k else { askR x k with t := 0 }) == 0
theorem ask_may (x : SN) (k : Int) (hp : 1 ≤ x.ph ∧ x.ph ≤ 4) (hk : 2 ≤ k ∧ k ≤ 7) : mayR x k = (!x.ended && x.may k) := by
  have h1 : k = 2 ∨ k = 3 ∨ k = 4 ∨ k = 5 ∨ k = 6 ∨ k = 7 := by omega
  have h2 : x.ph = 1 ∨ x.ph = 2 ∨ x.ph = 3 ∨ x.ph = 4 := by omega
  unfold mayR
  rcases h2 with h2 | h2 | h2 | h2 <;> rcases h1 with h1 | h1 | h1 | h1 | h1 | h1 <;> cases hf : x.fl <;> cases ha : x.atEnd <;> simp [refP, askR, SN.ended, SN.inPh, kph, lands, SN.onTurn, SN.turn, SN.fwd, SN.may, h1, h2, hf, ha]
def upA (x : SN) (j : Nat) : List Int := (([2, 3, 4, 5, 6, 7] : List Int).take (j - 2)).filter (mayR x)
theorem upA_next (x : SN) (j : Nat) (h2 : 2 ≤ j) (h7 : j ≤ 7) : upA x (j + 1) = if mayR x j then upA x j ++ [(j : Int)] else upA x j := by
  have e : ([2, 3, 4, 5, 6, 7] : List Int).take (j + 1 - 2) = ([2, 3, 4, 5, 6, 7] : List Int).take (j - 2) ++ [(j : Int)] := by
    obtain rfl | rfl | rfl | rfl | rfl | rfl : j = 2 ∨ j = 3 ∨ j = 4 ∨ j = 5 ∨ j = 6 ∨ j = 7 := by omega
    all_goals rfl
  unfold upA
  rw [e, List.filter_append]
  by_cases h : mayR x j = true <;> simp [h]
theorem upA_len (x : SN) (j : Nat) : (upA x j).length ≤ 6 := by
  unfold upA
  refine Nat.le_trans (List.length_filter_le _ _) ?_
  simp
  omega
theorem upA_all (S : Sg) (hc : chkS S = true) : upA S.x 8 = allowedP S := by
  have hp := (good_nums S hc).2.2.2.2.1
  unfold upA allowedP
  have e : ([2, 3, 4, 5, 6, 7] : List Int).take (8 - 2) = [2, 3, 4, 5, 6, 7] := rfl
  rw [e]
  have e2 : ([2, 3, 4, 5, 6, 7] : List Int).filter (mayR S.x) = ([2, 3, 4, 5, 6, 7] : List Int).filter (fun k => !S.x.ended && S.x.may k) := by
    refine List.filter_congr fun k hk => ask_may S.x k hp ?_
    simp at hk
    omega
  rw [e2]
  cases he : S.x.ended with
  | true => rw [if_pos (.inr rfl)]; simp
  | false => rw [if_neg (by simp [hc])]; simp
def downs (n : Int) (j : Nat) : List Int := (List.range j).map fun (i : Nat) => n - 1 - (i : Int)
theorem downs_next (n : Int) (j : Nat) : downs n (j + 1) = downs n j ++ [n - 1 - (j : Int)] := by
  unfold downs
  rw [List.range_succ, List.map_append]
  rfl
theorem downs_len (n : Int) (j : Nat) : (downs n j).length = j := by simp [downs]
def SN.mayUndo (x : SN) : Bool := if x.ph == 1 then !x.atEnd && !x.behind x.nx else x.ph == 2
def pendP (S : Sg) : List Int := if chkS S = false then [] else if S.x.mayUndo then downs S.x.nx S.x.nx.toNat else []
theorem mayUndo_ref (x : SN) (hp : 1 ≤ x.ph ∧ x.ph ≤ 4) (hv : 0 ≤ x.piv) : x.mayUndo = !(decide (3 ≤ x.ph) || (x.ph == 1 && (x.nx == x.cnt || (decide (0 < x.piv) && decide (x.piv ≤ x.nx))))) := by
  have h2 : x.ph = 1 ∨ x.ph = 2 ∨ x.ph = 3 ∨ x.ph = 4 := by omega
  have h3 : (x.piv != 0) = decide (0 < x.piv) := by
    by_cases h : x.piv = 0
    · simp [h]
    · have h4 : 0 < x.piv := by omega
      simp [h, h4]
  rcases h2 with h2 | h2 | h2 | h2 <;> simp [SN.mayUndo, SN.atEnd, SN.fwd, SN.behind, h2, h3]
set_option maxRecDepth 100000 in
set_option maxHeartbeats 4000000 in
theorem rxfin_gen (S : Sg) (h : SH) (w : World) (c : Int) (HCK0 : ∀ w', Below w.heap.size w w' → Calls Tryz.prog 25 #[sv S h] w' fun e w'' => e = .returned (.int .i64 c) ∧ Below w'.heap.size w' w'') : Calls Tryz.prog 28 #[sv S h] w fun e w' => e = .returned (.bool (c == 0 && decide (3 ≤ S.x.ph))) ∧ Below w.heap.size w w' := by
  obtain ⟨D, hD, hL, hE⟩ := sv_letter S h
  rw [hD] at HCK0 ⊢
  have HCK : Hid _ := HCK0
  have HL : Hid _ := hL
  have HE : Hid (D = scl S h) := hE
  have HX : Hid (∀ t, (w.alloc (.cells D.toArray t)).rangeAt w.heap.size 0 D ∧ Below w.heap.size w (w.alloc (.cells D.toArray t))) := fun t => boxed w D t
  clear hD hL hE HCK0
  go_enter Tryz.func28, Tryz.ntmps28
  go_wp2_with (first | (refine wpList_load_mid rfl 29 _ rfl w.heap.size 0 rfl D _ (HX.out _).1 Tryz.underlying29 rfl HL.out ?_) | fail)
  refine (HCK.out _ (HX.out _).2).mono ?_
  rintro e w1 ⟨rfl, b1⟩
  have B1 := andThen (HX.out _).2 b1
  have R1 := range_kept (HX.out _).1 b1
  have c7 := range_cell R1 7 (.int .i64 S.x.ph) (by rw [HE.out]; rfl)
  clear b1 HX HCK R1 HE HL
  cases hc : (c == 0) with
  | true =>
    go_wp2
    go_ret
    exact ⟨by rw [hc]; rfl, B1⟩
  | false =>
    go_wp2
    go_ret
    exact ⟨by rw [hc]; rfl, B1⟩
set_option maxRecDepth 100000 in
set_option maxHeartbeats 4000000 in
theorem rxpend_n1 (S : Sg) (h : SH) (w : World) (HCK0 : ∀ w', Below w.heap.size w w' → Calls Tryz.prog 25 #[sv S h] w' fun e w'' => e = .returned (.int .i64 0) ∧ Below w'.heap.size w' w'') (h3 : decide (3 ≤ S.x.ph) = true) : Calls Tryz.prog 33 #[sv S h] w fun e w' => e = .returned (.slice none 0 0) ∧ Below w.heap.size w w' := by
  obtain ⟨D, hD, hL, hE⟩ := sv_letter S h
  rw [hD] at HCK0 ⊢
  have HCK : Hid _ := HCK0
  have HL : Hid _ := hL
  have HE : Hid (D = scl S h) := hE
  have HX : Hid (∀ t, (w.alloc (.cells D.toArray t)).rangeAt w.heap.size 0 D ∧ Below w.heap.size w (w.alloc (.cells D.toArray t))) := fun t => boxed w D t
  clear hD hL hE HCK0
  go_enter Tryz.func33, Tryz.ntmps33
  go_wp2_with (first | (refine wpList_load_mid rfl 29 _ rfl w.heap.size 0 rfl D _ (HX.out _).1 Tryz.underlying29 rfl HL.out ?_) | fail)
  refine (HCK.out _ (HX.out _).2).mono ?_
  rintro e w1 ⟨rfl, b1⟩
  have B1 := andThen (HX.out _).2 b1
  have R1 := range_kept (HX.out _).1 b1
  have c2 := range_cell R1 2 (.int .i64 S.x.cnt) (by rw [HE.out]; rfl)
  have c3 := range_cell R1 3 (.int .i64 S.x.piv) (by rw [HE.out]; rfl)
  have c7 := range_cell R1 7 (.int .i64 S.x.ph) (by rw [HE.out]; rfl)
  have c8 := range_cell R1 8 (.int .i64 S.x.nx) (by rw [HE.out]; rfl)
  clear b1 HX HCK HL
  clear HE R1
  go_wp2
  go_ret
  exact ⟨rfl, B1⟩
set_option maxRecDepth 100000 in
set_option maxHeartbeats 4000000 in
theorem rxpend_n2 (S : Sg) (h : SH) (w : World) (HCK0 : ∀ w', Below w.heap.size w w' → Calls Tryz.prog 25 #[sv S h] w' fun e w'' => e = .returned (.int .i64 0) ∧ Below w'.heap.size w' w'') (h3 : decide (3 ≤ S.x.ph) = false) (h1 : (S.x.ph == 1) = true) (hq : (S.x.nx == S.x.cnt) = true) : Calls Tryz.prog 33 #[sv S h] w fun e w' => e = .returned (.slice none 0 0) ∧ Below w.heap.size w w' := by
  obtain ⟨D, hD, hL, hE⟩ := sv_letter S h
  rw [hD] at HCK0 ⊢
  have HCK : Hid _ := HCK0
  have HL : Hid _ := hL
  have HE : Hid (D = scl S h) := hE
  have HX : Hid (∀ t, (w.alloc (.cells D.toArray t)).rangeAt w.heap.size 0 D ∧ Below w.heap.size w (w.alloc (.cells D.toArray t))) := fun t => boxed w D t
  clear hD hL hE HCK0
  go_enter Tryz.func33, Tryz.ntmps33
  go_wp2_with (first | (refine wpList_load_mid rfl 29 _ rfl w.heap.size 0 rfl D _ (HX.out _).1 Tryz.underlying29 rfl HL.out ?_) | fail)
  refine (HCK.out _ (HX.out _).2).mono ?_
  rintro e w1 ⟨rfl, b1⟩
  have B1 := andThen (HX.out _).2 b1
  have R1 := range_kept (HX.out _).1 b1
  have c2 := range_cell R1 2 (.int .i64 S.x.cnt) (by rw [HE.out]; rfl)
  have c3 := range_cell R1 3 (.int .i64 S.x.piv) (by rw [HE.out]; rfl)
  have c7 := range_cell R1 7 (.int .i64 S.x.ph) (by rw [HE.out]; rfl)
  have c8 := range_cell R1 8 (.int .i64 S.x.nx) (by rw [HE.out]; rfl)
  clear b1 HX HCK HL
  clear HE R1
  go_wp2
  go_ret
  exact ⟨rfl, B1⟩
set_option maxRecDepth 100000 in
set_option maxHeartbeats 4000000 in
theorem rxpend_n3 (S : Sg) (h : SH) (w : World) (HCK0 : ∀ w', Below w.heap.size w w' → Calls Tryz.prog 25 #[sv S h] w' fun e w'' => e = .returned (.int .i64 0) ∧ Below w'.heap.size w' w'') (h3 : decide (3 ≤ S.x.ph) = false) (h1 : (S.x.ph == 1) = true) (hq : (S.x.nx == S.x.cnt) = false) (hp : decide (0 < S.x.piv) = true) (hl : decide (S.x.piv ≤ S.x.nx) = true) : Calls Tryz.prog 33 #[sv S h] w fun e w' => e = .returned (.slice none 0 0) ∧ Below w.heap.size w w' := by
  obtain ⟨D, hD, hL, hE⟩ := sv_letter S h
  rw [hD] at HCK0 ⊢
  have HCK : Hid _ := HCK0
  have HL : Hid _ := hL
  have HE : Hid (D = scl S h) := hE
  have HX : Hid (∀ t, (w.alloc (.cells D.toArray t)).rangeAt w.heap.size 0 D ∧ Below w.heap.size w (w.alloc (.cells D.toArray t))) := fun t => boxed w D t
  clear hD hL hE HCK0
  go_enter Tryz.func33, Tryz.ntmps33
  go_wp2_with (first | (refine wpList_load_mid rfl 29 _ rfl w.heap.size 0 rfl D _ (HX.out _).1 Tryz.underlying29 rfl HL.out ?_) | fail)
  refine (HCK.out _ (HX.out _).2).mono ?_
  rintro e w1 ⟨rfl, b1⟩
  have B1 := andThen (HX.out _).2 b1
  have R1 := range_kept (HX.out _).1 b1
  have c2 := range_cell R1 2 (.int .i64 S.x.cnt) (by rw [HE.out]; rfl)
  have c3 := range_cell R1 3 (.int .i64 S.x.piv) (by rw [HE.out]; rfl)
  have c7 := range_cell R1 7 (.int .i64 S.x.ph) (by rw [HE.out]; rfl)
  have c8 := range_cell R1 8 (.int .i64 S.x.nx) (by rw [HE.out]; rfl)
  clear b1 HX HCK HL
  clear HE R1
  go_wp2
  go_ret
  exact ⟨rfl, B1⟩
set_option maxRecDepth 100000 in
set_option maxHeartbeats 4000000 in
theorem rxpend_l1 (S : Sg) (h : SH) (w : World) (HCK0 : ∀ w', Below w.heap.size w w' → Calls Tryz.prog 25 #[sv S h] w' fun e w'' => e = .returned (.int .i64 0) ∧ Below w'.heap.size w' w'') (hn : 0 ≤ S.x.nx ∧ S.x.nx ≤ 32) (h3 : decide (3 ≤ S.x.ph) = false) (h1 : (S.x.ph == 1) = false) : Calls Tryz.prog 33 #[sv S h] w fun e w' => ∃ v, e = .returned v ∧ Fld.RoI (w.heap.size + 1) w' v (downs S.x.nx S.x.nx.toNat) ∧ Below w.heap.size w w' := by
  have iw : IntKind.i64.wrap (S.x.nx - 1) = S.x.nx - 1 := IntWalk.i64_in _ (by omega)
  obtain ⟨D, hD, hL, hE⟩ := sv_letter S h
  rw [hD] at HCK0 ⊢
  have HCK : Hid _ := HCK0
  have HL : Hid _ := hL
  have HE : Hid (D = scl S h) := hE
  have HX : Hid (∀ t, (w.alloc (.cells D.toArray t)).rangeAt w.heap.size 0 D ∧ Below w.heap.size w (w.alloc (.cells D.toArray t))) := fun t => boxed w D t
  clear hD hL hE HCK0
  go_enter Tryz.func33, Tryz.ntmps33
  go_wp2_with (first | (refine wpList_load_mid rfl 29 _ rfl w.heap.size 0 rfl D _ (HX.out _).1 Tryz.underlying29 rfl HL.out ?_) | fail)
  refine (HCK.out _ (HX.out _).2).mono ?_
  rintro e w1 ⟨rfl, b1⟩
  have B1 := andThen (HX.out _).2 b1
  have R1 := range_kept (HX.out _).1 b1
  have c2 := range_cell R1 2 (.int .i64 S.x.cnt) (by rw [HE.out]; rfl)
  have c3 := range_cell R1 3 (.int .i64 S.x.piv) (by rw [HE.out]; rfl)
  have c7 := range_cell R1 7 (.int .i64 S.x.ph) (by rw [HE.out]; rfl)
  have c8 := range_cell R1 8 (.int .i64 S.x.nx) (by rw [HE.out]; rfl)
  clear b1 HX HCK HL
  go_wp2
  clear c2 c3 c7 c8
  go_loopw [4, 5] (fun o i wr => ∃ j : Nat, (j : Int) ≤ S.x.nx ∧ i = .int .i64 (S.x.nx - 1 - (j : Int)) ∧ Fld.RoI (w.heap.size + 1) wr o (downs S.x.nx j) ∧ wr.rangeAt w.heap.size 0 D ∧ Below w.heap.size w wr) (fun _ i _ => (intOf i + 1).toNat)
  case atStart => exact ⟨0, by omega, by simp, Fld.roI_nil _ _, R1, B1⟩
  case round =>
    obtain ⟨j, hj, rfl, ho, hR, hbel⟩ := hrel
    by_cases hlt : (j : Int) < S.x.nx
    · have g0 : decide (0 ≤ S.x.nx - 1 - (j : Int)) = true := by simp; omega
      have iw2 : IntKind.i64.wrap (S.x.nx - 1 - (j : Int) - 1) = S.x.nx - 1 - ((j + 1 : Nat) : Int) := by rw [IntWalk.i64_in _ (by omega)]; omega
      have HO : Hid (Fld.RoI (w.heap.size + 1) wr u4 (downs S.x.nx j)) := ho
      have HR : Hid (wr.rangeAt w.heap.size 0 D) := hR
      have HBEL : Hid (Below w.heap.size w wr) := hbel
      obtain ⟨i, hi⟩ : ∃ i, S.x.nx - 1 - (j : Int) = i := ⟨_, rfl⟩
      have HI : Hid (S.x.nx - 1 - (j : Int) = i) := hi
      rw [hi] at g0 iw2
      rw [hi]
      clear ho hR hbel hi
      have HLN : Hid ((downs S.x.nx j).length ≤ 32) := by show _ ≤ _; rw [downs_len]; omega
      have HCE : Hid ((wr.alloc (.cells #[.int .i64 i] 3)).cell? ⟨wr.heap.size, 0, none⟩ = some (.int .i64 i)) := by show _ = _; rw [World.cell?_alloc_new]; rfl
      have HSZ : Hid (w.heap.size + 1 ≤ (wr.alloc (.cells #[.int .i64 i] 3)).heap.size) := by
        show _ ≤ _
        have hlt0 : w.heap.size < wr.heap.size := World.block_lt_of_cell? wr ⟨w.heap.size, 0, none⟩ (range_cell HR.out 0 (.int .i64 S.x.id) (by rw [HE.out]; rfl))
        rw [heap_one]; omega
      go_wp2_with (at_builtin; refine Fld.wpList_app_int _ rfl (.tmp 44) (.tmp 46) 23 rfl (w.heap.size + 1) Fld.info3 Tryz.underlying23 _ (downs S.x.nx j) rfl (HO.out.kept (up0 _ _)) _ i rfl HCE.out (Nat.le_trans HLN.out (by decide)) HSZ.out ?_)
      intro v' w' hro hgr
      have HG : Hid (Fld.RoI (w.heap.size + 1) w' v' (downs S.x.nx (j + 1)) ∧ w'.rangeAt w.heap.size 0 D ∧ Below w.heap.size w w') := by
        have hold : Fld.RoI (w.heap.size + 1) (wr.alloc (.cells #[.int .i64 i] 3)) u4 (downs S.x.nx j) := HO.out.kept (up0 _ _)
        have hbw : Below w.heap.size w (wr.alloc (.cells #[.int .i64 i] 3)) := up HBEL.out _
        refine ⟨by rw [downs_next, HI.out]; exact hro, fun i2 v hv => ?_, (roI_weak hold (by omega)).below hbw hgr⟩
        have h1 := range_kept HR.out (up0 _ (.cells #[.int .i64 i] 3)) i2 v hv
        rw [← h1]
        refine World.cell?_of_block (w := wr.alloc (.cells #[.int .i64 i] 3)) (hgr.block w.heap.size (World.block_lt_of_cell? _ _ h1) (fun e => ?_))
        have := roI_block hold _ e.symm
        omega
      clear hro hgr HCE HSZ HO HR
      go_wp2
      go_roundw
      case rel => exact ⟨j + 1, by omega, by first | rfl | (rw [iw2]; rfl), HG.out.1, HG.out.2.1, HG.out.2.2⟩
      case measure => have := HI.out; simp [intOf]; omega
    · have hje : S.x.nx = (j : Int) := by omega
      have g0 : decide (0 ≤ S.x.nx - 1 - (j : Int)) = false := by simp; omega
      have hjn : S.x.nx.toNat = j := by omega
      have HF : Hid (Fld.RoI (w.heap.size + 1) wr u4 (downs S.x.nx S.x.nx.toNat) ∧ Below w.heap.size w wr) := ⟨by rw [hjn]; exact ho, hbel⟩
      clear ho hbel hR hje hjn
      go_wp2
      go_ret
      exact ⟨_, rfl, HF.out.1, HF.out.2⟩
set_option maxRecDepth 100000 in
set_option maxHeartbeats 4000000 in
theorem rxpend_l2 (S : Sg) (h : SH) (w : World) (HCK0 : ∀ w', Below w.heap.size w w' → Calls Tryz.prog 25 #[sv S h] w' fun e w'' => e = .returned (.int .i64 0) ∧ Below w'.heap.size w' w'') (hn : 0 ≤ S.x.nx ∧ S.x.nx ≤ 32) (h3 : decide (3 ≤ S.x.ph) = false) (h1 : (S.x.ph == 1) = true) (hq : (S.x.nx == S.x.cnt) = false) (hp : decide (0 < S.x.piv) = false) : Calls Tryz.prog 33 #[sv S h] w fun e w' => ∃ v, e = .returned v ∧ Fld.RoI (w.heap.size + 1) w' v (downs S.x.nx S.x.nx.toNat) ∧ Below w.heap.size w w' := by
  have iw : IntKind.i64.wrap (S.x.nx - 1) = S.x.nx - 1 := IntWalk.i64_in _ (by omega)
  obtain ⟨D, hD, hL, hE⟩ := sv_letter S h
  rw [hD] at HCK0 ⊢
  have HCK : Hid _ := HCK0
  have HL : Hid _ := hL
  have HE : Hid (D = scl S h) := hE
  have HX : Hid (∀ t, (w.alloc (.cells D.toArray t)).rangeAt w.heap.size 0 D ∧ Below w.heap.size w (w.alloc (.cells D.toArray t))) := fun t => boxed w D t
  clear hD hL hE HCK0
  go_enter Tryz.func33, Tryz.ntmps33
  go_wp2_with (first | (refine wpList_load_mid rfl 29 _ rfl w.heap.size 0 rfl D _ (HX.out _).1 Tryz.underlying29 rfl HL.out ?_) | fail)
  refine (HCK.out _ (HX.out _).2).mono ?_
  rintro e w1 ⟨rfl, b1⟩
  have B1 := andThen (HX.out _).2 b1
  have R1 := range_kept (HX.out _).1 b1
  have c2 := range_cell R1 2 (.int .i64 S.x.cnt) (by rw [HE.out]; rfl)
  have c3 := range_cell R1 3 (.int .i64 S.x.piv) (by rw [HE.out]; rfl)
  have c7 := range_cell R1 7 (.int .i64 S.x.ph) (by rw [HE.out]; rfl)
  have c8 := range_cell R1 8 (.int .i64 S.x.nx) (by rw [HE.out]; rfl)
  clear b1 HX HCK HL
  go_wp2
  clear c2 c3 c7 c8
  go_loopw [4, 5] (fun o i wr => ∃ j : Nat, (j : Int) ≤ S.x.nx ∧ i = .int .i64 (S.x.nx - 1 - (j : Int)) ∧ Fld.RoI (w.heap.size + 1) wr o (downs S.x.nx j) ∧ wr.rangeAt w.heap.size 0 D ∧ Below w.heap.size w wr) (fun _ i _ => (intOf i + 1).toNat)
  case atStart => exact ⟨0, by omega, by simp, Fld.roI_nil _ _, R1, B1⟩
  case round =>
    obtain ⟨j, hj, rfl, ho, hR, hbel⟩ := hrel
    by_cases hlt : (j : Int) < S.x.nx
    · have g0 : decide (0 ≤ S.x.nx - 1 - (j : Int)) = true := by simp; omega
      have iw2 : IntKind.i64.wrap (S.x.nx - 1 - (j : Int) - 1) = S.x.nx - 1 - ((j + 1 : Nat) : Int) := by rw [IntWalk.i64_in _ (by omega)]; omega
      have HO : Hid (Fld.RoI (w.heap.size + 1) wr u4 (downs S.x.nx j)) := ho
      have HR : Hid (wr.rangeAt w.heap.size 0 D) := hR
      have HBEL : Hid (Below w.heap.size w wr) := hbel
      obtain ⟨i, hi⟩ : ∃ i, S.x.nx - 1 - (j : Int) = i := ⟨_, rfl⟩
      have HI : Hid (S.x.nx - 1 - (j : Int) = i) := hi
      rw [hi] at g0 iw2
      rw [hi]
      clear ho hR hbel hi
      have HLN : Hid ((downs S.x.nx j).length ≤ 32) := by show _ ≤ _; rw [downs_len]; omega
      have HCE : Hid ((wr.alloc (.cells #[.int .i64 i] 3)).cell? ⟨wr.heap.size, 0, none⟩ = some (.int .i64 i)) := by show _ = _; rw [World.cell?_alloc_new]; rfl
      have HSZ : Hid (w.heap.size + 1 ≤ (wr.alloc (.cells #[.int .i64 i] 3)).heap.size) := by
        show _ ≤ _
        have hlt0 : w.heap.size < wr.heap.size := World.block_lt_of_cell? wr ⟨w.heap.size, 0, none⟩ (range_cell HR.out 0 (.int .i64 S.x.id) (by rw [HE.out]; rfl))
        rw [heap_one]; omega
      go_wp2_with (at_builtin; refine Fld.wpList_app_int _ rfl (.tmp 44) (.tmp 46) 23 rfl (w.heap.size + 1) Fld.info3 Tryz.underlying23 _ (downs S.x.nx j) rfl (HO.out.kept (up0 _ _)) _ i rfl HCE.out (Nat.le_trans HLN.out (by decide)) HSZ.out ?_)
      intro v' w' hro hgr
      have HG : Hid (Fld.RoI (w.heap.size + 1) w' v' (downs S.x.nx (j + 1)) ∧ w'.rangeAt w.heap.size 0 D ∧ Below w.heap.size w w') := by
        have hold : Fld.RoI (w.heap.size + 1) (wr.alloc (.cells #[.int .i64 i] 3)) u4 (downs S.x.nx j) := HO.out.kept (up0 _ _)
        have hbw : Below w.heap.size w (wr.alloc (.cells #[.int .i64 i] 3)) := up HBEL.out _
        refine ⟨by rw [downs_next, HI.out]; exact hro, fun i2 v hv => ?_, (roI_weak hold (by omega)).below hbw hgr⟩
        have h1 := range_kept HR.out (up0 _ (.cells #[.int .i64 i] 3)) i2 v hv
        rw [← h1]
        refine World.cell?_of_block (w := wr.alloc (.cells #[.int .i64 i] 3)) (hgr.block w.heap.size (World.block_lt_of_cell? _ _ h1) (fun e => ?_))
        have := roI_block hold _ e.symm
        omega
      clear hro hgr HCE HSZ HO HR
      go_wp2
      go_roundw
      case rel => exact ⟨j + 1, by omega, by first | rfl | (rw [iw2]; rfl), HG.out.1, HG.out.2.1, HG.out.2.2⟩
      case measure => have := HI.out; simp [intOf]; omega
    · have hje : S.x.nx = (j : Int) := by omega
      have g0 : decide (0 ≤ S.x.nx - 1 - (j : Int)) = false := by simp; omega
      have hjn : S.x.nx.toNat = j := by omega
      have HF : Hid (Fld.RoI (w.heap.size + 1) wr u4 (downs S.x.nx S.x.nx.toNat) ∧ Below w.heap.size w wr) := ⟨by rw [hjn]; exact ho, hbel⟩
      clear ho hbel hR hje hjn
      go_wp2
      go_ret
      exact ⟨_, rfl, HF.out.1, HF.out.2⟩
set_option maxRecDepth 100000 in
set_option maxHeartbeats 4000000 in
theorem rxpend_l3 (S : Sg) (h : SH) (w : World) (HCK0 : ∀ w', Below w.heap.size w w' → Calls Tryz.prog 25 #[sv S h] w' fun e w'' => e = .returned (.int .i64 0) ∧ Below w'.heap.size w' w'') (hn : 0 ≤ S.x.nx ∧ S.x.nx ≤ 32) (h3 : decide (3 ≤ S.x.ph) = false) (h1 : (S.x.ph == 1) = true) (hq : (S.x.nx == S.x.cnt) = false) (hp : decide (0 < S.x.piv) = true) (hl : decide (S.x.piv ≤ S.x.nx) = false) : Calls Tryz.prog 33 #[sv S h] w fun e w' => ∃ v, e = .returned v ∧ Fld.RoI (w.heap.size + 1) w' v (downs S.x.nx S.x.nx.toNat) ∧ Below w.heap.size w w' := by
  have iw : IntKind.i64.wrap (S.x.nx - 1) = S.x.nx - 1 := IntWalk.i64_in _ (by omega)
  obtain ⟨D, hD, hL, hE⟩ := sv_letter S h
  rw [hD] at HCK0 ⊢
  have HCK : Hid _ := HCK0
  have HL : Hid _ := hL
  have HE : Hid (D = scl S h) := hE
  have HX : Hid (∀ t, (w.alloc (.cells D.toArray t)).rangeAt w.heap.size 0 D ∧ Below w.heap.size w (w.alloc (.cells D.toArray t))) := fun t => boxed w D t
  clear hD hL hE HCK0
  go_enter Tryz.func33, Tryz.ntmps33
  go_wp2_with (first | (refine wpList_load_mid rfl 29 _ rfl w.heap.size 0 rfl D _ (HX.out _).1 Tryz.underlying29 rfl HL.out ?_) | fail)
  refine (HCK.out _ (HX.out _).2).mono ?_
  rintro e w1 ⟨rfl, b1⟩
  have B1 := andThen (HX.out _).2 b1
  have R1 := range_kept (HX.out _).1 b1
  have c2 := range_cell R1 2 (.int .i64 S.x.cnt) (by rw [HE.out]; rfl)
  have c3 := range_cell R1 3 (.int .i64 S.x.piv) (by rw [HE.out]; rfl)
  have c7 := range_cell R1 7 (.int .i64 S.x.ph) (by rw [HE.out]; rfl)
  have c8 := range_cell R1 8 (.int .i64 S.x.nx) (by rw [HE.out]; rfl)
  clear b1 HX HCK HL
  go_wp2
  clear c2 c3 c7 c8
  go_loopw [4, 5] (fun o i wr => ∃ j : Nat, (j : Int) ≤ S.x.nx ∧ i = .int .i64 (S.x.nx - 1 - (j : Int)) ∧ Fld.RoI (w.heap.size + 1) wr o (downs S.x.nx j) ∧ wr.rangeAt w.heap.size 0 D ∧ Below w.heap.size w wr) (fun _ i _ => (intOf i + 1).toNat)
  case atStart => exact ⟨0, by omega, by simp, Fld.roI_nil _ _, R1, B1⟩
  case round =>
    obtain ⟨j, hj, rfl, ho, hR, hbel⟩ := hrel
    by_cases hlt : (j : Int) < S.x.nx
    · have g0 : decide (0 ≤ S.x.nx - 1 - (j : Int)) = true := by simp; omega
      have iw2 : IntKind.i64.wrap (S.x.nx - 1 - (j : Int) - 1) = S.x.nx - 1 - ((j + 1 : Nat) : Int) := by rw [IntWalk.i64_in _ (by omega)]; omega
      have HO : Hid (Fld.RoI (w.heap.size + 1) wr u4 (downs S.x.nx j)) := ho
      have HR : Hid (wr.rangeAt w.heap.size 0 D) := hR
      have HBEL : Hid (Below w.heap.size w wr) := hbel
      obtain ⟨i, hi⟩ : ∃ i, S.x.nx - 1 - (j : Int) = i := ⟨_, rfl⟩
      have HI : Hid (S.x.nx - 1 - (j : Int) = i) := hi
      rw [hi] at g0 iw2
      rw [hi]
      clear ho hR hbel hi
      have HLN : Hid ((downs S.x.nx j).length ≤ 32) := by show _ ≤ _; rw [downs_len]; omega
      have HCE : Hid ((wr.alloc (.cells #[.int .i64 i] 3)).cell? ⟨wr.heap.size, 0, none⟩ = some (.int .i64 i)) := by show _ = _; rw [World.cell?_alloc_new]; rfl
      have HSZ : Hid (w.heap.size + 1 ≤ (wr.alloc (.cells #[.int .i64 i] 3)).heap.size) := by
        show _ ≤ _
        have hlt0 : w.heap.size < wr.heap.size := World.block_lt_of_cell? wr ⟨w.heap.size, 0, none⟩ (range_cell HR.out 0 (.int .i64 S.x.id) (by rw [HE.out]; rfl))
        rw [heap_one]; omega
      go_wp2_with (at_builtin; refine Fld.wpList_app_int _ rfl (.tmp 44) (.tmp 46) 23 rfl (w.heap.size + 1) Fld.info3 Tryz.underlying23 _ (downs S.x.nx j) rfl (HO.out.kept (up0 _ _)) _ i rfl HCE.out (Nat.le_trans HLN.out (by decide)) HSZ.out ?_)
      intro v' w' hro hgr
      have HG : Hid (Fld.RoI (w.heap.size + 1) w' v' (downs S.x.nx (j + 1)) ∧ w'.rangeAt w.heap.size 0 D ∧ Below w.heap.size w w') := by
        have hold : Fld.RoI (w.heap.size + 1) (wr.alloc (.cells #[.int .i64 i] 3)) u4 (downs S.x.nx j) := HO.out.kept (up0 _ _)
        have hbw : Below w.heap.size w (wr.alloc (.cells #[.int .i64 i] 3)) := up HBEL.out _
        refine ⟨by rw [downs_next, HI.out]; exact hro, fun i2 v hv => ?_, (roI_weak hold (by omega)).below hbw hgr⟩
        have h1 := range_kept HR.out (up0 _ (.cells #[.int .i64 i] 3)) i2 v hv
        rw [← h1]
        refine World.cell?_of_block (w := wr.alloc (.cells #[.int .i64 i] 3)) (hgr.block w.heap.size (World.block_lt_of_cell? _ _ h1) (fun e => ?_))
        have := roI_block hold _ e.symm
        omega
      clear hro hgr HCE HSZ HO HR
      go_wp2
      go_roundw
      case rel => exact ⟨j + 1, by omega, by first | rfl | (rw [iw2]; rfl), HG.out.1, HG.out.2.1, HG.out.2.2⟩
      case measure => have := HI.out; simp [intOf]; omega
    · have hje : S.x.nx = (j : Int) := by omega
      have g0 : decide (0 ≤ S.x.nx - 1 - (j : Int)) = false := by simp; omega
      have hjn : S.x.nx.toNat = j := by omega
      have HF : Hid (Fld.RoI (w.heap.size + 1) wr u4 (downs S.x.nx S.x.nx.toNat) ∧ Below w.heap.size w wr) := ⟨by rw [hjn]; exact ho, hbel⟩
      clear ho hbel hR hje hjn
      go_wp2
      go_ret
      exact ⟨_, rfl, HF.out.1, HF.out.2⟩
theorem rxpend_any (S : Sg) (h : SH) (w : World) (HCK0 : ∀ w', Below w.heap.size w w' → Calls Tryz.prog 25 #[sv S h] w' fun e w'' => e = .returned (.int .i64 0) ∧ Below w'.heap.size w' w'') (hc : chkS S = true) : Calls Tryz.prog 33 #[sv S h] w fun e w' => ∃ v, e = .returned v ∧ Fld.RoI w.heap.size w' v (pendP S) ∧ Below w.heap.size w w' := by
  obtain ⟨_, _, _, _, g5, _, _, _, g9, _, g11⟩ := good_nums S hc
  have hm := mayUndo_ref S.x g5 g11
  have hN : S.x.mayUndo = false → pendP S = [] := fun e => by unfold pendP; rw [e]; simp
  have hY : S.x.mayUndo = true → pendP S = downs S.x.nx S.x.nx.toNat := fun e => by unfold pendP; rw [if_neg (by simp [hc]), if_pos e]
  have hn : ∀ {e : Ending} {w' : World}, S.x.mayUndo = false → (e = .returned (.slice none 0 0) ∧ Below w.heap.size w w') → ∃ v, e = .returned v ∧ Fld.RoI w.heap.size w' v (pendP S) ∧ Below w.heap.size w w' := fun q h1 => ⟨_, h1.1, by rw [hN q]; exact Fld.roI_nil _ _, h1.2⟩
  have hy : ∀ {e : Ending} {w' : World}, S.x.mayUndo = true → (∃ v, e = .returned v ∧ Fld.RoI (w.heap.size + 1) w' v (downs S.x.nx S.x.nx.toNat) ∧ Below w.heap.size w w') → ∃ v, e = .returned v ∧ Fld.RoI w.heap.size w' v (pendP S) ∧ Below w.heap.size w w' := fun q ⟨v, h1, h2, h3⟩ => ⟨v, h1, by rw [hY q]; exact roI_weak h2 (by omega), h3⟩
  cases h3 : decide (3 ≤ S.x.ph) with
  | true => exact (rxpend_n1 S h w HCK0 h3).mono fun e w' k => hn (by rw [hm, h3]; rfl) k
  | false =>
    cases h1 : (S.x.ph == 1) with
    | false => exact (rxpend_l1 S h w HCK0 g9 h3 h1).mono fun e w' k => hy (by rw [hm, h3, h1]; rfl) k
    | true =>
      cases hq : (S.x.nx == S.x.cnt) with
      | true => exact (rxpend_n2 S h w HCK0 h3 h1 hq).mono fun e w' k => hn (by rw [hm, h3, h1, hq]; rfl) k
      | false =>
        cases hp : decide (0 < S.x.piv) with
        | false => exact (rxpend_l2 S h w HCK0 g9 h3 h1 hq hp).mono fun e w' k => hy (by rw [hm, h3, h1, hq, hp]; rfl) k
        | true =>
          cases hl : decide (S.x.piv ≤ S.x.nx) with
          | true => exact (rxpend_n3 S h w HCK0 h3 h1 hq hp hl).mono fun e w' k => hn (by rw [hm, h3, h1, hq, hp, hl]; rfl) k
          | false => exact (rxpend_l3 S h w HCK0 g9 h3 h1 hq hp hl).mono fun e w' k => hy (by rw [hm, h3, h1, hq, hp, hl]; rfl) k
set_option maxRecDepth 100000 in
set_option maxHeartbeats 4000000 in
theorem mayUndo_2 (S : Sg) (h : SH) (w : World) (h1 : (S.x.ph == 1) = false) : Calls Tryz.prog 67 #[sv S h] w fun e w' => e = .returned (.bool (S.x.ph == 2)) ∧ Below w.heap.size w w' := by
  obtain ⟨D, hD, hL, hE⟩ := sv_letter S h
  rw [hD]
  have HE : Hid (D = scl S h) := hE
  have HX : Hid (∀ t, (w.alloc (.cells D.toArray t)).rangeAt w.heap.size 0 D ∧ Below w.heap.size w (w.alloc (.cells D.toArray t))) := fun t => boxed w D t
  clear hD hL hE
  have c7 := range_cell (HX.out 29).1 7 (.int .i64 S.x.ph) (by rw [HE.out]; rfl)
  have BX := (HX.out 29).2
  clear HE HX
  go_enter Tryz.func67, Tryz.ntmps67
  go_wp2
  go_ret
  exact ⟨rfl, BX⟩
set_option maxRecDepth 100000 in
set_option maxHeartbeats 4000000 in
theorem mayUndo_e (S : Sg) (h : SH) (w : World) (h1 : (S.x.ph == 1) = true) (ha : S.x.atEnd = true) : Calls Tryz.prog 67 #[sv S h] w fun e w' => e = .returned (.bool false) ∧ Below w.heap.size w w' := by
  have HAE0 : ∀ w', Calls Tryz.prog 66 #[sv S h] w' fun e w'' => e = .returned (.bool true) ∧ Below w'.heap.size w' w'' := fun w' => by rw [← ha]; exact atEnd_any S h w'
  obtain ⟨D, hD, hL, hE⟩ := sv_letter S h
  rw [hD] at HAE0 ⊢
  have HAE : Hid _ := HAE0
  have HL : Hid _ := hL
  have HE : Hid (D = scl S h) := hE
  have HX : Hid (∀ t, (w.alloc (.cells D.toArray t)).rangeAt w.heap.size 0 D ∧ Below w.heap.size w (w.alloc (.cells D.toArray t))) := fun t => boxed w D t
  clear hD hL hE HAE0
  clear ha
  have c7 := range_cell (HX.out 29).1 7 (.int .i64 S.x.ph) (by rw [HE.out]; rfl)
  clear HE
  go_enter Tryz.func67, Tryz.ntmps67
  go_wp2_with (first | (refine wpList_load_mid rfl 29 _ rfl w.heap.size 0 rfl D _ (HX.out _).1 Tryz.underlying29 rfl HL.out ?_) | (refine wpList_load_midG rfl 29 _ rfl w.heap.size 0 rfl D _ (HX.out _).1 Tryz.underlying29 rfl HL.out ?_) | fail)
  refine (HAE.out _).mono ?_
  rintro e w1 ⟨rfl, b1⟩
  have B1 := andThen (HX.out _).2 b1
  clear b1 HX HAE HL c7
  go_wp2
  go_ret
  exact ⟨rfl, B1⟩
set_option maxRecDepth 100000 in
set_option maxHeartbeats 4000000 in
theorem mayUndo_b (S : Sg) (h : SH) (w : World) (h1 : (S.x.ph == 1) = true) (ha : S.x.atEnd = false) : Calls Tryz.prog 67 #[sv S h] w fun e w' => e = .returned (.bool (!S.x.behind S.x.nx)) ∧ Below w.heap.size w w' := by
  have HAE0 : ∀ w', Calls Tryz.prog 66 #[sv S h] w' fun e w'' => e = .returned (.bool false) ∧ Below w'.heap.size w' w'' := fun w' => by rw [← ha]; exact atEnd_any S h w'
  have HBH0 : ∀ w', Calls Tryz.prog 52 #[sv S h, .int .i64 S.x.nx] w' fun e w'' => e = .returned (.bool (S.x.behind S.x.nx)) ∧ Below w'.heap.size w' w'' := fun w' => behind_any S h S.x.nx w'
  obtain ⟨D, hD, hL, hE⟩ := sv_letter S h
  rw [hD] at HAE0 HBH0 ⊢
  have HAE : Hid _ := HAE0
  have HBH : Hid _ := HBH0
  have HL : Hid _ := hL
  have HE : Hid (D = scl S h) := hE
  have HX : Hid (∀ t, (w.alloc (.cells D.toArray t)).rangeAt w.heap.size 0 D ∧ Below w.heap.size w (w.alloc (.cells D.toArray t))) := fun t => boxed w D t
  clear hD hL hE HAE0 HBH0
  clear ha
  have c7 := range_cell (HX.out 29).1 7 (.int .i64 S.x.ph) (by rw [HE.out]; rfl)
  go_enter Tryz.func67, Tryz.ntmps67
  go_wp2_with (first | (refine wpList_load_mid rfl 29 _ rfl w.heap.size 0 rfl D _ (HX.out _).1 Tryz.underlying29 rfl HL.out ?_) | (refine wpList_load_midG rfl 29 _ rfl w.heap.size 0 rfl D _ (HX.out _).1 Tryz.underlying29 rfl HL.out ?_) | fail)
  refine (HAE.out _).mono ?_
  rintro e w1 ⟨rfl, b1⟩
  have B1 := andThen (HX.out _).2 b1
  have R1 := range_kept (HX.out _).1 b1
  have c8 := range_cell R1 8 (.int .i64 S.x.nx) (by rw [HE.out]; rfl)
  clear b1 HX HAE c7
  go_wp2_with (first | (refine wpList_load_mid rfl 29 _ rfl w.heap.size 0 rfl D _ R1 Tryz.underlying29 rfl HL.out ?_) | (refine wpList_load_midG rfl 29 _ rfl w.heap.size 0 rfl D _ R1 Tryz.underlying29 rfl HL.out ?_) | fail)
  refine (HBH.out _).mono ?_
  rintro e w2 ⟨rfl, b2⟩
  have B2 := andThen B1 b2
  clear b2 B1 R1 HBH c8
  go_wp2
  go_ret
  exact ⟨rfl, B2⟩
theorem mayUndo_any (S : Sg) (h : SH) (w : World) : Calls Tryz.prog 67 #[sv S h] w fun e w' => e = .returned (.bool S.x.mayUndo) ∧ Below w.heap.size w w' := by
  unfold SN.mayUndo
  cases h1 : (S.x.ph == 1) with
  | false => exact mayUndo_2 S h w h1
  | true =>
    cases ha : S.x.atEnd with
    | true => exact mayUndo_e S h w h1 ha
    | false =>
      have e := mayUndo_b S h w h1 ha
      rw [if_pos rfl, Bool.not_false, Bool.true_and]
      exact e
set_option maxRecDepth 100000 in
set_option maxHeartbeats 4000000 in
theorem pend_c (S : Sg) (h : SH) (w : World) (k : SgAt w S h) (hT : Text.TabP 4 .i32 Text.Tx.lets w) (hnm : S.nm.size ≤ 140737488355000) (hc : chkS S = false) : Calls Tryz.prog 32 #[sv S h] w fun e w' => e = .returned (.slice none 0 0) ∧ Below w.heap.size w w' := by
  have HCK0 : ∀ w', Below w.heap.size w w' → Calls Tryz.prog 21 #[sv S h] w' fun e w'' => e = .returned (.int .i64 100) ∧ Below w'.heap.size w' w'' := fun w' hb => by have e := scheck_any S h w' (k.kept hb) (hT.kept hb) hnm; rw [hc] at e; exact e
  obtain ⟨D, hD, hL, hE⟩ := sv_letter S h
  rw [hD] at HCK0 ⊢
  have HCK : Hid _ := HCK0
  have HL : Hid _ := hL
  have HE : Hid (D = scl S h) := hE
  have HX : Hid (∀ t, (w.alloc (.cells D.toArray t)).rangeAt w.heap.size 0 D ∧ Below w.heap.size w (w.alloc (.cells D.toArray t))) := fun t => boxed w D t
  clear hD hL hE HCK0
  clear k hT hnm HE hc
  go_enter Tryz.func32, Tryz.ntmps32
  go_wp2_with (first | (refine wpList_load_mid rfl 29 _ rfl w.heap.size 0 rfl D _ (HX.out _).1 Tryz.underlying29 rfl HL.out ?_) | (refine wpList_load_midG rfl 29 _ rfl w.heap.size 0 rfl D _ (HX.out _).1 Tryz.underlying29 rfl HL.out ?_) | fail)
  refine (HCK.out _ (HX.out _).2).mono ?_
  rintro e w1 ⟨rfl, b1⟩
  have B1 := andThen (HX.out _).2 b1
  clear b1 HX HCK HL
  go_wp2
  go_ret
  exact ⟨rfl, B1⟩
set_option maxRecDepth 100000 in
set_option maxHeartbeats 4000000 in
theorem pend_n (S : Sg) (h : SH) (w : World) (k : SgAt w S h) (hT : Text.TabP 4 .i32 Text.Tx.lets w) (hnm : S.nm.size ≤ 140737488355000) (hc : chkS S = true) (hm : S.x.mayUndo = false) : Calls Tryz.prog 32 #[sv S h] w fun e w' => e = .returned (.slice none 0 0) ∧ Below w.heap.size w w' := by
  have HCK0 : ∀ w', Below w.heap.size w w' → Calls Tryz.prog 21 #[sv S h] w' fun e w'' => e = .returned (.int .i64 0) ∧ Below w'.heap.size w' w'' := fun w' hb => by have e := scheck_any S h w' (k.kept hb) (hT.kept hb) hnm; rw [hc] at e; exact e
  have HMU0 : ∀ w', Calls Tryz.prog 67 #[sv S h] w' fun e w'' => e = .returned (.bool false) ∧ Below w'.heap.size w' w'' := fun w' => by rw [← hm]; exact mayUndo_any S h w'
  obtain ⟨D, hD, hL, hE⟩ := sv_letter S h
  rw [hD] at HCK0 HMU0 ⊢
  have HCK : Hid _ := HCK0
  have HMU : Hid _ := HMU0
  have HL : Hid _ := hL
  have HE : Hid (D = scl S h) := hE
  have HX : Hid (∀ t, (w.alloc (.cells D.toArray t)).rangeAt w.heap.size 0 D ∧ Below w.heap.size w (w.alloc (.cells D.toArray t))) := fun t => boxed w D t
  clear hD hL hE HCK0 HMU0
  clear k hT hnm HE hc hm
  go_enter Tryz.func32, Tryz.ntmps32
  go_wp2_with (first | (refine wpList_load_mid rfl 29 _ rfl w.heap.size 0 rfl D _ (HX.out _).1 Tryz.underlying29 rfl HL.out ?_) | (refine wpList_load_midG rfl 29 _ rfl w.heap.size 0 rfl D _ (HX.out _).1 Tryz.underlying29 rfl HL.out ?_) | fail)
  refine (HCK.out _ (HX.out _).2).mono ?_
  rintro e w1 ⟨rfl, b1⟩
  have B1 := andThen (HX.out _).2 b1
  have R1 := range_kept (HX.out _).1 b1
  clear b1 HX HCK
  go_wp2_with (first | (refine wpList_load_mid rfl 29 _ rfl w.heap.size 0 rfl D _ R1 Tryz.underlying29 rfl HL.out ?_) | (refine wpList_load_midG rfl 29 _ rfl w.heap.size 0 rfl D _ R1 Tryz.underlying29 rfl HL.out ?_) | fail)
  refine (HMU.out _).mono ?_
  rintro e w2 ⟨rfl, b2⟩
  have B2 := andThen B1 b2
  clear b2 B1 R1 HMU HL
  go_wp2
  go_ret
  exact ⟨rfl, B2⟩
set_option maxRecDepth 100000 in
set_option maxHeartbeats 4000000 in
theorem pend_l (S : Sg) (h : SH) (w : World) (k : SgAt w S h) (hT : Text.TabP 4 .i32 Text.Tx.lets w) (hnm : S.nm.size ≤ 140737488355000) (hc : chkS S = true) (hm : S.x.mayUndo = true) : Calls Tryz.prog 32 #[sv S h] w fun e w' => ∃ v, e = .returned v ∧ Fld.RoI (w.heap.size + 1) w' v (downs S.x.nx S.x.nx.toNat) ∧ Below w.heap.size w w' := by
  have hn := (good_nums S hc).2.2.2.2.2.2.2.2.1
  have HCK0 : ∀ w', Below w.heap.size w w' → Calls Tryz.prog 21 #[sv S h] w' fun e w'' => e = .returned (.int .i64 0) ∧ Below w'.heap.size w' w'' := fun w' hb => by have e := scheck_any S h w' (k.kept hb) (hT.kept hb) hnm; rw [hc] at e; exact e
  have HMU0 : ∀ w', Calls Tryz.prog 67 #[sv S h] w' fun e w'' => e = .returned (.bool true) ∧ Below w'.heap.size w' w'' := fun w' => by rw [← hm]; exact mayUndo_any S h w'
  have iw : IntKind.i64.wrap (S.x.nx - 1) = S.x.nx - 1 := IntWalk.i64_in _ (by omega)
  obtain ⟨D, hD, hL, hE⟩ := sv_letter S h
  rw [hD] at HCK0 HMU0 ⊢
  have HCK : Hid _ := HCK0
  have HMU : Hid _ := HMU0
  have HL : Hid _ := hL
  have HE : Hid (D = scl S h) := hE
  have HX : Hid (∀ t, (w.alloc (.cells D.toArray t)).rangeAt w.heap.size 0 D ∧ Below w.heap.size w (w.alloc (.cells D.toArray t))) := fun t => boxed w D t
  clear hD hL hE HCK0 HMU0
  clear k hT hnm hc hm
  go_enter Tryz.func32, Tryz.ntmps32
  go_wp2_with (first | (refine wpList_load_mid rfl 29 _ rfl w.heap.size 0 rfl D _ (HX.out _).1 Tryz.underlying29 rfl HL.out ?_) | (refine wpList_load_midG rfl 29 _ rfl w.heap.size 0 rfl D _ (HX.out _).1 Tryz.underlying29 rfl HL.out ?_) | fail)
  refine (HCK.out _ (HX.out _).2).mono ?_
  rintro e w1 ⟨rfl, b1⟩
  have B1 := andThen (HX.out _).2 b1
  have R1 := range_kept (HX.out _).1 b1
  clear b1 HX HCK
  go_wp2_with (first | (refine wpList_load_mid rfl 29 _ rfl w.heap.size 0 rfl D _ R1 Tryz.underlying29 rfl HL.out ?_) | (refine wpList_load_midG rfl 29 _ rfl w.heap.size 0 rfl D _ R1 Tryz.underlying29 rfl HL.out ?_) | fail)
  refine (HMU.out _).mono ?_
  rintro e w2 ⟨rfl, b2⟩
  have B2 := andThen B1 b2
  have R2 := range_kept R1 b2
  have c8 := range_cell R2 8 (.int .i64 S.x.nx) (by rw [HE.out]; rfl)
  clear b2 B1 R1 HMU HL
  go_wp2
  clear c8
  go_loopw [3, 4] (fun o i wr => ∃ j : Nat, (j : Int) ≤ S.x.nx ∧ i = .int .i64 (S.x.nx - 1 - (j : Int)) ∧ Fld.RoI (w.heap.size + 1) wr o (downs S.x.nx j) ∧ wr.rangeAt w.heap.size 0 D ∧ Below w.heap.size w wr) (fun _ i _ => (intOf i + 1).toNat)
  case atStart => exact ⟨0, by omega, by simp, Fld.roI_nil _ _, R2, B2⟩
  case round =>
    obtain ⟨j, hj, rfl, ho, hR, hbel⟩ := hrel
    by_cases hlt : (j : Int) < S.x.nx
    · have g0 : decide (0 ≤ S.x.nx - 1 - (j : Int)) = true := by simp; omega
      have iw2 : IntKind.i64.wrap (S.x.nx - 1 - (j : Int) - 1) = S.x.nx - 1 - ((j + 1 : Nat) : Int) := by rw [IntWalk.i64_in _ (by omega)]; omega
      have HO : Hid (Fld.RoI (w.heap.size + 1) wr u3 (downs S.x.nx j)) := ho
      have HR : Hid (wr.rangeAt w.heap.size 0 D) := hR
      have HBEL : Hid (Below w.heap.size w wr) := hbel
      obtain ⟨i, hi⟩ : ∃ i, S.x.nx - 1 - (j : Int) = i := ⟨_, rfl⟩
      have HI : Hid (S.x.nx - 1 - (j : Int) = i) := hi
      rw [hi] at g0 iw2
      rw [hi]
      clear ho hR hbel hi
      have HLN : Hid ((downs S.x.nx j).length ≤ 32) := by show _ ≤ _; rw [downs_len]; omega
      have HCE : Hid ((wr.alloc (.cells #[.int .i64 i] 3)).cell? ⟨wr.heap.size, 0, none⟩ = some (.int .i64 i)) := by show _ = _; rw [World.cell?_alloc_new]; rfl
      have HSZ : Hid (w.heap.size + 1 ≤ (wr.alloc (.cells #[.int .i64 i] 3)).heap.size) := by
        show _ ≤ _
        have hlt0 : w.heap.size < wr.heap.size := World.block_lt_of_cell? wr ⟨w.heap.size, 0, none⟩ (range_cell HR.out 0 (.int .i64 S.x.id) (by rw [HE.out]; rfl))
        rw [heap_one]; omega
      go_wp2_with (at_builtin; refine Fld.wpList_app_int _ rfl (.tmp 20) (.tmp 22) 23 rfl (w.heap.size + 1) Fld.info3 Tryz.underlying23 _ (downs S.x.nx j) rfl (HO.out.kept (up0 _ _)) _ i rfl HCE.out (Nat.le_trans HLN.out (by decide)) HSZ.out ?_)
      intro v' w' hro hgr
      have HG : Hid (Fld.RoI (w.heap.size + 1) w' v' (downs S.x.nx (j + 1)) ∧ w'.rangeAt w.heap.size 0 D ∧ Below w.heap.size w w') := by
        have hold : Fld.RoI (w.heap.size + 1) (wr.alloc (.cells #[.int .i64 i] 3)) u3 (downs S.x.nx j) := HO.out.kept (up0 _ _)
        have hbw : Below w.heap.size w (wr.alloc (.cells #[.int .i64 i] 3)) := up HBEL.out _
        refine ⟨by rw [downs_next, HI.out]; exact hro, fun i2 v hv => ?_, (roI_weak hold (by omega)).below hbw hgr⟩
        have h1 := range_kept HR.out (up0 _ (.cells #[.int .i64 i] 3)) i2 v hv
        rw [← h1]
        refine World.cell?_of_block (w := wr.alloc (.cells #[.int .i64 i] 3)) (hgr.block w.heap.size (World.block_lt_of_cell? _ _ h1) (fun e => ?_))
        have := roI_block hold _ e.symm
        omega
      clear hro hgr HCE HSZ HO HR
      go_wp2
      go_roundw
      case rel => exact ⟨j + 1, by omega, by first | rfl | (rw [iw2]; rfl), HG.out.1, HG.out.2.1, HG.out.2.2⟩
      case measure => have := HI.out; simp [intOf]; omega
    · have hje : S.x.nx = (j : Int) := by omega
      have g0 : decide (0 ≤ S.x.nx - 1 - (j : Int)) = false := by simp; omega
      have hjn : S.x.nx.toNat = j := by omega
      have HF : Hid (Fld.RoI (w.heap.size + 1) wr u3 (downs S.x.nx S.x.nx.toNat) ∧ Below w.heap.size w wr) := ⟨by rw [hjn]; exact ho, hbel⟩
      clear ho hbel hR hje hjn
      go_wp2
      go_ret
      exact ⟨_, rfl, HF.out.1, HF.out.2⟩
theorem pending_any (S : Sg) (h : SH) (w : World) (k : SgAt w S h) (hT : Text.TabP 4 .i32 Text.Tx.lets w) (hnm : S.nm.size ≤ 140737488355000) : Calls Tryz.prog 32 #[sv S h] w fun e w' => ∃ v, e = .returned v ∧ Fld.RoI w.heap.size w' v (pendP S) ∧ Below w.heap.size w w' := by
  unfold pendP
  cases hc : chkS S with
  | false => rw [if_pos rfl]; exact (pend_c S h w k hT hnm hc).mono fun e w' ⟨he, hb⟩ => ⟨_, he, Fld.roI_nil _ _, hb⟩
  | true =>
    rw [if_neg (by simp)]
    cases hm : S.x.mayUndo with
    | false => exact (pend_n S h w k hT hnm hc hm).mono fun e w' ⟨he, hb⟩ => ⟨_, he, Fld.roI_nil _ _, hb⟩
    | true => exact (pend_l S h w k hT hnm hc hm).mono fun e w' ⟨v, he, hr, hb⟩ => ⟨v, he, roI_weak hr (by omega), hb⟩
end Go.Proofs.YtdhpfplmgeljaaaGreatDoor
