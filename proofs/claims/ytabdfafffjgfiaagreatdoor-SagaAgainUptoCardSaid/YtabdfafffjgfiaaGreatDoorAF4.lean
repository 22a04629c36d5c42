import Derived.Deep.CutRange
import Derived.Test.YtabdfafffjgfiaaGreatDoorAE5
set_option maxRecDepth 100000
set_option maxHeartbeats 8000000
namespace Go.Proofs.YtabdfafffjgfiaaGreatDoor
open Go Go.RowKit
open Wb

def askR (x : SN) (k : Int) : Nums := ⟨3, k, x.id, if k = 7 then 0 else if x.ph = 2 then x.nx - 1 else x.nx, x.nextTry, 0, 0, 0, 0, 0⟩
def mayR (x : SN) (k : Int) : Bool := refP x (if k = 2 ∨ k = 5 then askR x k else { askR x k with t := 0 }) == 0
theorem ask_may (x : SN) (k : Int) (hp : 1 ≤ x.ph ∧ x.ph ≤ 4) (hk : 2 ≤ k ∧ k ≤ 7) : mayR x k = (!x.ended && x.may k) := by
 have h1 : k = 2 ∨ k = 3 ∨ k = 4 ∨ k = 5 ∨ k = 6 ∨ k = 7 := by omega
 have h2 : x.ph = 1 ∨ x.ph = 2 ∨ x.ph = 3 ∨ x.ph = 4 := by omega
 unfold mayR
 rcases h2 with h2 | h2 | h2 | h2 <;> rcases h1 with h1 | h1 | h1 | h1 | h1 | h1 <;> cases hf : x.fl <;> cases ha : x.atEnd <;> simp [refP, askR, SN.ended, SN.inPh, kph, lands, SN.onTurn, SN.turn, SN.fwd, SN.may, h1, h2, hf, ha]
def upA (x : SN) (j : Nat) : List Int := (([2, 3, 4, 5, 6, 7] : List Int).take (j - 2)).filter (mayR x)
theorem upA_next (x : SN) (j : Nat) (h2 : 2 ≤ j) (h7 : j ≤ 7) : upA x (j + 1) = if mayR x j then upA x j ++ [(j : Int)] else upA x j := by
 have e : ([2, 3, 4, 5, 6, 7] : List Int).take (j + 1 - 2) = ([2, 3, 4, 5, 6, 7] : List Int).take (j - 2) ++ [(j : Int)] := by
  obtain rfl | rfl | rfl | rfl | rfl | rfl : j = 2 ∨ j = 3 ∨ j = 4 ∨ j = 5 ∨ j = 6 ∨ j = 7 := by omega
  all_goals rfl
 unfold upA
 rw [e, List.filter_append]
 by_cases h : mayR x j = true <;> simp [h]
theorem upA_len (x : SN) (j : Nat) : (upA x j).length ≤ 6 := by
 unfold upA
 refine Nat.le_trans (List.length_filter_le _ _) ?_
 simp
 omega
theorem upA_all (S : Sg) (hc : chkS S = true) : upA S.x 8 = allowedP S := by
 have hp := (good_nums S hc).2.2.2.2.1
 unfold upA allowedP
 have e : ([2, 3, 4, 5, 6, 7] : List Int).take (8 - 2) = [2, 3, 4, 5, 6, 7] := rfl
 rw [e]
 have e2 : ([2, 3, 4, 5, 6, 7] : List Int).filter (mayR S.x) = ([2, 3, 4, 5, 6, 7] : List Int).filter (fun k => !S.x.ended && S.x.may k) := by
  refine List.filter_congr fun k hk => ask_may S.x k hp ?_
  simp at hk
  omega
 rw [e2]
 cases he : S.x.ended with
 | true => rw [if_pos (.inr rfl)]; simp
 | false => rw [if_neg (by simp [hc])]; simp
def downs (n : Int) (j : Nat) : List Int := (List.range j).map fun (i : Nat) => n - 1 - (i : Int)
theorem downs_next (n : Int) (j : Nat) : downs n (j + 1) = downs n j ++ [n - 1 - (j : Int)] := by
 unfold downs
 rw [List.range_succ, List.map_append]
 rfl
theorem downs_len (n : Int) (j : Nat) : (downs n j).length = j := by simp [downs]
def SN.mayUndo (x : SN) : Bool := if x.ph == 1 then !x.atEnd && !x.behind x.nx else x.ph == 2
def pendP (S : Sg) : List Int := if chkS S = false then [] else if S.x.mayUndo then downs S.x.nx S.x.nx.toNat else []
theorem mayUndo_ref (x : SN) (hp : 1 ≤ x.ph ∧ x.ph ≤ 4) (hv : 0 ≤ x.piv) : x.mayUndo = !(decide (3 ≤ x.ph) || (x.ph == 1 && (x.nx == x.cnt || (decide (0 < x.piv) && decide (x.piv ≤ x.nx))))) := by
 have h2 : x.ph = 1 ∨ x.ph = 2 ∨ x.ph = 3 ∨ x.ph = 4 := by omega
 have h3 : (x.piv != 0) = decide (0 < x.piv) := by
  by_cases h : x.piv = 0
  ·simp [h]
  ·have h4 : 0 < x.piv := by omega
   simp [h, h4]
 rcases h2 with h2 | h2 | h2 | h2 <;> simp [SN.mayUndo, SN.atEnd, SN.fwd, SN.behind, h2, h3]
theorem rxfin_gen (S : Sg) (h : SH) (w : World) (c : Int) (HCK0 : ∀ w', Below w.heap.size w w' → Calls Tryz.prog 77 #[sv S h] w' fun e w'' => e = .returned (.int .i64 c) ∧ Below w'.heap.size w' w'') : Calls Tryz.prog 80 #[sv S h] w fun e w' => e = .returned (.bool (c == 0 && decide (3 ≤ S.x.ph))) ∧ Below w.heap.size w w' := by
 obtain ⟨D, hD, hL, hE⟩ := sv_letter S h
 rw [hD] at HCK0 ⊢
 have HCK : Hid _ := HCK0
 have HL : Hid _ := hL
 have HE : Hid (D = scl S h) := hE
 have HX : Hid (∀ t, (w.alloc (.cells D.toArray t)).rangeAt w.heap.size 0 D ∧ Below w.heap.size w (w.alloc (.cells D.toArray t))) := fun t => boxed w D t
 clear hD hL hE HCK0
 go_enter Tryz.func80, Tryz.ntmps80
 go_wp2_with (first | (refine wpList_load_mid rfl 25 _ rfl w.heap.size 0 rfl D _ (HX.out _).1 Tryz.underlying25 rfl HL.out ?_) | fail)
 refine (HCK.out _ (HX.out _).2).mono ?_
 rintro e w1 ⟨rfl, b1⟩
 have B1 := andThen (HX.out _).2 b1
 have R1 := range_kept (HX.out _).1 b1
 have c7 := range_cell R1 7 (.int .i64 S.x.ph) (by rw [HE.out]; rfl)
 clear b1 HX HCK R1 HE HL
 cases hc : (c == 0) with
 | true =>
  go_wp2
  go_ret
  exact ⟨by rw [hc]; rfl, B1⟩
 | false =>
  go_wp2
  go_ret
  exact ⟨by rw [hc]; rfl, B1⟩
theorem rxpend_c (S : Sg) (h : SH) (w : World) (c : Int) (HCK0 : ∀ w', Below w.heap.size w w' → Calls Tryz.prog 77 #[sv S h] w' fun e w'' => e = .returned (.int .i64 c) ∧ Below w'.heap.size w' w'') (h0 : (c != 0) = true) : Calls Tryz.prog 82 #[sv S h] w fun e w' => e = .returned (.slice none 0 0) ∧ Below w.heap.size w w' := by
 obtain ⟨D, hD, hL, hE⟩ := sv_letter S h
 rw [hD] at HCK0 ⊢
 have HCK : Hid _ := HCK0
 have HL : Hid _ := hL
 have HE : Hid (D = scl S h) := hE
 have HX : Hid (∀ t, (w.alloc (.cells D.toArray t)).rangeAt w.heap.size 0 D ∧ Below w.heap.size w (w.alloc (.cells D.toArray t))) := fun t => boxed w D t
 clear hD hL hE HCK0
 clear HE
 go_enter Tryz.func82, Tryz.ntmps82
 go_wp2_with (first | (refine wpList_load_mid rfl 25 _ rfl w.heap.size 0 rfl D _ (HX.out _).1 Tryz.underlying25 rfl HL.out ?_) | fail)
 refine (HCK.out _ (HX.out _).2).mono ?_
 rintro e w1 ⟨rfl, b1⟩
 have B1 := andThen (HX.out _).2 b1
 clear b1 HX HCK HL
 go_wp2
 go_ret
 exact ⟨rfl, B1⟩
theorem rxpend_n1 (S : Sg) (h : SH) (w : World) (HCK0 : ∀ w', Below w.heap.size w w' → Calls Tryz.prog 77 #[sv S h] w' fun e w'' => e = .returned (.int .i64 0) ∧ Below w'.heap.size w' w'') (h3 : decide (3 ≤ S.x.ph) = true) : Calls Tryz.prog 82 #[sv S h] w fun e w' => e = .returned (.slice none 0 0) ∧ Below w.heap.size w w' := by
 obtain ⟨D, hD, hL, hE⟩ := sv_letter S h
 rw [hD] at HCK0 ⊢
 have HCK : Hid _ := HCK0
 have HL : Hid _ := hL
 have HE : Hid (D = scl S h) := hE
 have HX : Hid (∀ t, (w.alloc (.cells D.toArray t)).rangeAt w.heap.size 0 D ∧ Below w.heap.size w (w.alloc (.cells D.toArray t))) := fun t => boxed w D t
 clear hD hL hE HCK0
 go_enter Tryz.func82, Tryz.ntmps82
 go_wp2_with (first | (refine wpList_load_mid rfl 25 _ rfl w.heap.size 0 rfl D _ (HX.out _).1 Tryz.underlying25 rfl HL.out ?_) | fail)
 refine (HCK.out _ (HX.out _).2).mono ?_
 rintro e w1 ⟨rfl, b1⟩
 have B1 := andThen (HX.out _).2 b1
 have R1 := range_kept (HX.out _).1 b1
 have c2 := range_cell R1 2 (.int .i64 S.x.cnt) (by rw [HE.out]; rfl)
 have c3 := range_cell R1 3 (.int .i64 S.x.piv) (by rw [HE.out]; rfl)
 have c7 := range_cell R1 7 (.int .i64 S.x.ph) (by rw [HE.out]; rfl)
 have c8 := range_cell R1 8 (.int .i64 S.x.nx) (by rw [HE.out]; rfl)
 clear b1 HX HCK HL
 clear HE R1
 go_wp2
 go_ret
 exact ⟨rfl, B1⟩
theorem rxpend_n2 (S : Sg) (h : SH) (w : World) (HCK0 : ∀ w', Below w.heap.size w w' → Calls Tryz.prog 77 #[sv S h] w' fun e w'' => e = .returned (.int .i64 0) ∧ Below w'.heap.size w' w'') (h3 : decide (3 ≤ S.x.ph) = false) (h1 : (S.x.ph == 1) = true) (hq : (S.x.nx == S.x.cnt) = true) : Calls Tryz.prog 82 #[sv S h] w fun e w' => e = .returned (.slice none 0 0) ∧ Below w.heap.size w w' := by
 obtain ⟨D, hD, hL, hE⟩ := sv_letter S h
 rw [hD] at HCK0 ⊢
 have HCK : Hid _ := HCK0
 have HL : Hid _ := hL
 have HE : Hid (D = scl S h) := hE
 have HX : Hid (∀ t, (w.alloc (.cells D.toArray t)).rangeAt w.heap.size 0 D ∧ Below w.heap.size w (w.alloc (.cells D.toArray t))) := fun t => boxed w D t
 clear hD hL hE HCK0
 go_enter Tryz.func82, Tryz.ntmps82
 go_wp2_with (first | (refine wpList_load_mid rfl 25 _ rfl w.heap.size 0 rfl D _ (HX.out _).1 Tryz.underlying25 rfl HL.out ?_) | fail)
 refine (HCK.out _ (HX.out _).2).mono ?_
 rintro e w1 ⟨rfl, b1⟩
 have B1 := andThen (HX.out _).2 b1
 have R1 := range_kept (HX.out _).1 b1
 have c2 := range_cell R1 2 (.int .i64 S.x.cnt) (by rw [HE.out]; rfl)
 have c3 := range_cell R1 3 (.int .i64 S.x.piv) (by rw [HE.out]; rfl)
 have c7 := range_cell R1 7 (.int .i64 S.x.ph) (by rw [HE.out]; rfl)
 have c8 := range_cell R1 8 (.int .i64 S.x.nx) (by rw [HE.out]; rfl)
 clear b1 HX HCK HL
 clear HE R1
 go_wp2
 go_ret
 exact ⟨rfl, B1⟩
theorem rxpend_n3 (S : Sg) (h : SH) (w : World) (HCK0 : ∀ w', Below w.heap.size w w' → Calls Tryz.prog 77 #[sv S h] w' fun e w'' => e = .returned (.int .i64 0) ∧ Below w'.heap.size w' w'') (h3 : decide (3 ≤ S.x.ph) = false) (h1 : (S.x.ph == 1) = true) (hq : (S.x.nx == S.x.cnt) = false) (hp : decide (0 < S.x.piv) = true) (hl : decide (S.x.piv ≤ S.x.nx) = true) : Calls Tryz.prog 82 #[sv S h] w fun e w' => e = .returned (.slice none 0 0) ∧ Below w.heap.size w w' := by
 obtain ⟨D, hD, hL, hE⟩ := sv_letter S h
 rw [hD] at HCK0 ⊢
 have HCK : Hid _ := HCK0
 have HL : Hid _ := hL
 have HE : Hid (D = scl S h) := hE
 have HX : Hid (∀ t, (w.alloc (.cells D.toArray t)).rangeAt w.heap.size 0 D ∧ Below w.heap.size w (w.alloc (.cells D.toArray t))) := fun t => boxed w D t
 clear hD hL hE HCK0
 go_enter Tryz.func82, Tryz.ntmps82
 go_wp2_with (first | (refine wpList_load_mid rfl 25 _ rfl w.heap.size 0 rfl D _ (HX.out _).1 Tryz.underlying25 rfl HL.out ?_) | fail)
 refine (HCK.out _ (HX.out _).2).mono ?_
 rintro e w1 ⟨rfl, b1⟩
 have B1 := andThen (HX.out _).2 b1
 have R1 := range_kept (HX.out _).1 b1
 have c2 := range_cell R1 2 (.int .i64 S.x.cnt) (by rw [HE.out]; rfl)
 have c3 := range_cell R1 3 (.int .i64 S.x.piv) (by rw [HE.out]; rfl)
 have c7 := range_cell R1 7 (.int .i64 S.x.ph) (by rw [HE.out]; rfl)
 have c8 := range_cell R1 8 (.int .i64 S.x.nx) (by rw [HE.out]; rfl)
 clear b1 HX HCK HL
 clear HE R1
 go_wp2
 go_ret
 exact ⟨rfl, B1⟩
theorem rxpend_l1 (S : Sg) (h : SH) (w : World) (HCK0 : ∀ w', Below w.heap.size w w' → Calls Tryz.prog 77 #[sv S h] w' fun e w'' => e = .returned (.int .i64 0) ∧ Below w'.heap.size w' w'') (hn : 0 ≤ S.x.nx ∧ S.x.nx ≤ 32) (h3 : decide (3 ≤ S.x.ph) = false) (h1 : (S.x.ph == 1) = false) : Calls Tryz.prog 82 #[sv S h] w fun e w' => ∃ v, e = .returned v ∧ Fld.RoI (w.heap.size + 1) w' v (downs S.x.nx S.x.nx.toNat) ∧ Below w.heap.size w w' := by
 have iw : IntKind.i64.wrap (S.x.nx - 1) = S.x.nx - 1 := IntWalk.i64_in _ (by omega)
 obtain ⟨D, hD, hL, hE⟩ := sv_letter S h
 rw [hD] at HCK0 ⊢
 have HCK : Hid _ := HCK0
 have HL : Hid _ := hL
 have HE : Hid (D = scl S h) := hE
 have HX : Hid (∀ t, (w.alloc (.cells D.toArray t)).rangeAt w.heap.size 0 D ∧ Below w.heap.size w (w.alloc (.cells D.toArray t))) := fun t => boxed w D t
 clear hD hL hE HCK0
 go_enter Tryz.func82, Tryz.ntmps82
 go_wp2_with (first | (refine wpList_load_mid rfl 25 _ rfl w.heap.size 0 rfl D _ (HX.out _).1 Tryz.underlying25 rfl HL.out ?_) | fail)
 refine (HCK.out _ (HX.out _).2).mono ?_
 rintro e w1 ⟨rfl, b1⟩
 have B1 := andThen (HX.out _).2 b1
 have R1 := range_kept (HX.out _).1 b1
 have c2 := range_cell R1 2 (.int .i64 S.x.cnt) (by rw [HE.out]; rfl)
 have c3 := range_cell R1 3 (.int .i64 S.x.piv) (by rw [HE.out]; rfl)
 have c7 := range_cell R1 7 (.int .i64 S.x.ph) (by rw [HE.out]; rfl)
 have c8 := range_cell R1 8 (.int .i64 S.x.nx) (by rw [HE.out]; rfl)
 clear b1 HX HCK HL
 go_wp2
 clear c2 c3 c7 c8
 go_loopw [4, 5] (fun o i wr => ∃ j : Nat, (j : Int) ≤ S.x.nx ∧ i = .int .i64 (S.x.nx - 1 - (j : Int)) ∧ Fld.RoI (w.heap.size + 1) wr o (downs S.x.nx j) ∧ wr.rangeAt w.heap.size 0 D ∧ Below w.heap.size w wr) (fun _ i _ => (intOf i + 1).toNat)
 case atStart => exact ⟨0, by omega, by simp, Fld.roI_nil _ _, R1, B1⟩
 case round =>
  obtain ⟨j, hj, rfl, ho, hR, hbel⟩ := hrel
  by_cases hlt : (j : Int) < S.x.nx
  ·have g0 : decide (0 ≤ S.x.nx - 1 - (j : Int)) = true := by simp; omega
   have iw2 : IntKind.i64.wrap (S.x.nx - 1 - (j : Int) - 1) = S.x.nx - 1 - ((j + 1 : Nat) : Int) := by rw [IntWalk.i64_in _ (by omega)]; omega
   have HO : Hid (Fld.RoI (w.heap.size + 1) wr u4 (downs S.x.nx j)) := ho
   have HR : Hid (wr.rangeAt w.heap.size 0 D) := hR
   have HBEL : Hid (Below w.heap.size w wr) := hbel
   obtain ⟨i, hi⟩ : ∃ i, S.x.nx - 1 - (j : Int) = i := ⟨_, rfl⟩
   have HI : Hid (S.x.nx - 1 - (j : Int) = i) := hi
   rw [hi] at g0 iw2
   rw [hi]
   clear ho hR hbel hi
   have HLN : Hid ((downs S.x.nx j).length ≤ 32) := by show _ ≤ _; rw [downs_len]; omega
   have HCE : Hid ((wr.alloc (.cells #[.int .i64 i] 3)).cell? ⟨wr.heap.size, 0, none⟩ = some (.int .i64 i)) := by show _ = _; rw [World.cell?_alloc_new]; rfl
   have HSZ : Hid (w.heap.size + 1 ≤ (wr.alloc (.cells #[.int .i64 i] 3)).heap.size) := by
    show _ ≤ _
    have hlt0 : w.heap.size < wr.heap.size := World.block_lt_of_cell? wr ⟨w.heap.size, 0, none⟩ (range_cell HR.out 0 (.int .i64 S.x.id) (by rw [HE.out]; rfl))
    rw [heap_one]; omega
   go_wp2_with (at_builtin; refine Fld.wpList_app_int _ rfl (.tmp 44) (.tmp 46) 26 rfl (w.heap.size + 1) Fld.info3 Tryz.underlying26 _ (downs S.x.nx j) rfl (HO.out.kept (up0 _ _)) _ i rfl HCE.out (Nat.le_trans HLN.out (by decide)) HSZ.out ?_)
   intro v' w' hro hgr
   have HG : Hid (Fld.RoI (w.heap.size + 1) w' v' (downs S.x.nx (j + 1)) ∧ w'.rangeAt w.heap.size 0 D ∧ Below w.heap.size w w') := by
    have hold : Fld.RoI (w.heap.size + 1) (wr.alloc (.cells #[.int .i64 i] 3)) u4 (downs S.x.nx j) := HO.out.kept (up0 _ _)
    have hbw : Below w.heap.size w (wr.alloc (.cells #[.int .i64 i] 3)) := up HBEL.out _
    refine ⟨by rw [downs_next, HI.out]; exact hro, fun i2 v hv => ?_, (roI_weak hold (by omega)).below hbw hgr⟩
    have h1 := range_kept HR.out (up0 _ (.cells #[.int .i64 i] 3)) i2 v hv
    rw [← h1]
    refine World.cell?_of_block (w := wr.alloc (.cells #[.int .i64 i] 3)) (hgr.block w.heap.size (World.block_lt_of_cell? _ _ h1) (fun e => ?_))
    have := roI_block hold _ e.symm
    omega
   clear hro hgr HCE HSZ HO HR
   go_wp2
   go_roundw
   case rel => exact ⟨j + 1, by omega, by first | rfl | (rw [iw2]; rfl), HG.out.1, HG.out.2.1, HG.out.2.2⟩
   case measure => have := HI.out; simp [intOf]; omega
  ·have hje : S.x.nx = (j : Int) := by omega
   have g0 : decide (0 ≤ S.x.nx - 1 - (j : Int)) = false := by simp; omega
   have hjn : S.x.nx.toNat = j := by omega
   have HF : Hid (Fld.RoI (w.heap.size + 1) wr u4 (downs S.x.nx S.x.nx.toNat) ∧ Below w.heap.size w wr) := ⟨by rw [hjn]; exact ho, hbel⟩
   clear ho hbel hR hje hjn
   go_wp2
   go_ret
   exact ⟨_, rfl, HF.out.1, HF.out.2⟩
theorem rxpend_l2 (S : Sg) (h : SH) (w : World) (HCK0 : ∀ w', Below w.heap.size w w' → Calls Tryz.prog 77 #[sv S h] w' fun e w'' => e = .returned (.int .i64 0) ∧ Below w'.heap.size w' w'') (hn : 0 ≤ S.x.nx ∧ S.x.nx ≤ 32) (h3 : decide (3 ≤ S.x.ph) = false) (h1 : (S.x.ph == 1) = true) (hq : (S.x.nx == S.x.cnt) = false) (hp : decide (0 < S.x.piv) = false) : Calls Tryz.prog 82 #[sv S h] w fun e w' => ∃ v, e = .returned v ∧ Fld.RoI (w.heap.size + 1) w' v (downs S.x.nx S.x.nx.toNat) ∧ Below w.heap.size w w' := by
 have iw : IntKind.i64.wrap (S.x.nx - 1) = S.x.nx - 1 := IntWalk.i64_in _ (by omega)
 obtain ⟨D, hD, hL, hE⟩ := sv_letter S h
 rw [hD] at HCK0 ⊢
 have HCK : Hid _ := HCK0
 have HL : Hid _ := hL
 have HE : Hid (D = scl S h) := hE
 have HX : Hid (∀ t, (w.alloc (.cells D.toArray t)).rangeAt w.heap.size 0 D ∧ Below w.heap.size w (w.alloc (.cells D.toArray t))) := fun t => boxed w D t
 clear hD hL hE HCK0
 go_enter Tryz.func82, Tryz.ntmps82
 go_wp2_with (first | (refine wpList_load_mid rfl 25 _ rfl w.heap.size 0 rfl D _ (HX.out _).1 Tryz.underlying25 rfl HL.out ?_) | fail)
 refine (HCK.out _ (HX.out _).2).mono ?_
 rintro e w1 ⟨rfl, b1⟩
 have B1 := andThen (HX.out _).2 b1
 have R1 := range_kept (HX.out _).1 b1
 have c2 := range_cell R1 2 (.int .i64 S.x.cnt) (by rw [HE.out]; rfl)
 have c3 := range_cell R1 3 (.int .i64 S.x.piv) (by rw [HE.out]; rfl)
 have c7 := range_cell R1 7 (.int .i64 S.x.ph) (by rw [HE.out]; rfl)
 have c8 := range_cell R1 8 (.int .i64 S.x.nx) (by rw [HE.out]; rfl)
 clear b1 HX HCK HL
 go_wp2
 clear c2 c3 c7 c8
 go_loopw [4, 5] (fun o i wr => ∃ j : Nat, (j : Int) ≤ S.x.nx ∧ i = .int .i64 (S.x.nx - 1 - (j : Int)) ∧ Fld.RoI (w.heap.size + 1) wr o (downs S.x.nx j) ∧ wr.rangeAt w.heap.size 0 D ∧ Below w.heap.size w wr) (fun _ i _ => (intOf i + 1).toNat)
 case atStart => exact ⟨0, by omega, by simp, Fld.roI_nil _ _, R1, B1⟩
 case round =>
  obtain ⟨j, hj, rfl, ho, hR, hbel⟩ := hrel
  by_cases hlt : (j : Int) < S.x.nx
  ·have g0 : decide (0 ≤ S.x.nx - 1 - (j : Int)) = true := by simp; omega
   have iw2 : IntKind.i64.wrap (S.x.nx - 1 - (j : Int) - 1) = S.x.nx - 1 - ((j + 1 : Nat) : Int) := by rw [IntWalk.i64_in _ (by omega)]; omega
   have HO : Hid (Fld.RoI (w.heap.size + 1) wr u4 (downs S.x.nx j)) := ho
   have HR : Hid (wr.rangeAt w.heap.size 0 D) := hR
   have HBEL : Hid (Below w.heap.size w wr) := hbel
   obtain ⟨i, hi⟩ : ∃ i, S.x.nx - 1 - (j : Int) = i := ⟨_, rfl⟩
   have HI : Hid (S.x.nx - 1 - (j : Int) = i) := hi
   rw [hi] at g0 iw2
   rw [hi]
   clear ho hR hbel hi
   have HLN : Hid ((downs S.x.nx j).length ≤ 32) := by show _ ≤ _; rw [downs_len]; omega
   have HCE : Hid ((wr.alloc (.cells #[.int .i64 i] 3)).cell? ⟨wr.heap.size, 0, none⟩ = some (.int .i64 i)) := by show _ = _; rw [World.cell?_alloc_new]; rfl
   have HSZ : Hid (w.heap.size + 1 ≤ (wr.alloc (.cells #[.int .i64 i] 3)).heap.size) := by
    show _ ≤ _
    have hlt0 : w.heap.size < wr.heap.size := World.block_lt_of_cell? wr ⟨w.heap.size, 0, none⟩ (range_cell HR.out 0 (.int .i64 S.x.id) (by rw [HE.out]; rfl))
    rw [heap_one]; omega
   go_wp2_with (at_builtin; refine Fld.wpList_app_int _ rfl (.tmp 44) (.tmp 46) 26 rfl (w.heap.size + 1) Fld.info3 Tryz.underlying26 _ (downs S.x.nx j) rfl (HO.out.kept (up0 _ _)) _ i rfl HCE.out (Nat.le_trans HLN.out (by decide)) HSZ.out ?_)
   intro v' w' hro hgr
   have HG : Hid (Fld.RoI (w.heap.size + 1) w' v' (downs S.x.nx (j + 1)) ∧ w'.rangeAt w.heap.size 0 D ∧ Below w.heap.size w w') := by
    have hold : Fld.RoI (w.heap.size + 1) (wr.alloc (.cells #[.int .i64 i] 3)) u4 (downs S.x.nx j) := HO.out.kept (up0 _ _)
    have hbw : Below w.heap.size w (wr.alloc (.cells #[.int .i64 i] 3)) := up HBEL.out _
    refine ⟨by rw [downs_next, HI.out]; exact hro, fun i2 v hv => ?_, (roI_weak hold (by omega)).below hbw hgr⟩
    have h1 := range_kept HR.out (up0 _ (.cells #[.int .i64 i] 3)) i2 v hv
    rw [← h1]
    refine World.cell?_of_block (w := wr.alloc (.cells #[.int .i64 i] 3)) (hgr.block w.heap.size (World.block_lt_of_cell? _ _ h1) (fun e => ?_))
    have := roI_block hold _ e.symm
    omega
   clear hro hgr HCE HSZ HO HR
   go_wp2
   go_roundw
   case rel => exact ⟨j + 1, by omega, by first | rfl | (rw [iw2]; rfl), HG.out.1, HG.out.2.1, HG.out.2.2⟩
   case measure => have := HI.out; simp [intOf]; omega
  ·have hje : S.x.nx = (j : Int) := by omega
   have g0 : decide (0 ≤ S.x.nx - 1 - (j : Int)) = false := by simp; omega
   have hjn : S.x.nx.toNat = j := by omega
   have HF : Hid (Fld.RoI (w.heap.size + 1) wr u4 (downs S.x.nx S.x.nx.toNat) ∧ Below w.heap.size w wr) := ⟨by rw [hjn]; exact ho, hbel⟩
   clear ho hbel hR hje hjn
   go_wp2
   go_ret
   exact ⟨_, rfl, HF.out.1, HF.out.2⟩
theorem rxpend_l3 (S : Sg) (h : SH) (w : World) (HCK0 : ∀ w', Below w.heap.size w w' → Calls Tryz.prog 77 #[sv S h] w' fun e w'' => e = .returned (.int .i64 0) ∧ Below w'.heap.size w' w'') (hn : 0 ≤ S.x.nx ∧ S.x.nx ≤ 32) (h3 : decide (3 ≤ S.x.ph) = false) (h1 : (S.x.ph == 1) = true) (hq : (S.x.nx == S.x.cnt) = false) (hp : decide (0 < S.x.piv) = true) (hl : decide (S.x.piv ≤ S.x.nx) = false) : Calls Tryz.prog 82 #[sv S h] w fun e w' => ∃ v, e = .returned v ∧ Fld.RoI (w.heap.size + 1) w' v (downs S.x.nx S.x.nx.toNat) ∧ Below w.heap.size w w' := by
 have iw : IntKind.i64.wrap (S.x.nx - 1) = S.x.nx - 1 := IntWalk.i64_in _ (by omega)
 obtain ⟨D, hD, hL, hE⟩ := sv_letter S h
 rw [hD] at HCK0 ⊢
 have HCK : Hid _ := HCK0
 have HL : Hid _ := hL
 have HE : Hid (D = scl S h) := hE
 have HX : Hid (∀ t, (w.alloc (.cells D.toArray t)).rangeAt w.heap.size 0 D ∧ Below w.heap.size w (w.alloc (.cells D.toArray t))) := fun t => boxed w D t
 clear hD hL hE HCK0
 go_enter Tryz.func82, Tryz.ntmps82
 go_wp2_with (first | (refine wpList_load_mid rfl 25 _ rfl w.heap.size 0 rfl D _ (HX.out _).1 Tryz.underlying25 rfl HL.out ?_) | fail)
 refine (HCK.out _ (HX.out _).2).mono ?_
 rintro e w1 ⟨rfl, b1⟩
 have B1 := andThen (HX.out _).2 b1
 have R1 := range_kept (HX.out _).1 b1
 have c2 := range_cell R1 2 (.int .i64 S.x.cnt) (by rw [HE.out]; rfl)
 have c3 := range_cell R1 3 (.int .i64 S.x.piv) (by rw [HE.out]; rfl)
 have c7 := range_cell R1 7 (.int .i64 S.x.ph) (by rw [HE.out]; rfl)
 have c8 := range_cell R1 8 (.int .i64 S.x.nx) (by rw [HE.out]; rfl)
 clear b1 HX HCK HL
 go_wp2
 clear c2 c3 c7 c8
 go_loopw [4, 5] (fun o i wr => ∃ j : Nat, (j : Int) ≤ S.x.nx ∧ i = .int .i64 (S.x.nx - 1 - (j : Int)) ∧ Fld.RoI (w.heap.size + 1) wr o (downs S.x.nx j) ∧ wr.rangeAt w.heap.size 0 D ∧ Below w.heap.size w wr) (fun _ i _ => (intOf i + 1).toNat)
 case atStart => exact ⟨0, by omega, by simp, Fld.roI_nil _ _, R1, B1⟩
 case round =>
  obtain ⟨j, hj, rfl, ho, hR, hbel⟩ := hrel
  by_cases hlt : (j : Int) < S.x.nx
  ·have g0 : decide (0 ≤ S.x.nx - 1 - (j : Int)) = true := by simp; omega
   have iw2 : IntKind.i64.wrap (S.x.nx - 1 - (j : Int) - 1) = S.x.nx - 1 - ((j + 1 : Nat) : Int) := by rw [IntWalk.i64_in _ (by omega)]; omega
   have HO : Hid (Fld.RoI (w.heap.size + 1) wr u4 (downs S.x.nx j)) := ho
   have HR : Hid (wr.rangeAt w.heap.size 0 D) := hR
   have HBEL : Hid (Below w.heap.size w wr) := hbel
   obtain ⟨i, hi⟩ : ∃ i, S.x.nx - 1 - (j : Int) = i := ⟨_, rfl⟩
   have HI : Hid (S.x.nx - 1 - (j : Int) = i) := hi
   rw [hi] at g0 iw2
   rw [hi]
   clear ho hR hbel hi
   have HLN : Hid ((downs S.x.nx j).length ≤ 32) := by show _ ≤ _; rw [downs_len]; omega
   have HCE : Hid ((wr.alloc (.cells #[.int .i64 i] 3)).cell? ⟨wr.heap.size, 0, none⟩ = some (.int .i64 i)) := by show _ = _; rw [World.cell?_alloc_new]; rfl
   have HSZ : Hid (w.heap.size + 1 ≤ (wr.alloc (.cells #[.int .i64 i] 3)).heap.size) := by
    show _ ≤ _
    have hlt0 : w.heap.size < wr.heap.size := World.block_lt_of_cell? wr ⟨w.heap.size, 0, none⟩ (range_cell HR.out 0 (.int .i64 S.x.id) (by rw [HE.out]; rfl))
    rw [heap_one]; omega
   go_wp2_with (at_builtin; refine Fld.wpList_app_int _ rfl (.tmp 44) (.tmp 46) 26 rfl (w.heap.size + 1) Fld.info3 Tryz.underlying26 _ (downs S.x.nx j) rfl (HO.out.kept (up0 _ _)) _ i rfl HCE.out (Nat.le_trans HLN.out (by decide)) HSZ.out ?_)
   intro v' w' hro hgr
   have HG : Hid (Fld.RoI (w.heap.size + 1) w' v' (downs S.x.nx (j + 1)) ∧ w'.rangeAt w.heap.size 0 D ∧ Below w.heap.size w w') := by
    have hold : Fld.RoI (w.heap.size + 1) (wr.alloc (.cells #[.int .i64 i] 3)) u4 (downs S.x.nx j) := HO.out.kept (up0 _ _)
    have hbw : Below w.heap.size w (wr.alloc (.cells #[.int .i64 i] 3)) := up HBEL.out _
    refine ⟨by rw [downs_next, HI.out]; exact hro, fun i2 v hv => ?_, (roI_weak hold (by omega)).below hbw hgr⟩
    have h1 := range_kept HR.out (up0 _ (.cells #[.int .i64 i] 3)) i2 v hv
    rw [← h1]
    refine World.cell?_of_block (w := wr.alloc (.cells #[.int .i64 i] 3)) (hgr.block w.heap.size (World.block_lt_of_cell? _ _ h1) (fun e => ?_))
    have := roI_block hold _ e.symm
    omega
   clear hro hgr HCE HSZ HO HR
   go_wp2
   go_roundw
   case rel => exact ⟨j + 1, by omega, by first | rfl | (rw [iw2]; rfl), HG.out.1, HG.out.2.1, HG.out.2.2⟩
   case measure => have := HI.out; simp [intOf]; omega
  ·have hje : S.x.nx = (j : Int) := by omega
   have g0 : decide (0 ≤ S.x.nx - 1 - (j : Int)) = false := by simp; omega
   have hjn : S.x.nx.toNat = j := by omega
   have HF : Hid (Fld.RoI (w.heap.size + 1) wr u4 (downs S.x.nx S.x.nx.toNat) ∧ Below w.heap.size w wr) := ⟨by rw [hjn]; exact ho, hbel⟩
   clear ho hbel hR hje hjn
   go_wp2
   go_ret
   exact ⟨_, rfl, HF.out.1, HF.out.2⟩
theorem rxpend_any (S : Sg) (h : SH) (w : World) (HCK0 : ∀ w', Below w.heap.size w w' → Calls Tryz.prog 77 #[sv S h] w' fun e w'' => e = .returned (.int .i64 0) ∧ Below w'.heap.size w' w'') (hc : chkS S = true) : Calls Tryz.prog 82 #[sv S h] w fun e w' => ∃ v, e = .returned v ∧ Fld.RoI w.heap.size w' v (pendP S) ∧ Below w.heap.size w w' := by
 obtain ⟨_, _, _, _, g5, _, _, _, g9, _, g11⟩ := good_nums S hc
 have hm := mayUndo_ref S.x g5 g11
 have hN : S.x.mayUndo = false → pendP S = [] := fun e => by unfold pendP; rw [e]; simp
 have hY : S.x.mayUndo = true → pendP S = downs S.x.nx S.x.nx.toNat := fun e => by unfold pendP; rw [if_neg (by simp [hc]), if_pos e]
 have hn : ∀ {e : Ending} {w' : World}, S.x.mayUndo = false → (e = .returned (.slice none 0 0) ∧ Below w.heap.size w w') → ∃ v, e = .returned v ∧ Fld.RoI w.heap.size w' v (pendP S) ∧ Below w.heap.size w w' := fun q h1 => ⟨_, h1.1, by rw [hN q]; exact Fld.roI_nil _ _, h1.2⟩
 have hy : ∀ {e : Ending} {w' : World}, S.x.mayUndo = true → (∃ v, e = .returned v ∧ Fld.RoI (w.heap.size + 1) w' v (downs S.x.nx S.x.nx.toNat) ∧ Below w.heap.size w w') → ∃ v, e = .returned v ∧ Fld.RoI w.heap.size w' v (pendP S) ∧ Below w.heap.size w w' := fun q ⟨v, h1, h2, h3⟩ => ⟨v, h1, by rw [hY q]; exact roI_weak h2 (by omega), h3⟩
 cases h3 : decide (3 ≤ S.x.ph) with
 | true => exact (rxpend_n1 S h w HCK0 h3).mono fun e w' k => hn (by rw [hm, h3]; rfl) k
 | false =>
  cases h1 : (S.x.ph == 1) with
  | false => exact (rxpend_l1 S h w HCK0 g9 h3 h1).mono fun e w' k => hy (by rw [hm, h3, h1]; rfl) k
  | true =>
   cases hq : (S.x.nx == S.x.cnt) with
   | true => exact (rxpend_n2 S h w HCK0 h3 h1 hq).mono fun e w' k => hn (by rw [hm, h3, h1, hq]; rfl) k
   | false =>
    cases hp : decide (0 < S.x.piv) with
    | false => exact (rxpend_l2 S h w HCK0 g9 h3 h1 hq hp).mono fun e w' k => hy (by rw [hm, h3, h1, hq, hp]; rfl) k
    | true =>
     cases hl : decide (S.x.piv ≤ S.x.nx) with
     | true => exact (rxpend_n3 S h w HCK0 h3 h1 hq hp hl).mono fun e w' k => hn (by rw [hm, h3, h1, hq, hp, hl]; rfl) k
     | false => exact (rxpend_l3 S h w HCK0 g9 h3 h1 hq hp hl).mono fun e w' k => hy (by rw [hm, h3, h1, hq, hp, hl]; rfl) k
theorem mayUndo_2 (S : Sg) (h : SH) (w : World) (h1 : (S.x.ph == 1) = false) : Calls Tryz.prog 33 #[sv S h] w fun e w' => e = .returned (.bool (S.x.ph == 2)) ∧ Below w.heap.size w w' := by
 obtain ⟨D, hD, hL, hE⟩ := sv_letter S h
 rw [hD]
 have HE : Hid (D = scl S h) := hE
 have HX : Hid (∀ t, (w.alloc (.cells D.toArray t)).rangeAt w.heap.size 0 D ∧ Below w.heap.size w (w.alloc (.cells D.toArray t))) := fun t => boxed w D t
 clear hD hL hE
 have c7 := range_cell (HX.out 25).1 7 (.int .i64 S.x.ph) (by rw [HE.out]; rfl)
 have BX := (HX.out 25).2
 clear HE HX
 go_enter Tryz.func33, Tryz.ntmps33
 go_wp2
 go_ret
 exact ⟨rfl, BX⟩
theorem mayUndo_e (S : Sg) (h : SH) (w : World) (h1 : (S.x.ph == 1) = true) (ha : S.x.atEnd = true) : Calls Tryz.prog 33 #[sv S h] w fun e w' => e = .returned (.bool false) ∧ Below w.heap.size w w' := by
 have HAE0 : ∀ w', Calls Tryz.prog 32 #[sv S h] w' fun e w'' => e = .returned (.bool true) ∧ Below w'.heap.size w' w'' := fun w' => by rw [← ha]; exact atEnd_any S h w'
 obtain ⟨D, hD, hL, hE⟩ := sv_letter S h
 rw [hD] at HAE0 ⊢
 have HAE : Hid _ := HAE0
 have HL : Hid _ := hL
 have HE : Hid (D = scl S h) := hE
 have HX : Hid (∀ t, (w.alloc (.cells D.toArray t)).rangeAt w.heap.size 0 D ∧ Below w.heap.size w (w.alloc (.cells D.toArray t))) := fun t => boxed w D t
 clear hD hL hE HAE0
 clear ha
 have c7 := range_cell (HX.out 25).1 7 (.int .i64 S.x.ph) (by rw [HE.out]; rfl)
 clear HE
 go_enter Tryz.func33, Tryz.ntmps33
 go_wp2_with (first | (refine wpList_load_mid rfl 25 _ rfl w.heap.size 0 rfl D _ (HX.out _).1 Tryz.underlying25 rfl HL.out ?_) | (refine wpList_load_midG rfl 25 _ rfl w.heap.size 0 rfl D _ (HX.out _).1 Tryz.underlying25 rfl HL.out ?_) | fail)
 refine (HAE.out _).mono ?_
 rintro e w1 ⟨rfl, b1⟩
 have B1 := andThen (HX.out _).2 b1
 clear b1 HX HAE HL c7
 go_wp2
 go_ret
 exact ⟨rfl, B1⟩
theorem mayUndo_b (S : Sg) (h : SH) (w : World) (h1 : (S.x.ph == 1) = true) (ha : S.x.atEnd = false) : Calls Tryz.prog 33 #[sv S h] w fun e w' => e = .returned (.bool (!S.x.behind S.x.nx)) ∧ Below w.heap.size w w' := by
 have HAE0 : ∀ w', Calls Tryz.prog 32 #[sv S h] w' fun e w'' => e = .returned (.bool false) ∧ Below w'.heap.size w' w'' := fun w' => by rw [← ha]; exact atEnd_any S h w'
 have HBH0 : ∀ w', Calls Tryz.prog 63 #[sv S h, .int .i64 S.x.nx] w' fun e w'' => e = .returned (.bool (S.x.behind S.x.nx)) ∧ Below w'.heap.size w' w'' := fun w' => behind_any S h S.x.nx w'
 obtain ⟨D, hD, hL, hE⟩ := sv_letter S h
 rw [hD] at HAE0 HBH0 ⊢
 have HAE : Hid _ := HAE0
 have HBH : Hid _ := HBH0
 have HL : Hid _ := hL
 have HE : Hid (D = scl S h) := hE
 have HX : Hid (∀ t, (w.alloc (.cells D.toArray t)).rangeAt w.heap.size 0 D ∧ Below w.heap.size w (w.alloc (.cells D.toArray t))) := fun t => boxed w D t
 clear hD hL hE HAE0 HBH0
 clear ha
 have c7 := range_cell (HX.out 25).1 7 (.int .i64 S.x.ph) (by rw [HE.out]; rfl)
 go_enter Tryz.func33, Tryz.ntmps33
 go_wp2_with (first | (refine wpList_load_mid rfl 25 _ rfl w.heap.size 0 rfl D _ (HX.out _).1 Tryz.underlying25 rfl HL.out ?_) | (refine wpList_load_midG rfl 25 _ rfl w.heap.size 0 rfl D _ (HX.out _).1 Tryz.underlying25 rfl HL.out ?_) | fail)
 refine (HAE.out _).mono ?_
 rintro e w1 ⟨rfl, b1⟩
 have B1 := andThen (HX.out _).2 b1
 have R1 := range_kept (HX.out _).1 b1
 have c8 := range_cell R1 8 (.int .i64 S.x.nx) (by rw [HE.out]; rfl)
 clear b1 HX HAE c7
 go_wp2_with (first | (refine wpList_load_mid rfl 25 _ rfl w.heap.size 0 rfl D _ R1 Tryz.underlying25 rfl HL.out ?_) | (refine wpList_load_midG rfl 25 _ rfl w.heap.size 0 rfl D _ R1 Tryz.underlying25 rfl HL.out ?_) | fail)
 refine (HBH.out _).mono ?_
 rintro e w2 ⟨rfl, b2⟩
 have B2 := andThen B1 b2
 clear b2 B1 R1 HBH c8
 go_wp2
 go_ret
 exact ⟨rfl, B2⟩
theorem mayUndo_any (S : Sg) (h : SH) (w : World) : Calls Tryz.prog 33 #[sv S h] w fun e w' => e = .returned (.bool S.x.mayUndo) ∧ Below w.heap.size w w' := by
 unfold SN.mayUndo
 cases h1 : (S.x.ph == 1) with
 | false => exact mayUndo_2 S h w h1
 | true =>
  cases ha : S.x.atEnd with
  | true => exact mayUndo_e S h w h1 ha
  | false =>
   have e := mayUndo_b S h w h1 ha
   rw [if_pos rfl, Bool.not_false, Bool.true_and]
   exact e
theorem pend_c (S : Sg) (h : SH) (w : World) (k : SgAt w S h) (hT : Text.TabP 3 .i32 Text.Tx.lets w) (hnm : S.nm.size ≤ 140737488355000) (hc : chkS S = false) : Calls Tryz.prog 8 #[sv S h] w fun e w' => e = .returned (.slice none 0 0) ∧ Below w.heap.size w w' := by
 have HCK0 : ∀ w', Below w.heap.size w w' → Calls Tryz.prog 29 #[sv S h] w' fun e w'' => e = .returned (.int .i64 100) ∧ Below w'.heap.size w' w'' := fun w' hb => by have e := scheck_any S h w' (k.kept hb) (hT.kept hb) hnm; rw [hc] at e; exact e
 obtain ⟨D, hD, hL, hE⟩ := sv_letter S h
 rw [hD] at HCK0 ⊢
 have HCK : Hid _ := HCK0
 have HL : Hid _ := hL
 have HE : Hid (D = scl S h) := hE
 have HX : Hid (∀ t, (w.alloc (.cells D.toArray t)).rangeAt w.heap.size 0 D ∧ Below w.heap.size w (w.alloc (.cells D.toArray t))) := fun t => boxed w D t
 clear hD hL hE HCK0
 clear k hT hnm HE hc
 go_enter Tryz.func8, Tryz.ntmps8
 go_wp2_with (first | (refine wpList_load_mid rfl 25 _ rfl w.heap.size 0 rfl D _ (HX.out _).1 Tryz.underlying25 rfl HL.out ?_) | (refine wpList_load_midG rfl 25 _ rfl w.heap.size 0 rfl D _ (HX.out _).1 Tryz.underlying25 rfl HL.out ?_) | fail)
 refine (HCK.out _ (HX.out _).2).mono ?_
 rintro e w1 ⟨rfl, b1⟩
 have B1 := andThen (HX.out _).2 b1
 clear b1 HX HCK HL
 go_wp2
 go_ret
 exact ⟨rfl, B1⟩
theorem pend_n (S : Sg) (h : SH) (w : World) (k : SgAt w S h) (hT : Text.TabP 3 .i32 Text.Tx.lets w) (hnm : S.nm.size ≤ 140737488355000) (hc : chkS S = true) (hm : S.x.mayUndo = false) : Calls Tryz.prog 8 #[sv S h] w fun e w' => e = .returned (.slice none 0 0) ∧ Below w.heap.size w w' := by
 have HCK0 : ∀ w', Below w.heap.size w w' → Calls Tryz.prog 29 #[sv S h] w' fun e w'' => e = .returned (.int .i64 0) ∧ Below w'.heap.size w' w'' := fun w' hb => by have e := scheck_any S h w' (k.kept hb) (hT.kept hb) hnm; rw [hc] at e; exact e
 have HMU0 : ∀ w', Calls Tryz.prog 33 #[sv S h] w' fun e w'' => e = .returned (.bool false) ∧ Below w'.heap.size w' w'' := fun w' => by rw [← hm]; exact mayUndo_any S h w'
 obtain ⟨D, hD, hL, hE⟩ := sv_letter S h
 rw [hD] at HCK0 HMU0 ⊢
 have HCK : Hid _ := HCK0
 have HMU : Hid _ := HMU0
 have HL : Hid _ := hL
 have HE : Hid (D = scl S h) := hE
 have HX : Hid (∀ t, (w.alloc (.cells D.toArray t)).rangeAt w.heap.size 0 D ∧ Below w.heap.size w (w.alloc (.cells D.toArray t))) := fun t => boxed w D t
 clear hD hL hE HCK0 HMU0
 clear k hT hnm HE hc hm
 go_enter Tryz.func8, Tryz.ntmps8
 go_wp2_with (first | (refine wpList_load_mid rfl 25 _ rfl w.heap.size 0 rfl D _ (HX.out _).1 Tryz.underlying25 rfl HL.out ?_) | (refine wpList_load_midG rfl 25 _ rfl w.heap.size 0 rfl D _ (HX.out _).1 Tryz.underlying25 rfl HL.out ?_) | fail)
 refine (HCK.out _ (HX.out _).2).mono ?_
 rintro e w1 ⟨rfl, b1⟩
 have B1 := andThen (HX.out _).2 b1
 have R1 := range_kept (HX.out _).1 b1
 clear b1 HX HCK
 go_wp2_with (first | (refine wpList_load_mid rfl 25 _ rfl w.heap.size 0 rfl D _ R1 Tryz.underlying25 rfl HL.out ?_) | (refine wpList_load_midG rfl 25 _ rfl w.heap.size 0 rfl D _ R1 Tryz.underlying25 rfl HL.out ?_) | fail)
 refine (HMU.out _).mono ?_
 rintro e w2 ⟨rfl, b2⟩
 have B2 := andThen B1 b2
 clear b2 B1 R1 HMU HL
 go_wp2
 go_ret
 exact ⟨rfl, B2⟩
theorem pend_l (S : Sg) (h : SH) (w : World) (k : SgAt w S h) (hT : Text.TabP 3 .i32 Text.Tx.lets w) (hnm : S.nm.size ≤ 140737488355000) (hc : chkS S = true) (hm : S.x.mayUndo = true) : Calls Tryz.prog 8 #[sv S h] w fun e w' => ∃ v, e = .returned v ∧ Fld.RoI (w.heap.size + 1) w' v (downs S.x.nx S.x.nx.toNat) ∧ Below w.heap.size w w' := by
 have hn := (good_nums S hc).2.2.2.2.2.2.2.2.1
 have HCK0 : ∀ w', Below w.heap.size w w' → Calls Tryz.prog 29 #[sv S h] w' fun e w'' => e = .returned (.int .i64 0) ∧ Below w'.heap.size w' w'' := fun w' hb => by have e := scheck_any S h w' (k.kept hb) (hT.kept hb) hnm; rw [hc] at e; exact e
 have HMU0 : ∀ w', Calls Tryz.prog 33 #[sv S h] w' fun e w'' => e = .returned (.bool true) ∧ Below w'.heap.size w' w'' := fun w' => by rw [← hm]; exact mayUndo_any S h w'
 have iw : IntKind.i64.wrap (S.x.nx - 1) = S.x.nx - 1 := IntWalk.i64_in _ (by omega)
 obtain ⟨D, hD, hL, hE⟩ := sv_letter S h
 rw [hD] at HCK0 HMU0 ⊢
 have HCK : Hid _ := HCK0
 have HMU : Hid _ := HMU0
 have HL : Hid _ := hL
 have HE : Hid (D = scl S h) := hE
 have HX : Hid (∀ t, (w.alloc (.cells D.toArray t)).rangeAt w.heap.size 0 D ∧ Below w.heap.size w (w.alloc (.cells D.toArray t))) := fun t => boxed w D t
 clear hD hL hE HCK0 HMU0
 clear k hT hnm hc hm
 go_enter Tryz.func8, Tryz.ntmps8
 go_wp2_with (first | (refine wpList_load_mid rfl 25 _ rfl w.heap.size 0 rfl D _ (HX.out _).1 Tryz.underlying25 rfl HL.out ?_) | (refine wpList_load_midG rfl 25 _ rfl w.heap.size 0 rfl D _ (HX.out _).1 Tryz.underlying25 rfl HL.out ?_) | fail)
 refine (HCK.out _ (HX.out _).2).mono ?_
 rintro e w1 ⟨rfl, b1⟩
 have B1 := andThen (HX.out _).2 b1
 have R1 := range_kept (HX.out _).1 b1
 clear b1 HX HCK
 go_wp2_with (first | (refine wpList_load_mid rfl 25 _ rfl w.heap.size 0 rfl D _ R1 Tryz.underlying25 rfl HL.out ?_) | (refine wpList_load_midG rfl 25 _ rfl w.heap.size 0 rfl D _ R1 Tryz.underlying25 rfl HL.out ?_) | fail)
 refine (HMU.out _).mono ?_
 rintro e w2 ⟨rfl, b2⟩
 have B2 := andThen B1 b2
 have R2 := range_kept R1 b2
 have c8 := range_cell R2 8 (.int .i64 S.x.nx) (by rw [HE.out]; rfl)
 clear b2 B1 R1 HMU HL
 go_wp2
 clear c8
 go_loopw [3, 4] (fun o i wr => ∃ j : Nat, (j : Int) ≤ S.x.nx ∧ i = .int .i64 (S.x.nx - 1 - (j : Int)) ∧ Fld.RoI (w.heap.size + 1) wr o (downs S.x.nx j) ∧ wr.rangeAt w.heap.size 0 D ∧ Below w.heap.size w wr) (fun _ i _ => (intOf i + 1).toNat)
 case atStart => exact ⟨0, by omega, by simp, Fld.roI_nil _ _, R2, B2⟩
 case round =>
  obtain ⟨j, hj, rfl, ho, hR, hbel⟩ := hrel
  by_cases hlt : (j : Int) < S.x.nx
  ·have g0 : decide (0 ≤ S.x.nx - 1 - (j : Int)) = true := by simp; omega
   have iw2 : IntKind.i64.wrap (S.x.nx - 1 - (j : Int) - 1) = S.x.nx - 1 - ((j + 1 : Nat) : Int) := by rw [IntWalk.i64_in _ (by omega)]; omega
   have HO : Hid (Fld.RoI (w.heap.size + 1) wr u3 (downs S.x.nx j)) := ho
   have HR : Hid (wr.rangeAt w.heap.size 0 D) := hR
   have HBEL : Hid (Below w.heap.size w wr) := hbel
   obtain ⟨i, hi⟩ : ∃ i, S.x.nx - 1 - (j : Int) = i := ⟨_, rfl⟩
   have HI : Hid (S.x.nx - 1 - (j : Int) = i) := hi
   rw [hi] at g0 iw2
   rw [hi]
   clear ho hR hbel hi
   have HLN : Hid ((downs S.x.nx j).length ≤ 32) := by show _ ≤ _; rw [downs_len]; omega
   have HCE : Hid ((wr.alloc (.cells #[.int .i64 i] 3)).cell? ⟨wr.heap.size, 0, none⟩ = some (.int .i64 i)) := by show _ = _; rw [World.cell?_alloc_new]; rfl
   have HSZ : Hid (w.heap.size + 1 ≤ (wr.alloc (.cells #[.int .i64 i] 3)).heap.size) := by
    show _ ≤ _
    have hlt0 : w.heap.size < wr.heap.size := World.block_lt_of_cell? wr ⟨w.heap.size, 0, none⟩ (range_cell HR.out 0 (.int .i64 S.x.id) (by rw [HE.out]; rfl))
    rw [heap_one]; omega
   go_wp2_with (at_builtin; refine Fld.wpList_app_int _ rfl (.tmp 20) (.tmp 22) 26 rfl (w.heap.size + 1) Fld.info3 Tryz.underlying26 _ (downs S.x.nx j) rfl (HO.out.kept (up0 _ _)) _ i rfl HCE.out (Nat.le_trans HLN.out (by decide)) HSZ.out ?_)
   intro v' w' hro hgr
   have HG : Hid (Fld.RoI (w.heap.size + 1) w' v' (downs S.x.nx (j + 1)) ∧ w'.rangeAt w.heap.size 0 D ∧ Below w.heap.size w w') := by
    have hold : Fld.RoI (w.heap.size + 1) (wr.alloc (.cells #[.int .i64 i] 3)) u3 (downs S.x.nx j) := HO.out.kept (up0 _ _)
    have hbw : Below w.heap.size w (wr.alloc (.cells #[.int .i64 i] 3)) := up HBEL.out _
    refine ⟨by rw [downs_next, HI.out]; exact hro, fun i2 v hv => ?_, (roI_weak hold (by omega)).below hbw hgr⟩
    have h1 := range_kept HR.out (up0 _ (.cells #[.int .i64 i] 3)) i2 v hv
    rw [← h1]
    refine World.cell?_of_block (w := wr.alloc (.cells #[.int .i64 i] 3)) (hgr.block w.heap.size (World.block_lt_of_cell? _ _ h1) (fun e => ?_))
    have := roI_block hold _ e.symm
    omega
   clear hro hgr HCE HSZ HO HR
   go_wp2
   go_roundw
   case rel => exact ⟨j + 1, by omega, by first | rfl | (rw [iw2]; rfl), HG.out.1, HG.out.2.1, HG.out.2.2⟩
   case measure => have := HI.out; simp [intOf]; omega
  ·have hje : S.x.nx = (j : Int) := by omega
   have g0 : decide (0 ≤ S.x.nx - 1 - (j : Int)) = false := by simp; omega
   have hjn : S.x.nx.toNat = j := by omega
   have HF : Hid (Fld.RoI (w.heap.size + 1) wr u3 (downs S.x.nx S.x.nx.toNat) ∧ Below w.heap.size w wr) := ⟨by rw [hjn]; exact ho, hbel⟩
   clear ho hbel hR hje hjn
   go_wp2
   go_ret
   exact ⟨_, rfl, HF.out.1, HF.out.2⟩
theorem pending_any (S : Sg) (h : SH) (w : World) (k : SgAt w S h) (hT : Text.TabP 3 .i32 Text.Tx.lets w) (hnm : S.nm.size ≤ 140737488355000) : Calls Tryz.prog 8 #[sv S h] w fun e w' => ∃ v, e = .returned v ∧ Fld.RoI w.heap.size w' v (pendP S) ∧ Below w.heap.size w w' := by
 unfold pendP
 cases hc : chkS S with
 | false => rw [if_pos rfl]; exact (pend_c S h w k hT hnm hc).mono fun e w' ⟨he, hb⟩ => ⟨_, he, Fld.roI_nil _ _, hb⟩
 | true =>
  rw [if_neg (by simp)]
  cases hm : S.x.mayUndo with
  | false => exact (pend_n S h w k hT hnm hc hm).mono fun e w' ⟨he, hb⟩ => ⟨_, he, Fld.roI_nil _ _, hb⟩
  | true => exact (pend_l S h w k hT hnm hc hm).mono fun e w' ⟨v, he, hr, hb⟩ => ⟨v, he, roI_weak hr (by omega), hb⟩
theorem rxallow_c (S : Sg) (h : SH) (w : World) (c : Int) (HCK0 : ∀ w', Below w.heap.size w w' → Calls Tryz.prog 77 #[sv S h] w' fun e w'' => e = .returned (.int .i64 c) ∧ Below w'.heap.size w' w'') (h0 : (c != 0) = true) : Calls Tryz.prog 81 #[sv S h] w fun e w' => e = .returned (.slice none 0 0) ∧ Below w.heap.size w w' := by
 obtain ⟨D, hD, hL, hE⟩ := sv_letter S h
 rw [hD] at HCK0 ⊢
 have HCK : Hid _ := HCK0
 have HL : Hid _ := hL
 have HX : Hid (LB (w.alloc (.cells D.toArray 25)) w.heap.size 25 D ∧ Below w.heap.size w (w.alloc (.cells D.toArray 25))) := ⟨lb_new w D _, up0 _ _⟩
 clear hD hL hE HCK0
 go_enter Tryz.func81, Tryz.ntmps81
 go_wp2_with (first | (refine wpList_load_mid rfl 25 _ rfl w.heap.size 0 rfl D _ HX.out.1.range Tryz.underlying25 rfl HL.out ?_) | fail)
 refine (HCK.out _ HX.out.2).mono ?_
 rintro e w1 ⟨rfl, b1⟩
 have B1 := andThen HX.out.2 b1
 clear b1 HX HCK HL
 go_wp2
 go_ret
 exact ⟨rfl, B1⟩

theorem rxallow_l (S : Sg) (h : SH) (w : World) (HCK0 : ∀ w', Below w.heap.size w w' → Calls Tryz.prog 77 #[sv S h] w' fun e w'' => e = .returned (.int .i64 0) ∧ Below w'.heap.size w' w'') (HRF0 : ∀ (j : Nat) (w' : World), 2 ≤ j → j ≤ 7 → Calls Tryz.prog 95 #[sv S h, rv (askR S.x j) ⟨#[]⟩ (.slice none 0 0)] w' fun e w'' => ∃ f, e = .returned (.int .i64 f) ∧ (f == 0) = mayR S.x j ∧ Below w'.heap.size w' w'') (ht : 0 ≤ S.x.tr ∧ S.x.tr ≤ 1000) (hn : 0 ≤ S.x.nx ∧ S.x.nx ≤ 32) : Calls Tryz.prog 81 #[sv S h] w fun e w' => ∃ v, e = .returned v ∧ Fld.RoI (w.heap.size + 1) w' v (upA S.x 8) ∧ Below w.heap.size w w' := by
 obtain ⟨N, hN⟩ : ∃ N, S.x.nextTry = N := ⟨_, rfl⟩
 have HNT : Hid (min (S.x.tr + 1) 1000 = N) := hN
 have HNE : Hid (S.x.nextTry = N) := hN
 obtain ⟨A, hA⟩ : ∃ A, (if S.x.ph = 2 then S.x.nx - 1 else S.x.nx) = A := ⟨_, rfl⟩
 have HA : Hid ((if S.x.ph = 2 then S.x.nx - 1 else S.x.nx) = A) := hA
 have i1 : IntKind.i64.wrap (S.x.tr + 1) = S.x.tr + 1 := IntWalk.i64_in _ (by omega)
 have i2 : IntKind.i64.wrap (S.x.nx - 1) = S.x.nx - 1 := IntWalk.i64_in _ (by omega)
 obtain ⟨ZR, hZR⟩ : ∃ ZR, ZR = zrl := ⟨_, rfl⟩
 have HZR : Hid (ZR = zrl) := hZR
 have HZRL : Hid (ZR.length = 12) := by show _ = _; rw [hZR]; rfl
 obtain ⟨D, hD, hL, hE⟩ := sv_letter S h
 rw [hD] at HCK0 HRF0 ⊢
 have HCK : Hid _ := HCK0
 have HRF : Hid _ := HRF0
 have HL : Hid _ := hL
 have HE : Hid (D = scl S h) := hE
 have HX : Hid (LB (w.alloc (.cells D.toArray 25)) w.heap.size 25 D ∧ Below w.heap.size w (w.alloc (.cells D.toArray 25))) := ⟨lb_new w D _, up0 _ _⟩
 clear hD hL hE HCK0 HRF0 hN hA hZR
 go_enter Tryz.func81, Tryz.ntmps81
 go_wp2_with (first | (refine wpList_load_mid rfl 25 _ rfl w.heap.size 0 rfl D _ HX.out.1.range Tryz.underlying25 rfl HL.out ?_) | fail)
 refine (HCK.out _ HX.out.2).mono ?_
 rintro e w1 ⟨rfl, b1⟩
 have B1 := andThen HX.out.2 b1
 have R1 := HX.out.1.kept b1
 clear b1 HX HCK
 have c10 := R1.cell 10 (.int .i64 S.x.tr) (by rw [HE.out]; rfl)
 have c8 := R1.cell 8 (.int .i64 S.x.nx) (by rw [HE.out]; rfl)
 have c7 := R1.cell 7 (.int .i64 S.x.ph) (by rw [HE.out]; rfl)
 go_upto_if 18 with fail
 go_cut [4] from 4 to 18 (fun s4 wx => s4 = .int .i64 N ∧ wx = w1)
 case first =>
  cases hT : decide (1000 < S.x.tr + 1) with
  | true =>
   have hNe : N = 1000 := by have e := HNT.out; simp at hT; omega
   go_wp2
   go_meet
   exact ⟨by rw [hNe], rfl⟩
  | false =>
   have hNe : N = S.x.tr + 1 := by have e := HNT.out; simp at hT; omega
   go_wp2
   go_meet
   exact ⟨by rw [hNe], rfl⟩
 case rest =>
  obtain ⟨rfl, rfl⟩ := hcut
  clear i1 c10 HNT ht
  go_upto_if 23 with fail
  go_cut [5] from 5 to 26 (fun s5 wx => s5 = .int .i64 A ∧ wx = wc)
  case first =>
   cases hT : (S.x.ph == 2) with
   | true =>
    have hNe : A = S.x.nx - 1 := by rw [← HA.out, if_pos (by simpa using hT)]
    go_wp2
    go_meet
    exact ⟨by rw [hNe], rfl⟩
   | false =>
    have hNe : A = S.x.nx := by rw [← HA.out, if_neg (by simpa using hT)]
    go_wp2
    go_meet
    exact ⟨by rw [hNe], rfl⟩
  case rest =>
   obtain ⟨rfl, rfl⟩ := hcut
   clear i2 c8 c7 hn
   go_wp2
   go_loopw [6, 7] (fun o i wr => ∃ j : Nat, 2 ≤ j ∧ j ≤ 8 ∧ i = .int .i64 (j : Int) ∧ Fld.RoI (w.heap.size + 1) wr o (upA S.x j) ∧ LB wr w.heap.size 25 D ∧ Below w.heap.size w wr) (fun _ i _ => 8 - (intOf i).toNat)
   case atStart => exact ⟨2, by omega, by omega, rfl, Fld.roI_nil _ _, R1, B1⟩
   case round =>
    obtain ⟨j, hj2, hj8, rfl, ho, hR, hbel⟩ := hrel
    by_cases hlt : j ≤ 7
    ·have h7 : ((j : Int) ≤ 7) = True := by simp; omega
     have HO : Hid (Fld.RoI (w.heap.size + 1) wr u6 (upA S.x j)) := ho
     have HBEL : Hid (Below w.heap.size w wr) := hbel
     have HNX : Hid (upA S.x (j + 1) = if mayR S.x j then upA S.x j ++ [(j : Int)] else upA S.x j) := upA_next S.x j hj2 hlt
     have HRJ : Hid _ := fun w' => HRF.out j w' hj2 hlt
     have c0 := hR.cell 0 (.int .i64 S.x.id) (by rw [HE.out]; rfl)
     obtain ⟨G, hG⟩ : ∃ G : List Value, rcE ⟨3, j, S.x.id, A, N, 0, 0, 0, 0, 0⟩ ⟨#[]⟩ (.slice none 0 0) = G := ⟨_, rfl⟩
     have HGE : Hid (rcE ⟨3, j, S.x.id, A, N, 0, 0, 0, 0, 0⟩ ⟨#[]⟩ (.slice none 0 0) = G) := hG
     have HGL : Hid ((Tryz.prog.info? 37).map (·.size) = some G.length) := by show _ = _; rw [← hG]; exact infoRec
     have HG1 : Hid (∀ v ∈ G, v.oneCell' = true) := by show ∀ v ∈ G, _; rw [← hG]; exact rcE_one _ _ _ rfl
     have HGZ : Hid (G.length = ZR.length) := by show _ = _; rw [← hG, HZRL.out]; rfl
     have HTZ : Hid ((wr.alloc (.cells ZR.toArray 37)).there wr.heap.size 0 G.toArray.size) := there_of (lb_new wr ZR _) (by simpa using HGZ.out)
     have H3 : Hid (∃ W3, W3 = (wr.alloc (.cells ZR.toArray 37)).setCells wr.heap.size 0 G ∧ LB W3 w.heap.size 25 D ∧ LB W3 wr.heap.size 37 G ∧ Below wr.heap.size wr W3) := by
      obtain ⟨q1, q2⟩ := one_boxR wr 37 ZR G HGZ.out
      exact ⟨_, rfl, hR.kept q2, q1, q2⟩
     have HLT : Hid (w.heap.size < wr.heap.size) := hR.lt
     clear ho hbel hR hG
     cases hk7 : ((j : Int) == 7) with
     | false =>
      have HRG : Hid (∀ w', Calls Tryz.prog 95 #[.agg D.toArray, .agg G.toArray] w' fun e w'' => ∃ f, e = .returned (.int .i64 f) ∧ (f == 0) = mayR S.x j ∧ Below w'.heap.size w' w'') := fun w' => by
       have e := HRJ.out w'
       have e2 : rv (askR S.x j) ⟨#[]⟩ (.slice none 0 0) = .agg G.toArray := by
        rw [← HGE.out]
        unfold askR
        rw [if_neg (by simpa using hk7), HA.out, HNE.out]
        rfl
       rw [e2] at e
       exact e
      clear HRJ HRF
      go_wp2_with (first | (refine wpList_alloc_R HZR.out rfl rfl ?_) | (refine wpList_store_mid rfl 37 (.tmp 8) (.tmp 36) rfl wr.heap.size 0 G.toArray rfl (by rw [← HGE.out]; rfl) HTZ.out (by simpa using HGL.out) (all_oneCell_toArray HG1.out) ?_; (obtain ⟨W3, hW3, hq⟩ := H3.out); (have H4 : Hid _ := hq); (rw [List.toList_toArray, ← hW3]); (clear hW3 hq H3 HTZ)) | (refine wpList_load_mid rfl 25 _ rfl w.heap.size 0 rfl D _ H4.out.1.range Tryz.underlying25 rfl HL.out ?_) | (refine wpList_load_mid rfl 37 _ rfl wr.heap.size 0 rfl G _ H4.out.2.1.range Tryz.underlying37 rfl HGL.out ?_) | fail)
      refine (HRG.out _).mono ?_
      rintro e w4 ⟨f, rfl, hf, b4⟩
      have H5 : Hid (LB w4 w.heap.size 25 D ∧ Below wr.heap.size wr w4) := ⟨H4.out.1.kept b4, andThen H4.out.2.2 b4⟩
      clear b4 H4 HRG HG1 HGZ c0 HLT HGL HGE
      cases hm : mayR S.x j with
      | false =>
       rw [hm] at hf
       have HG : Hid (Fld.RoI (w.heap.size + 1) w4 u6 (upA S.x (j + 1)) ∧ LB w4 w.heap.size 25 D ∧ Below w.heap.size w w4) := ⟨by rw [HNX.out, hm, if_neg (by simp)]; exact HO.out.kept H5.out.2, H5.out.1, andThen HBEL.out H5.out.2⟩
       clear H5 HO HNX hm
       go_wp2
       go_roundw
       case rel => exact ⟨j + 1, by omega, by omega, by go_num, HG.out.1, HG.out.2.1, HG.out.2.2⟩
       case measure => simp [intOf]; omega
      | true =>
       rw [hm] at hf
       have HN2 : Hid (upA S.x (j + 1) = upA S.x j ++ [(j : Int)]) := by show _ = _; rw [HNX.out, if_pos hm]
       have HLN : Hid ((upA S.x j).length ≤ 6) := upA_len _ _
       have HCE : Hid ((w4.alloc (.cells #[.int .i64 (j : Int)] 3)).cell? ⟨w4.heap.size, 0, none⟩ = some (.int .i64 (j : Int))) := by show _ = _; rw [World.cell?_alloc_new]; rfl
       have HSZ : Hid (w.heap.size + 1 ≤ (w4.alloc (.cells #[.int .i64 (j : Int)] 3)).heap.size) := by show _ ≤ _; rw [heap_one]; have := H5.out.1.lt; omega
       clear hm HNX
       go_wp2_with (at_builtin; refine Fld.wpList_app_int _ rfl (.tmp 45) (.tmp 47) 26 rfl (w.heap.size + 1) Fld.info3 Tryz.underlying26 _ (upA S.x j) rfl ((HO.out.kept H5.out.2).kept (up0 _ _)) _ (j : Int) rfl HCE.out (Nat.le_trans HLN.out (by decide)) HSZ.out ?_)
       intro v' w' hro hgr
       have HG : Hid (Fld.RoI (w.heap.size + 1) w' v' (upA S.x (j + 1)) ∧ LB w' w.heap.size 25 D ∧ Below w.heap.size w w') := by
        have hold : Fld.RoI (w.heap.size + 1) (w4.alloc (.cells #[.int .i64 (j : Int)] 3)) u6 (upA S.x j) := (HO.out.kept H5.out.2).kept (up0 _ _)
        have hbw : Below w.heap.size w (w4.alloc (.cells #[.int .i64 (j : Int)] 3)) := up (andThen HBEL.out H5.out.2) _
        have h1 : LB (w4.alloc (.cells #[.int .i64 (j : Int)] 3)) w.heap.size 25 D := H5.out.1.kept (up0 _ _)
        refine ⟨by rw [HN2.out]; exact hro, (hgr.block w.heap.size h1.lt (fun e => ?_)).trans h1, (roI_weak hold (by omega)).below hbw hgr⟩
        have := roI_block hold _ e.symm
        omega
       clear hro hgr HCE HSZ HO HN2 H5
       go_wp2
       go_roundw
       case rel => exact ⟨j + 1, by omega, by omega, by go_num, HG.out.1, HG.out.2.1, HG.out.2.2⟩
       case measure => simp [intOf]; omega
     | true =>
      have hj7 : j = 7 := by simp at hk7; omega
      obtain ⟨G2, hG2⟩ : ∃ G2 : List Value, G.set 3 (.int .i64 0) = G2 := ⟨_, rfl⟩
      have HG2E : Hid (G.set 3 (.int .i64 0) = G2) := hG2
      have HG2L : Hid ((Tryz.prog.info? 37).map (·.size) = some G2.length) := by show _ = _; rw [← hG2, List.length_set]; exact HGL.out
      have HRG : Hid (∀ w', Calls Tryz.prog 95 #[.agg D.toArray, .agg G2.toArray] w' fun e w'' => ∃ f, e = .returned (.int .i64 f) ∧ (f == 0) = mayR S.x j ∧ Below w'.heap.size w' w'') := fun w' => by
       have e := HRJ.out w'
       have e2 : rv (askR S.x j) ⟨#[]⟩ (.slice none 0 0) = .agg G2.toArray := by
        rw [← HG2E.out, ← HGE.out]
        unfold askR
        rw [if_pos (by simpa using hk7), HNE.out]
        rfl
       rw [e2] at e
       exact e
      clear HRJ HRF hG2 hj7
      go_wp2_with (first | (refine wpList_alloc_R HZR.out rfl rfl ?_) | (refine wpList_store_mid rfl 37 (.tmp 8) (.tmp 36) rfl wr.heap.size 0 G.toArray rfl (by rw [← HGE.out]; rfl) HTZ.out (by simpa using HGL.out) (all_oneCell_toArray HG1.out) ?_; (obtain ⟨W3, hW3, hq⟩ := H3.out); (have H4 : Hid _ := hq); (have g3 := H4.out.2.1.cell 3 (.int .i64 A) (by rw [← HGE.out]; rfl)); (have f3 := H4.out.2.1.free 3); (rw [List.toList_toArray, ← hW3]); (clear hW3 hq H3 HTZ)) | ((obtain ⟨W5, hW5⟩ : ∃ W5, W3.setCell ⟨wr.heap.size, 3, none⟩ (.int .i64 0) = W5 := ⟨_, rfl⟩); (have H6 : Hid (LB W5 w.heap.size 25 D ∧ LB W5 wr.heap.size 37 G2 ∧ Below wr.heap.size wr W5) := by rw [← hW5, ← HG2E.out]; exact ⟨H4.out.1.other _ _ (show w.heap.size ≠ wr.heap.size by have := HLT.out; omega), H4.out.2.1.set _ _, Below.setCell H4.out.2.2 (Nat.le_refl _) _⟩); (rw [hW5]); (clear hW5); (refine wpList_load_mid rfl 25 _ rfl w.heap.size 0 rfl D _ H6.out.1.range Tryz.underlying25 rfl HL.out ?_)) | (refine wpList_load_mid rfl 37 _ rfl wr.heap.size 0 rfl G2 _ H6.out.2.1.range Tryz.underlying37 rfl HG2L.out ?_) | fail)
      refine (HRG.out _).mono ?_
      rintro e w4 ⟨f, rfl, hf, b4⟩
      have H5 : Hid (LB w4 w.heap.size 25 D ∧ Below wr.heap.size wr w4) := ⟨H6.out.1.kept b4, andThen H6.out.2.2 b4⟩
      clear b4 H4 H6 HRG HG1 HGZ c0 HLT HGL HGE HG2E HG2L g3 f3
      cases hm : mayR S.x j with
      | false =>
       rw [hm] at hf
       have HG : Hid (Fld.RoI (w.heap.size + 1) w4 u6 (upA S.x (j + 1)) ∧ LB w4 w.heap.size 25 D ∧ Below w.heap.size w w4) := ⟨by rw [HNX.out, hm, if_neg (by simp)]; exact HO.out.kept H5.out.2, H5.out.1, andThen HBEL.out H5.out.2⟩
       clear H5 HO HNX hm
       go_wp2
       go_roundw
       case rel => exact ⟨j + 1, by omega, by omega, by go_num, HG.out.1, HG.out.2.1, HG.out.2.2⟩
       case measure => simp [intOf]; omega
      | true =>
       rw [hm] at hf
       have HN2 : Hid (upA S.x (j + 1) = upA S.x j ++ [(j : Int)]) := by show _ = _; rw [HNX.out, if_pos hm]
       have HLN : Hid ((upA S.x j).length ≤ 6) := upA_len _ _
       have HCE : Hid ((w4.alloc (.cells #[.int .i64 (j : Int)] 3)).cell? ⟨w4.heap.size, 0, none⟩ = some (.int .i64 (j : Int))) := by show _ = _; rw [World.cell?_alloc_new]; rfl
       have HSZ : Hid (w.heap.size + 1 ≤ (w4.alloc (.cells #[.int .i64 (j : Int)] 3)).heap.size) := by show _ ≤ _; rw [heap_one]; have := H5.out.1.lt; omega
       clear hm HNX
       go_wp2_with (at_builtin; refine Fld.wpList_app_int _ rfl (.tmp 45) (.tmp 47) 26 rfl (w.heap.size + 1) Fld.info3 Tryz.underlying26 _ (upA S.x j) rfl ((HO.out.kept H5.out.2).kept (up0 _ _)) _ (j : Int) rfl HCE.out (Nat.le_trans HLN.out (by decide)) HSZ.out ?_)
       intro v' w' hro hgr
       have HG : Hid (Fld.RoI (w.heap.size + 1) w' v' (upA S.x (j + 1)) ∧ LB w' w.heap.size 25 D ∧ Below w.heap.size w w') := by
        have hold : Fld.RoI (w.heap.size + 1) (w4.alloc (.cells #[.int .i64 (j : Int)] 3)) u6 (upA S.x j) := (HO.out.kept H5.out.2).kept (up0 _ _)
        have hbw : Below w.heap.size w (w4.alloc (.cells #[.int .i64 (j : Int)] 3)) := up (andThen HBEL.out H5.out.2) _
        have h1 : LB (w4.alloc (.cells #[.int .i64 (j : Int)] 3)) w.heap.size 25 D := H5.out.1.kept (up0 _ _)
        refine ⟨by rw [HN2.out]; exact hro, (hgr.block w.heap.size h1.lt (fun e => ?_)).trans h1, (roI_weak hold (by omega)).below hbw hgr⟩
        have := roI_block hold _ e.symm
        omega
       clear hro hgr HCE HSZ HO HN2 H5
       go_wp2
       go_roundw
       case rel => exact ⟨j + 1, by omega, by omega, by go_num, HG.out.1, HG.out.2.1, HG.out.2.2⟩
       case measure => simp [intOf]; omega
    ·obtain rfl : j = 8 := by omega
     have HF : Hid (Fld.RoI (w.heap.size + 1) wr u6 (upA S.x 8) ∧ Below w.heap.size w wr) := ⟨ho, hbel⟩
     clear ho hbel hR
     go_wp2
     go_ret
     exact ⟨_, rfl, HF.out.1, HF.out.2⟩
theorem sameInts_ro (B B2 : Nat) (va vb : Value) (l : List Int) (w : World) (h : Fld.RoI B w va l) (h2 : Fld.RoI B2 w vb l) (hl : l.length ≤ 1000) :
  Calls Tryz.prog 12 #[va, vb] w fun e w' => e = .returned (.bool true) ∧ Below w.heap.size w w' := by
 obtain ⟨ao, ca, rfl⟩ := h.shape
 obtain ⟨ao2, ca2, rfl⟩ := h2.shape
 have d0 : ((l.length : Int) != (l.length : Int)) = false := by simp
 go_enter Tryz.func12, Tryz.ntmps12
 go_wp2
 go_loopw [5] (fun i wr => ∃ k : Nat, k ≤ l.length ∧ i = .int .i64 (k : Int) ∧ Below w.heap.size w wr) (fun i _ => l.length - (intOf i).toNat)
 case atStart => exact ⟨0, Nat.zero_le _, rfl, Below.refl _ _⟩
 case round =>
  obtain ⟨k, hk, rfl, hbel⟩ := hrel
  by_cases hlt : k < l.length
  ·obtain ⟨g1, rfl, hc⟩ := h.cell k hlt
   obtain ⟨g2, rfl, hc2⟩ := h2.cell k hlt
   have q1 := (hbel.cell (p := ⟨g1, k, none⟩) (World.block_lt_of_cell? _ _ hc)).trans hc
   have q2 := (hbel.cell (p := ⟨g2, k, none⟩) (World.block_lt_of_cell? _ _ hc2)).trans hc2
   clear hc hc2
   generalize l[k] = y at *
   have d1 : (y != y) = false := by simp
   go_wp2
   go_quiet (fail)
   go_wp2
   go_roundw
   case rel => exact ⟨k + 1, by omega, by go_num, bdrewN hbel _⟩
   case measure => simp [intOf]; omega
  ·obtain rfl : k = l.length := by omega
   go_wp2
   go_ret
   exact ⟨rfl, hbel⟩
def ov (K : Int) (S : Sg) (h : SH) (x : Nums) (nm : ByteArray) (d : Value) : Value := .agg (.int .i64 K :: (scl S h ++ rcE x nm d)).toArray
theorem mid_range {w : World} {g : Nat} {K : Value} {D E : List Value} (h : w.rangeAt g 0 (K :: (D ++ E))) : w.rangeAt g 1 D := fun i v hv => by
 have hi : i < D.length := (List.getElem?_eq_some_iff.1 hv).1
 have e := h (i + 1) v (by rw [List.getElem?_cons_succ, List.getElem?_append_left hi]; exact hv)
 rw [Nat.zero_add, Nat.add_comm i 1] at e
 exact e
theorem asked_fin (S : Sg) (h : SH) (x : Nums) (nm : ByteArray) (d : Value) (w : World) (t : Bool) (HF0 : ∀ w', Below w.heap.size w w' → Calls Tryz.prog 79 #[sv S h] w' fun e w'' => e = .returned (.bool t) ∧ Below w'.heap.size w' w'') (HG0 : ∀ w', Below w.heap.size w w' → Calls Tryz.prog 80 #[sv S h] w' fun e w'' => e = .returned (.bool t) ∧ Below w'.heap.size w' w'') : Calls Tryz.prog 57 #[ov 3 S h x nm d] w fun e w' => e = .returned (.bool true) ∧ Below w.heap.size w w' := by
 obtain ⟨D, hD, hL, hE⟩ := sv_letter S h
 obtain ⟨E, hE2⟩ : ∃ E, rcE x nm d = E := ⟨_, rfl⟩
 rw [hD] at HF0 HG0
 unfold ov
 rw [← hE, hE2]
 obtain ⟨L, hLL⟩ : ∃ L, (.int .i64 3 :: (D ++ E) : List Value) = L := ⟨_, rfl⟩
 rw [hLL]
 have HLL : Hid ((.int .i64 3 :: (D ++ E) : List Value) = L) := hLL
 have HL : Hid _ := hL
 have HX : Hid ((w.alloc (.cells L.toArray 59)).rangeAt w.heap.size 0 L ∧ Below w.heap.size w (w.alloc (.cells L.toArray 59))) := boxed w L _
 have HRD : Hid (∀ w' : World, w'.rangeAt w.heap.size 0 L → w'.rangeAt w.heap.size 1 D) := fun w' hr => by rw [← HLL.out] at hr; exact mid_range hr
 have k0 := range_cell HX.out.1 0 (.int .i64 3) (by rw [← HLL.out]; rfl)
 clear hD hL hE hE2 hLL
 have HF : Hid _ := HF0
 have HG : Hid _ := HG0
 clear HF0 HG0
 go_enter Tryz.func57, Tryz.ntmps57
 go_wp2_with (first | (refine wpList_load_mid rfl 25 _ rfl w.heap.size 1 rfl D _ (HRD.out _ HX.out.1) Tryz.underlying25 rfl HL.out ?_) | fail)
 refine (HF.out _ HX.out.2).mono ?_
 rintro e w1 ⟨rfl, b1⟩
 have H1 : Hid (w1.rangeAt w.heap.size 0 L ∧ Below w.heap.size w w1) := ⟨range_kept HX.out.1 b1, andThen HX.out.2 b1⟩
 clear b1 HX HF k0
 go_wp2_with (first | (refine wpList_load_mid rfl 25 _ rfl w.heap.size 1 rfl D _ (HRD.out _ H1.out.1) Tryz.underlying25 rfl HL.out ?_) | fail)
 refine (HG.out _ H1.out.2).mono ?_
 rintro e w2 ⟨rfl, b2⟩
 have B2 := andThen H1.out.2 b2
 clear b2 H1 HG HRD
 go_wp2
 go_ret
 exact ⟨rfl, B2⟩
theorem asked_all (S : Sg) (h : SH) (x : Nums) (nm : ByteArray) (d : Value) (w : World) (l : List Int) (hl : l.length ≤ 1000) (HF0 : ∀ w', Below w.heap.size w w' → Calls Tryz.prog 7 #[sv S h] w' fun e w'' => ∃ v, e = .returned v ∧ Fld.RoI w'.heap.size w'' v l ∧ Below w'.heap.size w' w'') (HG0 : ∀ w', Below w.heap.size w w' → Calls Tryz.prog 81 #[sv S h] w' fun e w'' => ∃ v, e = .returned v ∧ Fld.RoI w'.heap.size w'' v l ∧ Below w'.heap.size w' w'') : Calls Tryz.prog 57 #[ov 4 S h x nm d] w fun e w' => e = .returned (.bool true) ∧ Below w.heap.size w w' := by
 obtain ⟨D, hD, hL, hE⟩ := sv_letter S h
 obtain ⟨E, hE2⟩ : ∃ E, rcE x nm d = E := ⟨_, rfl⟩
 rw [hD] at HF0 HG0
 unfold ov
 rw [← hE, hE2]
 obtain ⟨L, hLL⟩ : ∃ L, (.int .i64 4 :: (D ++ E) : List Value) = L := ⟨_, rfl⟩
 rw [hLL]
 have HLL : Hid ((.int .i64 4 :: (D ++ E) : List Value) = L) := hLL
 have HL : Hid _ := hL
 have HX : Hid ((w.alloc (.cells L.toArray 59)).rangeAt w.heap.size 0 L ∧ Below w.heap.size w (w.alloc (.cells L.toArray 59))) := boxed w L _
 have HRD : Hid (∀ w' : World, w'.rangeAt w.heap.size 0 L → w'.rangeAt w.heap.size 1 D) := fun w' hr => by rw [← HLL.out] at hr; exact mid_range hr
 have k0 := range_cell HX.out.1 0 (.int .i64 4) (by rw [← HLL.out]; rfl)
 clear hD hL hE hE2 hLL
 have HF : Hid _ := HF0
 have HG : Hid _ := HG0
 clear HF0 HG0
 go_enter Tryz.func57, Tryz.ntmps57
 go_wp2_with (first | (refine wpList_load_mid rfl 25 _ rfl w.heap.size 1 rfl D _ (HRD.out _ HX.out.1) Tryz.underlying25 rfl HL.out ?_) | fail)
 refine (HF.out _ HX.out.2).mono ?_
 rintro e w1 ⟨v1, rfl, o1, b1⟩
 have H1 : Hid (w1.rangeAt w.heap.size 0 L ∧ Below w.heap.size w w1) := ⟨range_kept HX.out.1 b1, andThen HX.out.2 b1⟩
 clear b1 HX HF k0
 go_wp2_with (first | (refine wpList_load_mid rfl 25 _ rfl w.heap.size 1 rfl D _ (HRD.out _ H1.out.1) Tryz.underlying25 rfl HL.out ?_) | fail)
 refine (HG.out _ H1.out.2).mono ?_
 rintro e w2 ⟨v2, rfl, o2, b2⟩
 have B2 := andThen H1.out.2 b2
 have HS : Hid (Calls Tryz.prog 12 #[v1, v2] w2 fun e w' => e = .returned (.bool true) ∧ Below w2.heap.size w2 w') := sameInts_ro _ _ v1 v2 l w2 (o1.kept b2) o2 hl
 clear b2 H1 HG HRD o1 o2
 go_wp2_with fail
 refine Calls.mono HS.out ?_
 rintro e w3 ⟨rfl, b3⟩
 have B3 := andThen B2 b3
 clear b3 B2 HS
 go_wp2
 go_ret
 exact ⟨rfl, B3⟩
theorem asked_pend (S : Sg) (h : SH) (x : Nums) (nm : ByteArray) (d : Value) (w : World) (l : List Int) (hl : l.length ≤ 1000) (HF0 : ∀ w', Below w.heap.size w w' → Calls Tryz.prog 8 #[sv S h] w' fun e w'' => ∃ v, e = .returned v ∧ Fld.RoI w'.heap.size w'' v l ∧ Below w'.heap.size w' w'') (HG0 : ∀ w', Below w.heap.size w w' → Calls Tryz.prog 82 #[sv S h] w' fun e w'' => ∃ v, e = .returned v ∧ Fld.RoI w'.heap.size w'' v l ∧ Below w'.heap.size w' w'') : Calls Tryz.prog 57 #[ov 5 S h x nm d] w fun e w' => e = .returned (.bool true) ∧ Below w.heap.size w w' := by
 obtain ⟨D, hD, hL, hE⟩ := sv_letter S h
 obtain ⟨E, hE2⟩ : ∃ E, rcE x nm d = E := ⟨_, rfl⟩
 rw [hD] at HF0 HG0
 unfold ov
 rw [← hE, hE2]
 obtain ⟨L, hLL⟩ : ∃ L, (.int .i64 5 :: (D ++ E) : List Value) = L := ⟨_, rfl⟩
 rw [hLL]
 have HLL : Hid ((.int .i64 5 :: (D ++ E) : List Value) = L) := hLL
 have HL : Hid _ := hL
 have HX : Hid ((w.alloc (.cells L.toArray 59)).rangeAt w.heap.size 0 L ∧ Below w.heap.size w (w.alloc (.cells L.toArray 59))) := boxed w L _
 have HRD : Hid (∀ w' : World, w'.rangeAt w.heap.size 0 L → w'.rangeAt w.heap.size 1 D) := fun w' hr => by rw [← HLL.out] at hr; exact mid_range hr
 have k0 := range_cell HX.out.1 0 (.int .i64 5) (by rw [← HLL.out]; rfl)
 clear hD hL hE hE2 hLL
 have HF : Hid _ := HF0
 have HG : Hid _ := HG0
 clear HF0 HG0
 go_enter Tryz.func57, Tryz.ntmps57
 go_wp2_with (first | (refine wpList_load_mid rfl 25 _ rfl w.heap.size 1 rfl D _ (HRD.out _ HX.out.1) Tryz.underlying25 rfl HL.out ?_) | fail)
 refine (HF.out _ HX.out.2).mono ?_
 rintro e w1 ⟨v1, rfl, o1, b1⟩
 have H1 : Hid (w1.rangeAt w.heap.size 0 L ∧ Below w.heap.size w w1) := ⟨range_kept HX.out.1 b1, andThen HX.out.2 b1⟩
 clear b1 HX HF k0
 go_wp2_with (first | (refine wpList_load_mid rfl 25 _ rfl w.heap.size 1 rfl D _ (HRD.out _ H1.out.1) Tryz.underlying25 rfl HL.out ?_) | fail)
 refine (HG.out _ H1.out.2).mono ?_
 rintro e w2 ⟨v2, rfl, o2, b2⟩
 have B2 := andThen H1.out.2 b2
 have HS : Hid (Calls Tryz.prog 12 #[v1, v2] w2 fun e w' => e = .returned (.bool true) ∧ Below w2.heap.size w2 w') := sameInts_ro _ _ v1 v2 l w2 (o1.kept b2) o2 hl
 clear b2 H1 HG HRD o1 o2
 go_wp2_with fail
 refine Calls.mono HS.out ?_
 rintro e w3 ⟨rfl, b3⟩
 have B3 := andThen B2 b3
 clear b3 B2 HS
 go_wp2
 go_ret
 exact ⟨rfl, B3⟩
theorem nextTry_ne (x : SN) (h : 0 ≤ x.tr ∧ x.tr ≤ 1000) : x.nextTry ≠ 0 := by
 unfold SN.nextTry
 omega
theorem asked_3 (S : Sg) (h : SH) (x : Nums) (nm : ByteArray) (d : Value) (w : World) (k : SgAt w S h) (hT : Text.TabP 3 .i32 Text.Tx.lets w) (hR : Tabs w) (hns : S.nm.size ≤ 1048576) (hc : chkS S = true) (hfc : -9223372036854775808 ≤ S.x.fc ∧ S.x.fc ≤ 9223372036854775807) : Calls Tryz.prog 57 #[ov 3 S h x nm d] w fun e w' => e = .returned (.bool true) ∧ Below w.heap.size w w' := by
 have g5 := (good_nums S hc).2.2.2.2.1
 refine asked_fin S h x nm d w S.x.ended (fun w' hb => ?_) (fun w' hb => ?_)
 ·have e := finished_any S h w' (k.kept hb) (hT.kept hb) (by omega)
  rw [hc, Bool.true_and] at e
  exact e
 ·have e := rxfin_gen S h w' 0 (fun w2 hb2 => rxcheck_ok S h w2 ((k.kept hb).kept hb2) ((hR.kept hb).kept hb2) hns hc hfc)
  have e2 : ((0 : Int) == 0 && decide (3 ≤ S.x.ph)) = S.x.ended := by
   unfold SN.ended
   have h1 : S.x.ph = 1 ∨ S.x.ph = 2 ∨ S.x.ph = 3 ∨ S.x.ph = 4 := by omega
   rcases h1 with h1 | h1 | h1 | h1 <;> simp [h1]
  rw [e2] at e
  exact e
theorem asked_4 (S : Sg) (h : SH) (x : Nums) (nm : ByteArray) (d : Value) (w : World) (k : SgAt w S h) (hT : Text.TabP 3 .i32 Text.Tx.lets w) (hK : KindsT w) (hR : Tabs w) (hns : S.nm.size ≤ 1048576) (hc : chkS S = true) (hfc : -9223372036854775808 ≤ S.x.fc ∧ S.x.fc ≤ 9223372036854775807) : Calls Tryz.prog 57 #[ov 4 S h x nm d] w fun e w' => e = .returned (.bool true) ∧ Below w.heap.size w w' := by
 obtain ⟨_, _, _, g4, _, _, _, _, g9, _, _⟩ := good_nums S hc
 refine asked_all S h x nm d w (allowedP S) (by have := (allowed_small S).1; omega) (fun w' hb => allowed_any S h w' (k.kept hb) (hT.kept hb) (hK.kept hb) (by omega)) (fun w' hb => ?_)
 refine (rxallow_l S h w' (fun w2 hb2 => rxcheck_ok S h w2 ((k.kept hb).kept hb2) ((hR.kept hb).kept hb2) hns hc hfc) (fun j w2 h2 h7 => ?_) g4 g9).mono ?_
 ·exact (rref_try S h (askR S.x j) ⟨#[]⟩ (.slice none 0 0) w2 hc ⟨show (2 : Int) ≤ (j : Int) by omega, show (j : Int) ≤ 7 by omega⟩ rfl (nextTry_ne S.x g4)).mono fun e w'' h1 => ⟨_, h1.1, rfl, h1.2⟩
 ·rintro e w'' ⟨v, h1, h2, h3⟩
  exact ⟨v, h1, by rw [← upA_all S hc]; exact roI_weak h2 (by omega), h3⟩
theorem asked_5 (S : Sg) (h : SH) (x : Nums) (nm : ByteArray) (d : Value) (w : World) (k : SgAt w S h) (hT : Text.TabP 3 .i32 Text.Tx.lets w) (hR : Tabs w) (hns : S.nm.size ≤ 1048576) (hc : chkS S = true) (hfc : -9223372036854775808 ≤ S.x.fc ∧ S.x.fc ≤ 9223372036854775807) : Calls Tryz.prog 57 #[ov 5 S h x nm d] w fun e w' => e = .returned (.bool true) ∧ Below w.heap.size w w' := by
 have g9 := (good_nums S hc).2.2.2.2.2.2.2.2.1
 have hl : (pendP S).length ≤ 1000 := by
  unfold pendP
  rw [if_neg (by simp [hc])]
  split
  ·rw [downs_len]; omega
  ·simp
 exact asked_pend S h x nm d w (pendP S) hl (fun w' hb => pending_any S h w' (k.kept hb) (hT.kept hb) (by omega)) (fun w' hb => rxpend_any S h w' (fun w2 hb2 => rxcheck_ok S h w2 ((k.kept hb).kept hb2) ((hR.kept hb).kept hb2) hns hc hfc) hc)
theorem trl_step (S : Sg) (kk p : Int) (m n : Nat) : trL S kk p m (n + 1) = stR S kk p ((m : Int) + 1) 0 0 [] :: ((if n ≠ 0 ∨ S.x.fl = false then [stR S 4 p 0 0 0 []] else []) ++ trL S kk p (m + 1) n) := rfl
theorem tries_f (B t : Nat) (S : Sg) (h : SH) (rs : List Rec) (w : World) (k : TS B t S h rs w) (hB : B ≤ t) (hnx : 0 ≤ S.x.nx ∧ S.x.nx ≤ 32) (htr : 0 ≤ S.x.tr ∧ S.x.tr ≤ 1000) (hfw : S.x.fwd = true) (hn : rs.length ≤ 5000) :
  Calls Tryz.prog 38 #[.pointer (some ⟨t, 0, none⟩)] w fun e w' => TP B t S h (rs ++ trL S 2 S.x.turn 0 S.x.tr.toNat) w e w' := by
 obtain ⟨p, hp⟩ : ∃ p, S.x.turn = p := ⟨_, rfl⟩
 have HT1 : Hid (∀ (m : Int) (rs' : List Rec) (w' : World), TS B t S h rs' w' → rs'.length ≤ 10000 → Calls Tryz.prog 35 #[.pointer (some ⟨t, 0, none⟩), .agg #[.int .i64 0, .int .i64 2, .int .i64 0, .int .i64 p, .int .i64 m, .int .i64 0, .int .i64 0, .int .i64 0, .int .i64 0, .int .i64 0, .string ⟨#[]⟩, .slice none 0 0]] w' fun e w'' => TP B t S h (rs' ++ [stR S 2 p m 0 0 []]) w' e w'') := fun m rs' w' k' hn' => tell_T B t S h rs' ⟨⟨0, 2, 0, p, m, 0, 0, 0, 0, 0⟩, ⟨#[]⟩, []⟩ _ w' k' hB (Bs.nil _) (by simp) hn'
 have HT2 : Hid (∀ (rs' : List Rec) (w' : World), TS B t S h rs' w' → rs'.length ≤ 10000 → Calls Tryz.prog 35 #[.pointer (some ⟨t, 0, none⟩), .agg #[.int .i64 0, .int .i64 4, .int .i64 0, .int .i64 p, .int .i64 0, .int .i64 0, .int .i64 0, .int .i64 0, .int .i64 0, .int .i64 0, .string ⟨#[]⟩, .slice none 0 0]] w' fun e w'' => TP B t S h (rs' ++ [stR S 4 p 0 0 0 []]) w' e w'') := fun rs' w' k' hn' => tell_T B t S h rs' ⟨⟨0, 4, 0, p, 0, 0, 0, 0, 0, 0⟩, ⟨#[]⟩, []⟩ _ w' k' hB (Bs.nil _) (by simp) hn'
 have HTU0 : ∀ w', Calls Tryz.prog 64 #[sv S h] w' fun e w'' => e = .returned (.int .i64 p) ∧ Below w'.heap.size w' w'' := fun w' => by rw [← hp]; exact turn_any S h w' hnx
 have HFW0 : ∀ w', Calls Tryz.prog 36 #[sv S h] w' fun e w'' => e = .returned (.bool true) ∧ Below w'.heap.size w' w'' := fun w' => by rw [← hfw]; exact fwd_any S h w'
 obtain ⟨D, hD, hL, hE⟩ := sv_letter S h
 rw [hD] at HTU0 HFW0
 have HTU : Hid _ := HTU0
 have HFW : Hid _ := HFW0
 have HL : Hid _ := hL
 have HE : Hid (D = scl S h) := hE
 have HR : Hid (∀ rs' w', TS B t S h rs' w' → w'.rangeAt t 0 D) := fun rs' w' k' => by show w'.rangeAt t 0 D; rw [hE]; exact k'.range
 have H0 : Hid (TS B t S h rs w ∧ B ≤ w.heap.size) := ⟨k, by have := k.lt; omega⟩
 have HRw : Hid (w.rangeAt t 0 D) := HR.out _ _ k
 have hT : (S.x.tr.toNat : Int) = S.x.tr := by omega
 rw [hp]
 clear k hD hL hE hp hnx hfw HTU0 HFW0
 go_enter Tryz.func38, Tryz.ntmps38
 go_wp2_with (first | (refine wpList_load_mid rfl 25 _ rfl t 0 rfl D _ HRw.out Tryz.underlying25 rfl HL.out ?_) | fail)
 refine (HTU.out _).mono ?_
 rintro e w1 ⟨rfl, b1⟩
 have H1 : Hid (TS B t S h rs w1 ∧ Below w.heap.size w w1) := ⟨H0.out.1.kept b1, b1⟩
 have HR1 : Hid (w1.rangeAt t 0 D) := HR.out _ _ H1.out.1
 clear b1 HRw
 go_wp2_with (first | (refine wpList_load_mid rfl 25 _ rfl t 0 rfl D _ HR1.out Tryz.underlying25 rfl HL.out ?_) | fail)
 refine (HFW.out _).mono ?_
 rintro e w2 ⟨rfl, b2⟩
 have H2 : Hid (TS B t S h rs w2 ∧ Below w.heap.size w w2) := ⟨H1.out.1.kept b2, andThen H1.out.2 b2⟩
 clear b2 HR1 H1 HTU HFW
 go_wp2
 go_loopw [4] (fun i wr => ∃ (m : Nat) (cur : List Rec), i = .int .i64 ((m : Int) + 1) ∧ m ≤ S.x.tr.toNat ∧ TS B t S h cur wr ∧ cur ++ trL S 2 p m (S.x.tr.toNat - m) = rs ++ trL S 2 p 0 S.x.tr.toNat ∧ cur.length ≤ rs.length + 2 * m ∧ Below B w wr ∧ Fr t w wr) (fun i _ => S.x.tr.toNat + 1 - (intOf i).toNat)
 case atStart => exact ⟨0, rs, rfl, Nat.zero_le _, H2.out.1, by simp, by simp, H2.out.2.mono H0.out.2, Fr.below H2.out.2⟩
 case round =>
  obtain ⟨m, cur, rfl, hm, kc, he, hcl, bl, fr⟩ := hrel
  have HC : Hid (TS B t S h cur wr ∧ Below B w wr ∧ Fr t w wr) := ⟨kc, bl, fr⟩
  have HEQ : Hid (cur ++ trL S 2 p m (S.x.tr.toNat - m) = rs ++ trL S 2 p 0 S.x.tr.toNat) := he
  clear kc bl fr he H2
  have c10 := HC.out.1.cell 10 (.int .i64 S.x.tr) rfl
  by_cases hlt : m < S.x.tr.toNat
  ·obtain ⟨n, hnn⟩ : ∃ n, S.x.tr.toNat - m = n + 1 := ⟨S.x.tr.toNat - m - 1, by omega⟩
   have hn2 : S.x.tr.toNat - (m + 1) = n := by omega
   rw [hnn, trl_step] at HEQ
   have d1 : decide ((m : Int) + 1 ≤ S.x.tr) = true := by simp; omega
   go_wp2_with fail
   refine (HT1.out _ _ _ HC.out.1 (by omega)).mono ?_
   rintro e w3 ⟨rfl, k3, b3, f3⟩
   have H3 : Hid (TS B t S h (cur ++ [stR S 2 p ((m : Int) + 1) 0 0 []]) w3 ∧ Below B w w3 ∧ Fr t w w3) := ⟨k3, HC.out.2.1.trans b3, HC.out.2.2.trans f3⟩
   clear k3 b3 f3 HC c10 d1
   have c10 := H3.out.1.cell 10 (.int .i64 S.x.tr) rfl
   by_cases hn0 : n = 0
   ·have d2 : decide ((m : Int) + 1 < S.x.tr) = false := by simp; omega
    cases hfl : S.x.fl with
    | true =>
     have c9 := H3.out.1.cell 9 (.bool true) (by rw [← hfl]; rfl)
     rw [if_neg (by simp [hn0, hfl])] at HEQ
     go_wp2
     go_roundw
     case rel => exact ⟨m + 1, _, by go_num, by omega, H3.out.1, by rw [hn2, ← HEQ.out]; simp, by simp; omega, H3.out.2.1, H3.out.2.2⟩
     case measure => simp [intOf]; omega
    | false =>
     have c9 := H3.out.1.cell 9 (.bool false) (by rw [← hfl]; rfl)
     rw [if_pos (.inr hfl)] at HEQ
     go_wp2_with fail
     refine (HT2.out _ _ H3.out.1 (by simp; omega)).mono ?_
     rintro e w4 ⟨rfl, k4, b4, f4⟩
     have H4 : Hid (TS B t S h (cur ++ [stR S 2 p ((m : Int) + 1) 0 0 []] ++ [stR S 4 p 0 0 0 []]) w4 ∧ Below B w w4 ∧ Fr t w w4) := ⟨k4, H3.out.2.1.trans b4, H3.out.2.2.trans f4⟩
     clear k4 b4 f4 H3 c10 c9
     go_wp2
     go_roundw
     case rel => exact ⟨m + 1, _, by go_num, by omega, H4.out.1, by rw [hn2, ← HEQ.out]; simp, by simp; omega, H4.out.2.1, H4.out.2.2⟩
     case measure => simp [intOf]; omega
   ·have d2 : decide ((m : Int) + 1 < S.x.tr) = true := by simp; omega
    rw [if_pos (.inl hn0)] at HEQ
    go_wp2_with fail
    refine (HT2.out _ _ H3.out.1 (by simp; omega)).mono ?_
    rintro e w4 ⟨rfl, k4, b4, f4⟩
    have H4 : Hid (TS B t S h (cur ++ [stR S 2 p ((m : Int) + 1) 0 0 []] ++ [stR S 4 p 0 0 0 []]) w4 ∧ Below B w w4 ∧ Fr t w w4) := ⟨k4, H3.out.2.1.trans b4, H3.out.2.2.trans f4⟩
    clear k4 b4 f4 H3 c10
    go_wp2
    go_roundw
    case rel => exact ⟨m + 1, _, by go_num, by omega, H4.out.1, by rw [hn2, ← HEQ.out]; simp, by simp; omega, H4.out.2.1, H4.out.2.2⟩
    case measure => simp [intOf]; omega
  ·obtain rfl : m = S.x.tr.toNat := by omega
   have d1 : decide (((S.x.tr.toNat : Nat) : Int) + 1 ≤ S.x.tr) = false := by simp; omega
   have hfin : cur = rs ++ trL S 2 p 0 S.x.tr.toNat := by
    have := HEQ.out
    rw [Nat.sub_self] at this
    simpa [trL] using this
   go_wp2
   go_end0
   exact ⟨rfl, by rw [← hfin]; exact HC.out.1, HC.out.2.1, HC.out.2.2⟩
theorem tries_b (B t : Nat) (S : Sg) (h : SH) (rs : List Rec) (w : World) (k : TS B t S h rs w) (hB : B ≤ t) (hnx : 0 ≤ S.x.nx ∧ S.x.nx ≤ 32) (htr : 0 ≤ S.x.tr ∧ S.x.tr ≤ 1000) (hfw : S.x.fwd = false) (hn : rs.length ≤ 5000) :
  Calls Tryz.prog 38 #[.pointer (some ⟨t, 0, none⟩)] w fun e w' => TP B t S h (rs ++ trL S 5 S.x.turn 0 S.x.tr.toNat) w e w' := by
 obtain ⟨p, hp⟩ : ∃ p, S.x.turn = p := ⟨_, rfl⟩
 have HT1 : Hid (∀ (m : Int) (rs' : List Rec) (w' : World), TS B t S h rs' w' → rs'.length ≤ 10000 → Calls Tryz.prog 35 #[.pointer (some ⟨t, 0, none⟩), .agg #[.int .i64 0, .int .i64 5, .int .i64 0, .int .i64 p, .int .i64 m, .int .i64 0, .int .i64 0, .int .i64 0, .int .i64 0, .int .i64 0, .string ⟨#[]⟩, .slice none 0 0]] w' fun e w'' => TP B t S h (rs' ++ [stR S 5 p m 0 0 []]) w' e w'') := fun m rs' w' k' hn' => tell_T B t S h rs' ⟨⟨0, 5, 0, p, m, 0, 0, 0, 0, 0⟩, ⟨#[]⟩, []⟩ _ w' k' hB (Bs.nil _) (by simp) hn'
 have HT2 : Hid (∀ (rs' : List Rec) (w' : World), TS B t S h rs' w' → rs'.length ≤ 10000 → Calls Tryz.prog 35 #[.pointer (some ⟨t, 0, none⟩), .agg #[.int .i64 0, .int .i64 4, .int .i64 0, .int .i64 p, .int .i64 0, .int .i64 0, .int .i64 0, .int .i64 0, .int .i64 0, .int .i64 0, .string ⟨#[]⟩, .slice none 0 0]] w' fun e w'' => TP B t S h (rs' ++ [stR S 4 p 0 0 0 []]) w' e w'') := fun rs' w' k' hn' => tell_T B t S h rs' ⟨⟨0, 4, 0, p, 0, 0, 0, 0, 0, 0⟩, ⟨#[]⟩, []⟩ _ w' k' hB (Bs.nil _) (by simp) hn'
 have HTU0 : ∀ w', Calls Tryz.prog 64 #[sv S h] w' fun e w'' => e = .returned (.int .i64 p) ∧ Below w'.heap.size w' w'' := fun w' => by rw [← hp]; exact turn_any S h w' hnx
 have HFW0 : ∀ w', Calls Tryz.prog 36 #[sv S h] w' fun e w'' => e = .returned (.bool false) ∧ Below w'.heap.size w' w'' := fun w' => by rw [← hfw]; exact fwd_any S h w'
 obtain ⟨D, hD, hL, hE⟩ := sv_letter S h
 rw [hD] at HTU0 HFW0
 have HTU : Hid _ := HTU0
 have HFW : Hid _ := HFW0
 have HL : Hid _ := hL
 have HE : Hid (D = scl S h) := hE
 have HR : Hid (∀ rs' w', TS B t S h rs' w' → w'.rangeAt t 0 D) := fun rs' w' k' => by show w'.rangeAt t 0 D; rw [hE]; exact k'.range
 have H0 : Hid (TS B t S h rs w ∧ B ≤ w.heap.size) := ⟨k, by have := k.lt; omega⟩
 have HRw : Hid (w.rangeAt t 0 D) := HR.out _ _ k
 have hT : (S.x.tr.toNat : Int) = S.x.tr := by omega
 rw [hp]
 clear k hD hL hE hp hnx hfw HTU0 HFW0
 go_enter Tryz.func38, Tryz.ntmps38
 go_wp2_with (first | (refine wpList_load_mid rfl 25 _ rfl t 0 rfl D _ HRw.out Tryz.underlying25 rfl HL.out ?_) | fail)
 refine (HTU.out _).mono ?_
 rintro e w1 ⟨rfl, b1⟩
 have H1 : Hid (TS B t S h rs w1 ∧ Below w.heap.size w w1) := ⟨H0.out.1.kept b1, b1⟩
 have HR1 : Hid (w1.rangeAt t 0 D) := HR.out _ _ H1.out.1
 clear b1 HRw
 go_wp2_with (first | (refine wpList_load_mid rfl 25 _ rfl t 0 rfl D _ HR1.out Tryz.underlying25 rfl HL.out ?_) | fail)
 refine (HFW.out _).mono ?_
 rintro e w2 ⟨rfl, b2⟩
 have H2 : Hid (TS B t S h rs w2 ∧ Below w.heap.size w w2) := ⟨H1.out.1.kept b2, andThen H1.out.2 b2⟩
 clear b2 HR1 H1 HTU HFW
 go_wp2
 go_loopw [4] (fun i wr => ∃ (m : Nat) (cur : List Rec), i = .int .i64 ((m : Int) + 1) ∧ m ≤ S.x.tr.toNat ∧ TS B t S h cur wr ∧ cur ++ trL S 5 p m (S.x.tr.toNat - m) = rs ++ trL S 5 p 0 S.x.tr.toNat ∧ cur.length ≤ rs.length + 2 * m ∧ Below B w wr ∧ Fr t w wr) (fun i _ => S.x.tr.toNat + 1 - (intOf i).toNat)
 case atStart => exact ⟨0, rs, rfl, Nat.zero_le _, H2.out.1, by simp, by simp, H2.out.2.mono H0.out.2, Fr.below H2.out.2⟩
 case round =>
  obtain ⟨m, cur, rfl, hm, kc, he, hcl, bl, fr⟩ := hrel
  have HC : Hid (TS B t S h cur wr ∧ Below B w wr ∧ Fr t w wr) := ⟨kc, bl, fr⟩
  have HEQ : Hid (cur ++ trL S 5 p m (S.x.tr.toNat - m) = rs ++ trL S 5 p 0 S.x.tr.toNat) := he
  clear kc bl fr he H2
  have c10 := HC.out.1.cell 10 (.int .i64 S.x.tr) rfl
  by_cases hlt : m < S.x.tr.toNat
  ·obtain ⟨n, hnn⟩ : ∃ n, S.x.tr.toNat - m = n + 1 := ⟨S.x.tr.toNat - m - 1, by omega⟩
   have hn2 : S.x.tr.toNat - (m + 1) = n := by omega
   rw [hnn, trl_step] at HEQ
   have d1 : decide ((m : Int) + 1 ≤ S.x.tr) = true := by simp; omega
   go_wp2_with fail
   refine (HT1.out _ _ _ HC.out.1 (by omega)).mono ?_
   rintro e w3 ⟨rfl, k3, b3, f3⟩
   have H3 : Hid (TS B t S h (cur ++ [stR S 5 p ((m : Int) + 1) 0 0 []]) w3 ∧ Below B w w3 ∧ Fr t w w3) := ⟨k3, HC.out.2.1.trans b3, HC.out.2.2.trans f3⟩
   clear k3 b3 f3 HC c10 d1
   have c10 := H3.out.1.cell 10 (.int .i64 S.x.tr) rfl
   by_cases hn0 : n = 0
   ·have d2 : decide ((m : Int) + 1 < S.x.tr) = false := by simp; omega
    cases hfl : S.x.fl with
    | true =>
     have c9 := H3.out.1.cell 9 (.bool true) (by rw [← hfl]; rfl)
     rw [if_neg (by simp [hn0, hfl])] at HEQ
     go_wp2
     go_roundw
     case rel => exact ⟨m + 1, _, by go_num, by omega, H3.out.1, by rw [hn2, ← HEQ.out]; simp, by simp; omega, H3.out.2.1, H3.out.2.2⟩
     case measure => simp [intOf]; omega
    | false =>
     have c9 := H3.out.1.cell 9 (.bool false) (by rw [← hfl]; rfl)
     rw [if_pos (.inr hfl)] at HEQ
     go_wp2_with fail
     refine (HT2.out _ _ H3.out.1 (by simp; omega)).mono ?_
     rintro e w4 ⟨rfl, k4, b4, f4⟩
     have H4 : Hid (TS B t S h (cur ++ [stR S 5 p ((m : Int) + 1) 0 0 []] ++ [stR S 4 p 0 0 0 []]) w4 ∧ Below B w w4 ∧ Fr t w w4) := ⟨k4, H3.out.2.1.trans b4, H3.out.2.2.trans f4⟩
     clear k4 b4 f4 H3 c10 c9
     go_wp2
     go_roundw
     case rel => exact ⟨m + 1, _, by go_num, by omega, H4.out.1, by rw [hn2, ← HEQ.out]; simp, by simp; omega, H4.out.2.1, H4.out.2.2⟩
     case measure => simp [intOf]; omega
   ·have d2 : decide ((m : Int) + 1 < S.x.tr) = true := by simp; omega
    rw [if_pos (.inl hn0)] at HEQ
    go_wp2_with fail
    refine (HT2.out _ _ H3.out.1 (by simp; omega)).mono ?_
    rintro e w4 ⟨rfl, k4, b4, f4⟩
    have H4 : Hid (TS B t S h (cur ++ [stR S 5 p ((m : Int) + 1) 0 0 []] ++ [stR S 4 p 0 0 0 []]) w4 ∧ Below B w w4 ∧ Fr t w w4) := ⟨k4, H3.out.2.1.trans b4, H3.out.2.2.trans f4⟩
    clear k4 b4 f4 H3 c10
    go_wp2
    go_roundw
    case rel => exact ⟨m + 1, _, by go_num, by omega, H4.out.1, by rw [hn2, ← HEQ.out]; simp, by simp; omega, H4.out.2.1, H4.out.2.2⟩
    case measure => simp [intOf]; omega
  ·obtain rfl : m = S.x.tr.toNat := by omega
   have d1 : decide (((S.x.tr.toNat : Nat) : Int) + 1 ≤ S.x.tr) = false := by simp; omega
   have hfin : cur = rs ++ trL S 5 p 0 S.x.tr.toNat := by
    have := HEQ.out
    rw [Nat.sub_self] at this
    simpa [trL] using this
   go_wp2
   go_end0
   exact ⟨rfl, by rw [← hfin]; exact HC.out.1, HC.out.2.1, HC.out.2.2⟩
theorem tries_any (B t : Nat) (S : Sg) (h : SH) (rs : List Rec) (w : World) (k : TS B t S h rs w) (hB : B ≤ t) (hnx : 0 ≤ S.x.nx ∧ S.x.nx ≤ 32) (htr : 0 ≤ S.x.tr ∧ S.x.tr ≤ 1000) (hn : rs.length ≤ 5000) :
  Calls Tryz.prog 38 #[.pointer (some ⟨t, 0, none⟩)] w fun e w' => TP B t S h (rs ++ trL S (trK S) S.x.turn 0 S.x.tr.toNat) w e w' := by
 unfold trK
 cases hf : S.x.fwd with
 | true => exact tries_f B t S h rs w k hB hnx htr hf hn
 | false => exact tries_b B t S h rs w k hB hnx htr hf hn
theorem outL_lenC (S : Sg) : ∀ (r : List (List Nat)) (i : Nat), (outL S i r).length = 2 * r.length
 | [], _ => rfl
 | _ :: r, i => by simp only [outL, List.length_cons, outL_lenC S r (i + 1)]; omega
theorem undL_lenC (S : Sg) : ∀ (r : List (List Nat)) (p : Int), (undL S p r).length = 2 * r.length
 | [], _ => rfl
 | _ :: r, p => by simp only [undL, List.length_cons, undL_lenC S r (p - 1)]; omega
theorem trL_lenC (S : Sg) (kk p : Int) : ∀ (n m : Nat), (trL S kk p m n).length ≤ 2 * n
 | 0, _ => Nat.le_refl _
 | n + 1, m => by
  have := trL_lenC S kk p n (m + 1)
  rw [trl_step]
  split <;> (simp; omega)
theorem failL_lenC (S : Sg) : (failL S).length ≤ 2 + 2 * S.und.length := by
 unfold failL
 split
 ·simp
 ·simp [undL_lenC]; omega
theorem story_bnds (S : Sg) (h : chkS S = true) : S.outs.length ≤ 32 ∧ S.und.length ≤ 32 ∧ (0 ≤ S.x.nx ∧ S.x.nx ≤ 32) ∧ (0 ≤ S.x.tr ∧ S.x.tr ≤ 1000) ∧ (S.x.fwd = false → 0 ≤ S.x.fs ∧ S.x.fs ≤ 32) ∧ S.inp.length ≤ 16384 ∧ S.fail.length ≤ 16384 ∧ shortP S.outs = true ∧ shortP S.und = true := by
 obtain ⟨⟨b1, b2, b3, b4, b5, b6, b7, b8, b9, b10, b11⟩, h1⟩ := (chkS_iff S).1 h
 refine ⟨?_, ?_, ?_, b7, ?_, b8, b9, b10, b11⟩
 all_goals rcases h1 with ⟨g, c1, c2, c3, c4, c5, c6, c7, _⟩ | ⟨g, c1, c2, c3, c4, c5, c6, _⟩ | ⟨g, c1, c2, c3, c4, c5, c6, _⟩ | ⟨g, g0, c1, c2, c3, c4, c5, c6, _⟩
 all_goals first | omega | (rw [c4]; simp) | (intro hf; simp [SN.fwd, g] at hf) | (intro _; omega)
def ztl : List Value := zcl ++ [.slice none 0 0]
theorem infoTeller : (Tryz.prog.info? 70).map (·.size) = some 17 := by kernel_rfl
theorem wpList_alloc_T {Z : List Value} (hZ : Z = ztl) {ops : Array Oper} {rest : List Oper} {op : Oper} {a : Act} {w : World} {Q : Exit → Act → World → Prop} (hgd : op.guard = none) (ho : op.op = .alloc 70)
  (h : wpList Tryz.prog ops Q rest (a.put op.dst (.pointer (some ⟨w.heap.size, 0, none⟩))) (w.alloc (.cells Z.toArray 70))) : wpList Tryz.prog ops Q (op :: rest) a w := by
 subst hZ
 refine wpList_plain hgd fun K hK => ?_
 obtain ⟨dst, op', ty, pos, after, guard⟩ := op
 simp only at ho hgd
 subst ho hgd
 have hK2 := hK _ _ h
 clear hK h
 unfold ztl zcl at hK2
 go_simp
 exact hK2
theorem wpList_build_T {S : Sg} {h : SH} {D T : List Value} (hD : D = scl S h) (hT : T = D ++ [.slice none 0 0]) {ops : Array Oper} {rest : List Oper} {op : Oper} {a : Act} {w : World} {Q : Exit → Act → World → Prop} (hgd : op.guard = none) (n : Nat) (ho : op.op = .build 70 #[(0, .tmp n)]) (hx : a.tmps[n]?.getD undef = .agg D.toArray)
  (hh : wpList Tryz.prog ops Q rest (a.put op.dst (.agg T.toArray)) w) : wpList Tryz.prog ops Q (op :: rest) a w := by
 subst hT hD
 refine wpList_plain hgd fun K hK => ?_
 obtain ⟨dst, op', ty, pos, after, guard⟩ := op
 simp only at ho hgd
 subst ho hgd
 have hK2 := hK _ _ hh
 clear hK hh
 unfold scl at hK2 hx
 go_simp
 exact hK2
def StPost (S : Sg) (w : World) (e : Ending) (w' : World) : Prop := ∃ v ps, e = .returned (.tuple #[v, .int .i64 0]) ∧ OutT w.heap.size w' v ps ∧ ps.map Prod.fst = storyP S ∧ Below w.heap.size w w'

theorem story_bad (S : Sg) (h : SH) (w : World) (k : SgAt w S h) (hT : Text.TabP 3 .i32 Text.Tx.lets w) (hnm : S.nm.size ≤ 140737488355000) (hc : chkS S = false) : Calls Tryz.prog 9 #[sv S h] w fun e w' => e = .returned (.tuple #[.slice none 0 0, .int .i64 100]) ∧ Below w.heap.size w w' := by
 have HCK0 : ∀ w', Below w.heap.size w w' → Calls Tryz.prog 29 #[sv S h] w' fun e w'' => e = .returned (.int .i64 100) ∧ Below w'.heap.size w' w'' := fun w' hb => by
  have e := scheck_any S h w' (k.kept hb) (hT.kept hb) hnm
  rw [hc] at e
  exact e

 obtain ⟨D, hD, hL, hE⟩ := sv_letter S h
 rw [hD] at HCK0 ⊢
 have HCK : Hid _ := HCK0
 have HL : Hid _ := hL
 have HE : Hid (D = scl S h) := hE
 have HX : Hid (∀ t, (w.alloc (.cells D.toArray t)).rangeAt w.heap.size 0 D ∧ Below w.heap.size w (w.alloc (.cells D.toArray t))) := fun t => boxed w D t
 clear hD hL hE HCK0
 clear k hT hnm hc
 have HX1 : Hid _ := HX.out 25
 go_enter Tryz.func9, Tryz.ntmps9
 go_wp2_with (first | (refine wpList_load_mid rfl 25 _ rfl w.heap.size 0 rfl D _ HX1.out.1 Tryz.underlying25 rfl HL.out ?_) | fail)
 refine (HCK.out _ HX1.out.2).mono ?_
 rintro e w1 ⟨rfl, b1⟩
 have H1 : Hid (Below w.heap.size w w1) := andThen HX1.out.2 b1
 clear b1 HX1 HX
 go_wp2
 go_ret2
 exact ⟨rfl, H1.out⟩
theorem story_ok (S : Sg) (h : SH) (w : World) (k : SgAt w S h) (hT : Text.TabP 3 .i32 Text.Tx.lets w) (hnm : S.nm.size ≤ 140737488355000) (hc : chkS S = true) : Calls Tryz.prog 9 #[sv S h] w fun e w' => StPost S w e w' := by
 obtain ⟨q1, q2, q3, q4, q5, q6, q7, q8, q9⟩ := story_bnds S hc
 have HCK0 : ∀ w', Below w.heap.size w w' → Calls Tryz.prog 29 #[sv S h] w' fun e w'' => e = .returned (.int .i64 0) ∧ Below w'.heap.size w' w'' := fun w' hb => by
  have e := scheck_any S h w' (k.kept hb) (hT.kept hb) hnm
  rw [hc] at e
  exact e
 have HFW0 : ∀ w', Calls Tryz.prog 36 #[sv S h] w' fun e w'' => e = .returned (.bool S.x.fwd) ∧ Below w'.heap.size w' w'' := fun w' => fwd_any S h w'
 have HEN0 : ∀ w', Calls Tryz.prog 30 #[sv S h] w' fun e w'' => e = .returned (.bool S.x.ended) ∧ Below w'.heap.size w' w'' := fun w' => ended_any S h w'
 have HOC0 : ∀ w', Calls Tryz.prog 39 #[sv S h] w' fun e w'' => e = .returned (.int .i64 S.x.outcome) ∧ Below w'.heap.size w' w'' := fun w' => outcome_any S h w'
 obtain ⟨D, hD, hL, hE⟩ := sv_letter S h
 rw [hD] at HCK0 HFW0 HEN0 HOC0 ⊢
 have HCK : Hid _ := HCK0
 have HFW : Hid _ := HFW0
 have HEN : Hid _ := HEN0
 have HOC : Hid _ := HOC0
 have HL : Hid _ := hL
 have HE : Hid (D = scl S h) := hE
 have HX : Hid (∀ t, LB (w.alloc (.cells D.toArray t)) w.heap.size t D ∧ Below w.heap.size w (w.alloc (.cells D.toArray t))) := fun t => ⟨lb_new w D t, up0 _ _⟩
 have HU : Hid (∀ j (hj : j < S.outs.length), ∃ b off d, h.ao = some ⟨b, off, none⟩ ∧ (∀ w', Below w.heap.size w w' → w'.cell? ⟨b, off + j, none⟩ = some d ∧ Bs w' d S.outs[j]) ∧ S.outs[j].length ≤ 16384) := fun j hj => by
  obtain ⟨a1, p1, e1, _, h1⟩ := k.outs.shape
  simp only [Value.slice.injEq] at e1
  obtain ⟨rfl, _, rfl⟩ := e1
  obtain ⟨b, off, r1, r2⟩ := h1 (by intro e; rw [e] at hj; simp at hj)
  obtain ⟨d, q1, q2⟩ := r2 j hj
  exact ⟨b, off, d, r1, fun w' hb => ⟨(hb.cell (World.block_lt_of_cell? _ _ q1)).trans q1, q2.kept hb⟩, by simpa using List.all_eq_true.1 q8 _ (List.getElem_mem hj)⟩
 have HBG : Hid (∀ (t : Nat) (w' : World), w.heap.size ≤ t → TS w.heap.size t S h [] w' → Below w.heap.size w w' → Calls Tryz.prog 34 #[.pointer (some ⟨t, 0, none⟩)] w' fun e w'' => TP w.heap.size t S h [stB S] w' e w'') := fun t w' ht k' hb => tbegin_any _ t S h w' k' ht (k.inp.kept hb) q6
 have HTF : Hid (∀ (t : Nat) (rs : List Rec) (w' : World), w.heap.size ≤ t → TS w.heap.size t S h rs w' → Below w.heap.size w w' → S.x.fwd = false → rs.length ≤ 5000 → Calls Tryz.prog 37 #[.pointer (some ⟨t, 0, none⟩)] w' fun e w'' => TP w.heap.size t S h (rs ++ failL S) w' e w'') := fun t rs w' ht k' hb hf hn => tfail_any _ t S h rs w' k' ht w rfl k hb q7 q9 q2 (q5 hf) hf hn
 have HTR : Hid (∀ (t : Nat) (rs : List Rec) (w' : World), w.heap.size ≤ t → TS w.heap.size t S h rs w' → rs.length ≤ 5000 → Calls Tryz.prog 38 #[.pointer (some ⟨t, 0, none⟩)] w' fun e w'' => TP w.heap.size t S h (rs ++ trL S (trK S) S.x.turn 0 S.x.tr.toNat) w' e w'') := fun t rs w' ht k' hn => tries_any _ t S h rs w' k' ht q3 q4 hn
 have HT1 : Hid (∀ (t : Nat), w.heap.size ≤ t → ∀ (p : Int) (rs' : List Rec) (w' : World), TS w.heap.size t S h rs' w' → rs'.length ≤ 10000 → Calls Tryz.prog 35 #[.pointer (some ⟨t, 0, none⟩), .agg #[.int .i64 0, .int .i64 2, .int .i64 0, .int .i64 p, .int .i64 1, .int .i64 0, .int .i64 0, .int .i64 0, .int .i64 0, .int .i64 0, .string ⟨#[]⟩, .slice none 0 0]] w' fun e w'' => TP w.heap.size t S h (rs' ++ [stR S 2 p 1 0 0 []]) w' e w'') := fun t hB p rs' w' k' hn' => tell_T _ t S h rs' ⟨⟨0, 2, 0, p, 1, 0, 0, 0, 0, 0⟩, ⟨#[]⟩, []⟩ _ w' k' hB (Bs.nil _) (by simp) hn'
 have HT2 : Hid (∀ (t : Nat), w.heap.size ≤ t → ∀ (p : Int) (d : Value) (o : List Nat) (rs' : List Rec) (w' : World), TS w.heap.size t S h rs' w' → rs'.length ≤ 10000 → Bs w' (d) o → o.length ≤ 16384 → Calls Tryz.prog 35 #[.pointer (some ⟨t, 0, none⟩), .agg #[.int .i64 0, .int .i64 3, .int .i64 0, .int .i64 p, .int .i64 0, .int .i64 0, .int .i64 0, .int .i64 0, .int .i64 0, .int .i64 0, .string ⟨#[]⟩, d]] w' fun e w'' => TP w.heap.size t S h (rs' ++ [stR S 3 p 0 0 0 o]) w' e w'') := fun t hB p d o rs' w' k' hn' hb hl => tell_T _ t S h rs' ⟨⟨0, 3, 0, p, 0, 0, 0, 0, 0, 0⟩, ⟨#[]⟩, o⟩ _ w' k' hB hb hl hn'
 have HT3 : Hid (∀ (t : Nat), w.heap.size ≤ t → ∀ (c : Int) (rs' : List Rec) (w' : World), TS w.heap.size t S h rs' w' → rs'.length ≤ 10000 → Calls Tryz.prog 35 #[.pointer (some ⟨t, 0, none⟩), .agg #[.int .i64 0, .int .i64 7, .int .i64 0, .int .i64 0, .int .i64 0, .int .i64 0, .int .i64 0, .int .i64 c, .int .i64 0, .int .i64 0, .string ⟨#[]⟩, .slice none 0 0]] w' fun e w'' => TP w.heap.size t S h (rs' ++ [stR S 7 0 0 0 c []]) w' e w'') := fun t hB c rs' w' k' hn' => tell_T _ t S h rs' ⟨⟨0, 7, 0, 0, 0, 0, 0, c, 0, 0⟩, ⟨#[]⟩, []⟩ _ w' k' hB (Bs.nil _) (by simp) hn'
 have HLEN : Hid (S.outs.length ≤ 32 ∧ (failL S).length ≤ 66 ∧ (trL S (trK S) S.x.turn 0 S.x.tr.toNat).length ≤ 2000) := ⟨q1, by have := failL_lenC S; omega, by have := trL_lenC S (trK S) S.x.turn S.x.tr.toNat 0; omega⟩
 obtain ⟨Z, hZ⟩ : ∃ Z, Z = ztl := ⟨_, rfl⟩
 have HZ : Hid (Z = ztl) := hZ
 obtain ⟨TD, hTD⟩ : ∃ TD, TD = D ++ [.slice none 0 0] := ⟨_, rfl⟩
 have HTD : Hid (TD = D ++ [.slice none 0 0]) := hTD
 have HTL : Hid ((Tryz.prog.info? 70).map (·.size) = some TD.length) := by show _ = _; rw [hTD, hE]; exact infoTeller
 have HTZ : Hid (TD.length = Z.length) := by show _ = _; rw [hTD, hE, hZ]; rfl
 have HT1' : Hid (∀ v ∈ TD, v.oneCell' = true) := by
  show ∀ v ∈ TD, _
  rw [hTD, hE]
  intro v hv
  rcases List.mem_append.1 hv with hv | hv
  ·exact scl_one _ _ v hv
  ·obtain rfl := List.mem_singleton.1 hv; rfl
 clear k hT hnm hc hD hL hE hZ hTD HCK0 HFW0 HEN0 HOC0 q1 q2 q3 q4 q5 q6 q7 q8 q9
 have HX1 : Hid _ := HX.out 25
 go_enter Tryz.func9, Tryz.ntmps9
 go_wp2_with (first | (refine wpList_load_mid rfl 25 _ rfl w.heap.size 0 rfl D _ HX1.out.1.range Tryz.underlying25 rfl HL.out ?_) | fail)
 refine (HCK.out _ HX1.out.2).mono ?_
 rintro e w1 ⟨rfl, b1⟩
 have H1 : Hid (LB w1 w.heap.size 25 D ∧ Below w.heap.size w w1 ∧ w.heap.size ≤ w1.heap.size ∧ w.heap.size ≠ w1.heap.size) := ⟨HX1.out.1.kept b1, andThen HX1.out.2 b1, (andThen HX1.out.2 b1).size, Nat.ne_of_lt (HX1.out.1.kept b1).lt⟩
 clear b1 HX1 HX HCK
 have HTT : Hid ((w1.alloc (.cells Z.toArray 70)).there w1.heap.size 0 TD.toArray.size) := there_of (lb_new w1 Z _) (by simpa using HTZ.out)
 have H2 : Hid (∃ W2, W2 = (w1.alloc (.cells Z.toArray 70)).setCells w1.heap.size 0 TD ∧ LB W2 w.heap.size 25 D ∧ TS w.heap.size w1.heap.size S h [] W2 ∧ Below w.heap.size w W2) := by
  obtain ⟨q1, q2⟩ := box1 w1 70 Z TD HTZ.out
  exact ⟨_, rfl, H1.out.1.kept q2, ⟨.slice none 0 0, [], by rw [← HE.out, ← HTD.out]; exact q1, OutT.nil _ _, rfl⟩, andThen H1.out.2.1 q2⟩
 go_wp2_with (first | (refine wpList_load_mid rfl 25 _ rfl w.heap.size 0 rfl D _ H1.out.1.range Tryz.underlying25 rfl HL.out ?_) | (refine wpList_build_T HE.out HTD.out rfl 13 rfl rfl ?_) | (refine wpList_alloc_T HZ.out rfl rfl ?_) | (refine wpList_store_mid rfl 70 (.tmp 5) (.tmp 14) rfl w1.heap.size 0 TD.toArray rfl rfl HTT.out (by simpa using HTL.out) (all_oneCell_toArray HT1'.out) ?_; (obtain ⟨W2, hW2, hq⟩ := H2.out); (have H3 : Hid _ := hq); (rw [List.toList_toArray, ← hW2]); (clear hW2 hq H2 HTT)) | fail)
 refine (HBG.out _ _ H1.out.2.2.1 H3.out.2.1 H3.out.2.2).mono ?_
 rintro e w2 ⟨rfl, k2, b2, f2⟩
 have HN : Hid (w.heap.size ≤ w1.heap.size ∧ w.heap.size ≠ w1.heap.size) := H1.out.2.2
 have H4 : Hid (LB w2 w.heap.size 25 D ∧ TS w.heap.size w1.heap.size S h [stB S] w2 ∧ Below w.heap.size w w2) := ⟨f2 _ _ _ HN.out.2 (by decide) H3.out.1, k2, H3.out.2.2.trans b2⟩
 clear k2 b2 f2 H3 H1 HBG HTD HTL HTZ HT1' HZ
 generalize w1.heap.size = t at HN H4 ⊢
 have c11 := H4.out.1.cell 11 (.slice h.ao S.outs.length h.co) (by rw [HE.out]; rfl)
 go_wp2
 clear c11
 go_loopw [19] (fun i wr => ∃ (n : Nat) (cur : List Rec), i = .int .i64 (n : Int) ∧ n ≤ S.outs.length ∧ TS w.heap.size t S h cur wr ∧ cur ++ outL S n (S.outs.drop n) = stB S :: outL S 0 S.outs ∧ cur.length ≤ 1 + 2 * n ∧ LB wr w.heap.size 25 D ∧ Below w.heap.size w wr) (fun i _ => S.outs.length - (intOf i).toNat)
 case atStart => exact ⟨0, _, rfl, Nat.zero_le _, H4.out.2.1, by simp, by simp, H4.out.1, H4.out.2.2⟩
 case round =>
  obtain ⟨n, cur, rfl, hn2, kc, he, hcl, lb, bl⟩ := hrel
  have HR : Hid (TS w.heap.size t S h cur wr ∧ LB wr w.heap.size 25 D ∧ Below w.heap.size w wr) := ⟨kc, lb, bl⟩
  have HEQ : Hid (cur ++ outL S n (S.outs.drop n) = stB S :: outL S 0 S.outs) := he
  clear kc lb bl he H4
  have hol := HLEN.out.1
  by_cases hlt2 : n < S.outs.length
  ·obtain ⟨b, off, d, hau, qw, q3⟩ := HU.out n hlt2
   obtain ⟨o, hoo⟩ : ∃ o, S.outs[n] = o := ⟨_, rfl⟩
   have HDR : Hid (S.outs.drop n = o :: S.outs.drop (n + 1)) := by show _ = _; rw [List.drop_eq_getElem_cons hlt2, hoo]
   rw [hoo] at qw q3
   obtain ⟨q1, q2⟩ := qw _ HR.out.2.2
   have HQ : Hid (o.length ≤ 16384) := q3
   obtain ⟨ad, cd, rfl, _⟩ := q2.shape
   have HQW : Hid _ := qw
   clear q2 q3 hoo qw
   rw [hau]
   go_wp2_with fail
   refine (HT1.out t HN.out.1 _ _ _ HR.out.1 (by omega)).mono ?_
   rintro e w3 ⟨rfl, k3, b3, f3⟩
   have H6 : Hid (LB w3 w.heap.size 25 D ∧ TS w.heap.size t S h (cur ++ [stR S 2 (n : Int) 1 0 0 []]) w3 ∧ Below w.heap.size w w3) := ⟨f3 _ _ _ HN.out.2 (by decide) HR.out.2.1, k3, HR.out.2.2.trans b3⟩
   have H7 : Hid (Bs w3 (.slice ad o.length cd) o ∧ o.length ≤ 16384) := ⟨(HQW.out _ H6.out.2.2).2, HQ.out⟩
   clear k3 b3 f3 q1
   go_wp2_with fail
   refine (HT2.out t HN.out.1 _ _ o _ _ H6.out.2.1 (by simp; omega) H7.out.1 H7.out.2).mono ?_
   rintro e w4 ⟨rfl, k4, b4, f4⟩
   have H8 : Hid (LB w4 w.heap.size 25 D ∧ TS w.heap.size t S h (cur ++ [stR S 2 (n : Int) 1 0 0 []] ++ [stR S 3 (n : Int) 0 0 0 o]) w4 ∧ Below w.heap.size w w4) := ⟨f4 _ _ _ HN.out.2 (by decide) H6.out.1, k4, H6.out.2.2.trans b4⟩
   clear k4 b4 f4 H6 H7
   go_wp2
   go_roundw
   case rel => exact ⟨n + 1, _, by go_num, by omega, H8.out.2.1, by rw [← HEQ.out, HDR.out]; simp [outL], by simp; omega, H8.out.1, H8.out.2.2⟩
   case measure => simp [intOf]; omega
  ·obtain rfl : n = S.outs.length := by omega
   have hfin : cur = stB S :: outL S 0 S.outs := by
    have := HEQ.out
    rw [List.drop_length] at this
    simpa [outL] using this
   subst hfin
   clear HEQ HU HT1 HT2
   go_wp2_with (first | (refine wpList_load_mid rfl 25 _ rfl w.heap.size 0 rfl D _ HR.out.2.1.range Tryz.underlying25 rfl HL.out ?_) | fail)
   refine (HFW.out _).mono ?_
   rintro e x1 ⟨rfl, b1⟩
   have H1 : Hid (TS w.heap.size t S h (stB S :: outL S 0 S.outs) x1 ∧ LB x1 w.heap.size 25 D ∧ Below w.heap.size w x1) := ⟨HR.out.1.kept b1, HR.out.2.1.kept b1, andThen HR.out.2.2 b1⟩
   clear b1 HR HFW
   cases hf : S.x.fwd with
   | true =>
    go_wp2_with fail
    refine (HTR.out t _ _ HN.out.1 H1.out.1 (by simp only [List.length_cons, outL_lenC]; have := HLEN.out.2.1; omega)).mono ?_
    rintro e x3 ⟨rfl, k3, b3, f3⟩
    have H3 : Hid (TS w.heap.size t S h ((stB S :: outL S 0 S.outs) ++ trL S (trK S) S.x.turn 0 S.x.tr.toNat) x3 ∧ LB x3 w.heap.size 25 D ∧ Below w.heap.size w x3) := ⟨k3, f3 _ _ _ HN.out.2 (by decide) H1.out.2.1, H1.out.2.2.trans b3⟩
    clear k3 b3 f3 H1
    go_wp2_with (first | (refine wpList_load_mid rfl 25 _ rfl w.heap.size 0 rfl D _ H3.out.2.1.range Tryz.underlying25 rfl HL.out ?_) | fail)
    refine (HEN.out _).mono ?_
    rintro e x4 ⟨rfl, b4⟩
    have H4 : Hid (TS w.heap.size t S h ((stB S :: outL S 0 S.outs) ++ trL S (trK S) S.x.turn 0 S.x.tr.toNat) x4 ∧ LB x4 w.heap.size 25 D ∧ Below w.heap.size w x4) := ⟨H3.out.1.kept b4, H3.out.2.1.kept b4, andThen H3.out.2.2 b4⟩
    clear b4 H3
    cases he : S.x.ended with
    | false =>
     have hff : failL S = [] := by unfold failL; rw [if_pos hf]
     have hee : endL S = [] := by unfold endL; rw [if_neg (by simp [he])]
     obtain ⟨v9, ps9, l9, o9, e9⟩ := H4.out.1
     obtain ⟨a9, n9, p9, rfl⟩ : ∃ a n c, v9 = .slice a n c := by rcases o9.1.2 with ⟨e, _⟩ | ⟨_, _, _, e, _⟩ <;> exact ⟨_, _, _, e⟩
     have c16 := l9.cell 16 (.slice a9 n9 p9) rfl
     have HO9 : Hid (OutT w.heap.size _ (.slice a9 n9 p9) ps9 ∧ ps9.map Prod.fst = storyP S) := ⟨o9, e9.trans (by rw [storyP, storyT, hff, hee]; simp)⟩
     clear l9 o9 e9
     go_wp2
     go_ret2
     exact ⟨_, ps9, rfl, HO9.out.1, HO9.out.2, H4.out.2.2⟩
    | true =>
     have hff : failL S = [] := by unfold failL; rw [if_pos hf]
     have hee : endL S = [stR S 7 0 0 0 S.x.outcome []] := by unfold endL; rw [if_pos he]
     go_wp2_with (first | (refine wpList_load_mid rfl 25 _ rfl w.heap.size 0 rfl D _ H4.out.2.1.range Tryz.underlying25 rfl HL.out ?_) | fail)
     refine (HOC.out _).mono ?_
     rintro e x5 ⟨rfl, b5⟩
     have H5 : Hid (TS w.heap.size t S h ((stB S :: outL S 0 S.outs) ++ trL S (trK S) S.x.turn 0 S.x.tr.toNat) x5 ∧ LB x5 w.heap.size 25 D ∧ Below w.heap.size w x5) := ⟨H4.out.1.kept b5, H4.out.2.1.kept b5, andThen H4.out.2.2 b5⟩
     clear b5 H4
     go_wp2_with fail
     refine (HT3.out t HN.out.1 _ _ _ H5.out.1 (by simp only [List.length_append, List.length_cons, outL_lenC]; have := HLEN.out.2; omega)).mono ?_
     rintro e x6 ⟨rfl, k6, b6, f6⟩
     have H6 : Hid (TS w.heap.size t S h (((stB S :: outL S 0 S.outs) ++ trL S (trK S) S.x.turn 0 S.x.tr.toNat) ++ [stR S 7 0 0 0 S.x.outcome []]) x6 ∧ LB x6 w.heap.size 25 D ∧ Below w.heap.size w x6) := ⟨k6, f6 _ _ _ HN.out.2 (by decide) H5.out.2.1, H5.out.2.2.trans b6⟩
     clear k6 b6 f6 H5
     obtain ⟨v9, ps9, l9, o9, e9⟩ := H6.out.1
     obtain ⟨a9, n9, p9, rfl⟩ : ∃ a n c, v9 = .slice a n c := by rcases o9.1.2 with ⟨e, _⟩ | ⟨_, _, _, e, _⟩ <;> exact ⟨_, _, _, e⟩
     have c16 := l9.cell 16 (.slice a9 n9 p9) rfl
     have HO9 : Hid (OutT w.heap.size _ (.slice a9 n9 p9) ps9 ∧ ps9.map Prod.fst = storyP S) := ⟨o9, e9.trans (by rw [storyP, storyT, hff, hee]; simp)⟩
     clear l9 o9 e9
     go_wp2
     go_ret2
     exact ⟨_, ps9, rfl, HO9.out.1, HO9.out.2, H6.out.2.2⟩
   | false =>
    go_wp2_with fail
    refine (HTF.out t _ _ HN.out.1 H1.out.1 H1.out.2.2 hf (by simp only [List.length_cons, outL_lenC]; omega)).mono ?_
    rintro e x2 ⟨rfl, k2, b2, f2⟩
    have H2 : Hid (TS w.heap.size t S h ((stB S :: outL S 0 S.outs) ++ failL S) x2 ∧ LB x2 w.heap.size 25 D ∧ Below w.heap.size w x2) := ⟨k2, f2 _ _ _ HN.out.2 (by decide) H1.out.2.1, H1.out.2.2.trans b2⟩
    clear k2 b2 f2 H1
    go_wp2_with fail
    refine (HTR.out t _ _ HN.out.1 H2.out.1 (by simp only [List.length_append, List.length_cons, outL_lenC]; have := HLEN.out.2.1; omega)).mono ?_
    rintro e x3 ⟨rfl, k3, b3, f3⟩
    have H3 : Hid (TS w.heap.size t S h (((stB S :: outL S 0 S.outs) ++ failL S) ++ trL S (trK S) S.x.turn 0 S.x.tr.toNat) x3 ∧ LB x3 w.heap.size 25 D ∧ Below w.heap.size w x3) := ⟨k3, f3 _ _ _ HN.out.2 (by decide) H2.out.2.1, H2.out.2.2.trans b3⟩
    clear k3 b3 f3 H2
    go_wp2_with (first | (refine wpList_load_mid rfl 25 _ rfl w.heap.size 0 rfl D _ H3.out.2.1.range Tryz.underlying25 rfl HL.out ?_) | fail)
    refine (HEN.out _).mono ?_
    rintro e x4 ⟨rfl, b4⟩
    have H4 : Hid (TS w.heap.size t S h (((stB S :: outL S 0 S.outs) ++ failL S) ++ trL S (trK S) S.x.turn 0 S.x.tr.toNat) x4 ∧ LB x4 w.heap.size 25 D ∧ Below w.heap.size w x4) := ⟨H3.out.1.kept b4, H3.out.2.1.kept b4, andThen H3.out.2.2 b4⟩
    clear b4 H3
    cases he : S.x.ended with
    | false =>
     have hee : endL S = [] := by unfold endL; rw [if_neg (by simp [he])]
     obtain ⟨v9, ps9, l9, o9, e9⟩ := H4.out.1
     obtain ⟨a9, n9, p9, rfl⟩ : ∃ a n c, v9 = .slice a n c := by rcases o9.1.2 with ⟨e, _⟩ | ⟨_, _, _, e, _⟩ <;> exact ⟨_, _, _, e⟩
     have c16 := l9.cell 16 (.slice a9 n9 p9) rfl
     have HO9 : Hid (OutT w.heap.size _ (.slice a9 n9 p9) ps9 ∧ ps9.map Prod.fst = storyP S) := ⟨o9, e9.trans (by rw [storyP, storyT, hee]; simp)⟩
     clear l9 o9 e9
     go_wp2
     go_ret2
     exact ⟨_, ps9, rfl, HO9.out.1, HO9.out.2, H4.out.2.2⟩
    | true =>
     have hee : endL S = [stR S 7 0 0 0 S.x.outcome []] := by unfold endL; rw [if_pos he]
     go_wp2_with (first | (refine wpList_load_mid rfl 25 _ rfl w.heap.size 0 rfl D _ H4.out.2.1.range Tryz.underlying25 rfl HL.out ?_) | fail)
     refine (HOC.out _).mono ?_
     rintro e x5 ⟨rfl, b5⟩
     have H5 : Hid (TS w.heap.size t S h (((stB S :: outL S 0 S.outs) ++ failL S) ++ trL S (trK S) S.x.turn 0 S.x.tr.toNat) x5 ∧ LB x5 w.heap.size 25 D ∧ Below w.heap.size w x5) := ⟨H4.out.1.kept b5, H4.out.2.1.kept b5, andThen H4.out.2.2 b5⟩
     clear b5 H4
     go_wp2_with fail
     refine (HT3.out t HN.out.1 _ _ _ H5.out.1 (by simp only [List.length_append, List.length_cons, outL_lenC]; have := HLEN.out.2; omega)).mono ?_
     rintro e x6 ⟨rfl, k6, b6, f6⟩
     have H6 : Hid (TS w.heap.size t S h ((((stB S :: outL S 0 S.outs) ++ failL S) ++ trL S (trK S) S.x.turn 0 S.x.tr.toNat) ++ [stR S 7 0 0 0 S.x.outcome []]) x6 ∧ LB x6 w.heap.size 25 D ∧ Below w.heap.size w x6) := ⟨k6, f6 _ _ _ HN.out.2 (by decide) H5.out.2.1, H5.out.2.2.trans b6⟩
     clear k6 b6 f6 H5
     obtain ⟨v9, ps9, l9, o9, e9⟩ := H6.out.1
     obtain ⟨a9, n9, p9, rfl⟩ : ∃ a n c, v9 = .slice a n c := by rcases o9.1.2 with ⟨e, _⟩ | ⟨_, _, _, e, _⟩ <;> exact ⟨_, _, _, e⟩
     have c16 := l9.cell 16 (.slice a9 n9 p9) rfl
     have HO9 : Hid (OutT w.heap.size _ (.slice a9 n9 p9) ps9 ∧ ps9.map Prod.fst = storyP S) := ⟨o9, e9.trans (by rw [storyP, storyT, hee]; simp)⟩
     clear l9 o9 e9
     go_wp2
     go_ret2
     exact ⟨_, ps9, rfl, HO9.out.1, HO9.out.2, H6.out.2.2⟩
theorem rxcheck_any (S : Sg) (h : SH) (w : World) (k : SgAt w S h) (hT : Tabs w) (hF : Fits S) : Calls Tryz.prog 77 #[sv S h] w fun e w' => e = .returned (.int .i64 (ckE (chkS S))) ∧ Below w.heap.size w w' := by
 cases hc : chkS S with
 | true => exact rxcheck_ok S h w k hT hF.nm hc hF.fc
 | false => exact rxcheck_bad S h w k hT hF hc
theorem rxapply_bad (S : Sg) (h : SH) (r : Rec) (d : Value) (w : World) (k : SgAt w S h) (hT : Tabs w) (hF : Fits S) (hc : chkS S = false) : Calls Tryz.prog 56 #[sv S h, rv r.x r.nm d] w fun e w' => AxPost w (applyP S r) e w' := by
 have hA : applyP S r = (100, zSg) := by unfold applyP; rw [if_pos hc]
 rw [hA]
 have HCK0 : ∀ w', Below w.heap.size w w' → Calls Tryz.prog 77 #[sv S h] w' fun e w'' => e = .returned (.int .i64 100) ∧ Below w'.heap.size w' w'' := fun w' hb' => rxcheck_bad S h w' (k.kept hb') (hT.kept hb') hF hc
 obtain ⟨Z, hZ⟩ : ∃ Z, Z = zcl := ⟨_, rfl⟩
 have HZ : Hid (Z = zcl) := hZ
 have HZL : Hid (Z.length = 16) := by show _ = _; rw [hZ]; rfl
 have HZI : Hid ((Tryz.prog.info? 25).map (·.size) = some Z.length) := by show _ = _; rw [hZ]; exact infoSaga
 have HZ1 : Hid (∀ v ∈ Z, v.oneCell' = true) := by show ∀ v ∈ Z, _; rw [hZ]; exact scl_one zSg ⟨none, 0, none, 0, none, 0, none, 0⟩
 obtain ⟨D, hD, hL, hE⟩ := sv_letter S h
 obtain ⟨E, hD2, hL2, hE2⟩ := rv_letter r.x r.nm d
 rw [hD] at HCK0
 rw [hD, hD2]
 have HCK : Hid _ := HCK0
 have HL : Hid _ := hL
 have HX : Hid (LB (((w.alloc (.cells D.toArray 25)).alloc (.cells E.toArray 37)).alloc (.cells Z.toArray 25)) w.heap.size 25 D ∧ LB (((w.alloc (.cells D.toArray 25)).alloc (.cells E.toArray 37)).alloc (.cells Z.toArray 25)) (w.heap.size + 1) 37 E ∧ LB (((w.alloc (.cells D.toArray 25)).alloc (.cells E.toArray 37)).alloc (.cells Z.toArray 25)) (w.heap.size + 2) 25 Z ∧ Below w.heap.size w (((w.alloc (.cells D.toArray 25)).alloc (.cells E.toArray 37)).alloc (.cells Z.toArray 25))) := lb_new3 w D E Z _ _ _
 clear hD hL hE hD2 hL2 hE2 HCK0 hZ hT hc k hF hA
 go_enter Tryz.func56, Tryz.ntmps56
 go_wp2_with (first | (refine wpList_alloc_Z HZ.out rfl rfl ?_; (try simp only [heap_one])) | (refine wpList_load_mid rfl 25 _ rfl w.heap.size 0 rfl D _ HX.out.1.range Tryz.underlying25 rfl HL.out ?_) | fail)
 refine (HCK.out _ HX.out.2.2.2).mono ?_
 rintro e w1 ⟨rfl, b1⟩
 have H1 : Hid (LB w1 w.heap.size 25 D ∧ LB w1 (w.heap.size + 1) 37 E ∧ LB w1 (w.heap.size + 2) 25 Z ∧ Below w.heap.size w w1) := ⟨HX.out.1.kept b1, HX.out.2.1.kept b1, HX.out.2.2.1.kept b1, andThen HX.out.2.2.2 b1⟩
 clear b1 HX HCK
 have HT4 : Hid (w1.there (w.heap.size + 2) 0 Z.toArray.size) := there_of H1.out.2.2.1 (by simp)
 go_wp2_with (first | (refine wpList_build_Z HZ.out rfl rfl ?_) | (refine wpList_store_mid rfl 25 (.tmp 4) (.tmp 11) rfl (w.heap.size + 2) 0 Z.toArray rfl rfl HT4.out (by simpa using HZI.out) (all_oneCell_toArray HZ1.out) ?_; (rw [List.toList_toArray])) | fail)
 have HR9 : Hid ((w1.setCells (w.heap.size + 2) 0 Z).rangeAt (w.heap.size + 2) 0 Z) := (H1.out.2.2.1.sets Z rfl).range
 refine bodyPost_ret (results_cell_slot (p := 4) (s := 5) (ty := 25) rfl _ (w1.setCells (w.heap.size + 2) 0 Z) (w.heap.size + 2) Z _ rfl HR9.out Tryz.underlying25 rfl HZI.out) rfl ?_
 exact ⟨⟨none, 0, none, 0, none, 0, none, 0⟩, by rw [HZ.out]; rfl, sgown_zero _ _, below_cells (by omega) _ 0 _ H1.out.2.2.2⟩

theorem rxapply_all (S : Sg) (h : SH) (r : Rec) (d : Value) (w : World) (k : SgAt w S h) (hb : Bs w d r.l) (hT : Tabs w) (hF : Fits S) (hnm : r.nm.size ≤ 1048576) (hf : r.x.fit) : Calls Tryz.prog 56 #[sv S h, rv r.x r.nm d] w fun e w' => AxPost w (applyP S r) e w' := by
 cases hc : chkS S with
 | true => exact rxapply_any S h r d w k hb hT hc hF.fc hF.nm hnm hf
 | false => exact rxapply_bad S h r d w k hT hF hc
theorem rxstory_ok (S : Sg) (h : SH) (w : World) (k : SgAt w S h) (hT : Tabs w) (hF : Fits S) (hc : chkS S = true) : Calls Tryz.prog 58 #[sv S h] w fun e w' => ∃ v ps, e = .returned (.tuple #[v, .int .i64 0]) ∧ OutT w.heap.size w' v ps ∧ ps.map Prod.fst = storyP S ∧ Below w.heap.size w w' := by
 have HCK0 : ∀ w', Below w.heap.size w w' → Calls Tryz.prog 77 #[sv S h] w' fun e w'' => e = .returned (.int .i64 0) ∧ Below w'.heap.size w' w'' := fun w' hb' => rxcheck_ok S h w' (k.kept hb') (hT.kept hb') hF.nm hc hF.fc
 have HTO0 : ∀ w', Below w.heap.size w w' → Calls Tryz.prog 83 #[sv S h] w' fun e w'' => ∃ v ps, e = .returned v ∧ OutT w'.heap.size w'' v ps ∧ ps.map Prod.fst = storyP S ∧ Below w'.heap.size w' w'' := fun w' hb => rxtold_any S h w' (k.kept hb) hc
 obtain ⟨D, hD, hL, hE⟩ := sv_letter S h
 rw [hD] at HCK0 HTO0 ⊢
 have HCK : Hid _ := HCK0
 have HTO : Hid _ := HTO0
 have HL : Hid _ := hL
 have HX : Hid (LB (w.alloc (.cells D.toArray 25)) w.heap.size 25 D ∧ Below w.heap.size w (w.alloc (.cells D.toArray 25))) := ⟨lb_new w D _, up0 _ _⟩
 clear hD hL hE HCK0 HTO0 k hT hF hc
 go_enter Tryz.func58, Tryz.ntmps58
 go_wp2_with (first | (refine wpList_load_mid rfl 25 _ rfl w.heap.size 0 rfl D _ HX.out.1.range Tryz.underlying25 rfl HL.out ?_) | fail)
 refine (HCK.out _ HX.out.2).mono ?_
 rintro e w1 ⟨rfl, b1⟩
 have H1 : Hid (LB w1 w.heap.size 25 D ∧ Below w.heap.size w w1) := ⟨HX.out.1.kept b1, andThen HX.out.2 b1⟩
 clear b1 HX HCK
 go_wp2_with (first | (refine wpList_load_mid rfl 25 _ rfl w.heap.size 0 rfl D _ H1.out.1.range Tryz.underlying25 rfl HL.out ?_) | fail)
 refine (HTO.out _ H1.out.2).mono ?_
 rintro e w2 ⟨v2, ps, rfl, o2, m2, b2⟩
 have H2 : Hid (OutT w.heap.size w2 v2 ps ∧ ps.map Prod.fst = storyP S ∧ Below w.heap.size w w2) := ⟨o2.weak H1.out.2.size, m2, andThen H1.out.2 b2⟩
 clear o2 m2 b2 H1 HTO
 go_wp2
 go_ret2
 exact ⟨v2, ps, rfl, H2.out⟩
theorem rxstory_bad (S : Sg) (h : SH) (w : World) (k : SgAt w S h) (hT : Tabs w) (hF : Fits S) (hc : chkS S = false) : Calls Tryz.prog 58 #[sv S h] w fun e w' => e = .returned (.tuple #[.slice none 0 0, .int .i64 100]) ∧ Below w.heap.size w w' := by
 have HCK0 : ∀ w', Below w.heap.size w w' → Calls Tryz.prog 77 #[sv S h] w' fun e w'' => e = .returned (.int .i64 100) ∧ Below w'.heap.size w' w'' := fun w' hb' => rxcheck_bad S h w' (k.kept hb') (hT.kept hb') hF hc
 obtain ⟨D, hD, hL, hE⟩ := sv_letter S h
 rw [hD] at HCK0 ⊢
 have HCK : Hid _ := HCK0
 have HL : Hid _ := hL
 have HX : Hid (LB (w.alloc (.cells D.toArray 25)) w.heap.size 25 D ∧ Below w.heap.size w (w.alloc (.cells D.toArray 25))) := ⟨lb_new w D _, up0 _ _⟩
 clear hD hL hE HCK0 k hT hF hc
 go_enter Tryz.func58, Tryz.ntmps58
 go_wp2_with (first | (refine wpList_load_mid rfl 25 _ rfl w.heap.size 0 rfl D _ HX.out.1.range Tryz.underlying25 rfl HL.out ?_) | fail)
 refine (HCK.out _ HX.out.2).mono ?_
 rintro e w1 ⟨rfl, b1⟩
 have H1 : Hid (Below w.heap.size w w1) := andThen HX.out.2 b1
 clear b1 HX HCK
 go_wp2
 go_ret2
 exact ⟨rfl, H1.out⟩
theorem asked_chk (S : Sg) (h : SH) (x : Nums) (nm : ByteArray) (d : Value) (w : World) (t : Int) (HF0 : ∀ w', Below w.heap.size w w' → Calls Tryz.prog 29 #[sv S h] w' fun e w'' => e = .returned (.int .i64 t) ∧ Below w'.heap.size w' w'') (HG0 : ∀ w', Below w.heap.size w w' → Calls Tryz.prog 77 #[sv S h] w' fun e w'' => e = .returned (.int .i64 t) ∧ Below w'.heap.size w' w'') : Calls Tryz.prog 57 #[ov 6 S h x nm d] w fun e w' => e = .returned (.bool true) ∧ Below w.heap.size w w' := by
 obtain ⟨D, hD, hL, hE⟩ := sv_letter S h
 obtain ⟨E, hE2⟩ : ∃ E, rcE x nm d = E := ⟨_, rfl⟩
 rw [hD] at HF0 HG0
 unfold ov
 rw [← hE, hE2]
 obtain ⟨L, hLL⟩ : ∃ L, (.int .i64 6 :: (D ++ E) : List Value) = L := ⟨_, rfl⟩
 rw [hLL]
 have HLL : Hid ((.int .i64 6 :: (D ++ E) : List Value) = L) := hLL
 have HL : Hid _ := hL
 have HX : Hid ((w.alloc (.cells L.toArray 59)).rangeAt w.heap.size 0 L ∧ Below w.heap.size w (w.alloc (.cells L.toArray 59))) := boxed w L _
 have HRD : Hid (∀ w' : World, w'.rangeAt w.heap.size 0 L → w'.rangeAt w.heap.size 1 D) := fun w' hr => by rw [← HLL.out] at hr; exact mid_range hr
 have k0 := range_cell HX.out.1 0 (.int .i64 6) (by rw [← HLL.out]; rfl)
 clear hD hL hE hE2 hLL
 have HF : Hid _ := HF0
 have HG : Hid _ := HG0
 clear HF0 HG0
 go_enter Tryz.func57, Tryz.ntmps57
 go_wp2_with (first | (refine wpList_load_mid rfl 25 _ rfl w.heap.size 1 rfl D _ (HRD.out _ HX.out.1) Tryz.underlying25 rfl HL.out ?_) | fail)
 refine (HF.out _ HX.out.2).mono ?_
 rintro e w1 ⟨rfl, b1⟩
 have H1 : Hid (w1.rangeAt w.heap.size 0 L ∧ Below w.heap.size w w1) := ⟨range_kept HX.out.1 b1, andThen HX.out.2 b1⟩
 clear b1 HX HF k0
 go_wp2_with (first | (refine wpList_load_mid rfl 25 _ rfl w.heap.size 1 rfl D _ (HRD.out _ H1.out.1) Tryz.underlying25 rfl HL.out ?_) | fail)
 refine (HG.out _ H1.out.2).mono ?_
 rintro e w2 ⟨rfl, b2⟩
 have B2 := andThen H1.out.2 b2
 clear b2 H1 HG HRD
 have yt : (t == t) = true := by simp
 go_wp2_with fail
 refine (snum_any t _).mono ?_
 rintro e _ ⟨rfl, rfl⟩
 go_wp2
 go_ret
 exact ⟨rfl, B2⟩
theorem asked_any (K : Int) (S : Sg) (h : SH) (x : Nums) (nm : ByteArray) (d : Value) (w : World) (k : SgAt w S h) (hT : Text.TabP 3 .i32 Text.Tx.lets w) (hK : KindsT w) (hR : Tabs w) (hF : Fits S) (hk : K = 3 ∨ K = 4 ∨ K = 5 ∨ K = 6) : Calls Tryz.prog 57 #[ov K S h x nm d] w fun e w' => e = .returned (.bool true) ∧ Below w.heap.size w w' := by
 have hn := hF.nm
 rcases hk with rfl | rfl | rfl | rfl
 ·cases hc : chkS S with
  | true => exact asked_3 S h x nm d w k hT hR hF.nm hc hF.fc
  | false =>
   refine asked_fin S h x nm d w false (fun w' hb => ?_) (fun w' hb => ?_)
   ·have e := finished_any S h w' (k.kept hb) (hT.kept hb) (by omega)
    rw [hc, Bool.false_and] at e
    exact e
   ·exact rxfin_gen S h w' 100 (fun w2 hb2 => rxcheck_bad S h w2 ((k.kept hb).kept hb2) ((hR.kept hb).kept hb2) hF hc)
 ·cases hc : chkS S with
  | true => exact asked_4 S h x nm d w k hT hK hR hF.nm hc hF.fc
  | false =>
   have ha : allowedP S = [] := by unfold allowedP; rw [if_pos (.inl hc)]
   refine asked_all S h x nm d w [] (by simp) (fun w' hb => ?_) (fun w' hb => ?_)
   ·have e := allowed_any S h w' (k.kept hb) (hT.kept hb) (hK.kept hb) (by omega)
    rw [ha] at e
    exact e
   ·exact (rxallow_c S h w' 100 (fun w2 hb2 => rxcheck_bad S h w2 ((k.kept hb).kept hb2) ((hR.kept hb).kept hb2) hF hc) rfl).mono fun e w'' h1 => ⟨_, h1.1, Fld.roI_nil _ _, h1.2⟩
 ·cases hc : chkS S with
  | true => exact asked_5 S h x nm d w k hT hR hF.nm hc hF.fc
  | false =>
   have ha : pendP S = [] := by unfold pendP; rw [if_pos hc]
   refine asked_pend S h x nm d w [] (by simp) (fun w' hb => ?_) (fun w' hb => ?_)
   ·have e := pending_any S h w' (k.kept hb) (hT.kept hb) (by omega)
    rw [ha] at e
    exact e
   ·exact (rxpend_c S h w' 100 (fun w2 hb2 => rxcheck_bad S h w2 ((k.kept hb).kept hb2) ((hR.kept hb).kept hb2) hF hc) rfl).mono fun e w'' h1 => ⟨_, h1.1, Fld.roI_nil _ _, h1.2⟩
 ·exact asked_chk S h x nm d w (ckE (chkS S)) (fun w' hb => scheck_any S h w' (k.kept hb) (hT.kept hb) (by omega)) (fun w' hb => rxcheck_any S h w' (k.kept hb) (hR.kept hb) hF)
theorem range_cells {w : World} {g o : Nat} {p : Rec × Value} (h : w.rangeAt g o (rcl p)) : (w.cell? ⟨g, o, none⟩ = some (.int .i64 p.1.x.v) ∧ w.cell? ⟨g, o + 1, none⟩ = some (.int .i64 p.1.x.k) ∧ w.cell? ⟨g, o + 2, none⟩ = some (.int .i64 p.1.x.s) ∧ w.cell? ⟨g, o + 3, none⟩ = some (.int .i64 p.1.x.p) ∧ w.cell? ⟨g, o + 4, none⟩ = some (.int .i64 p.1.x.t) ∧ w.cell? ⟨g, o + 5, none⟩ = some (.int .i64 p.1.x.a) ∧ w.cell? ⟨g, o + 6, none⟩ = some (.int .i64 p.1.x.l) ∧ w.cell? ⟨g, o + 7, none⟩ = some (.int .i64 p.1.x.c) ∧ w.cell? ⟨g, o + 8, none⟩ = some (.int .i64 p.1.x.n) ∧ w.cell? ⟨g, o + 9, none⟩ = some (.int .i64 p.1.x.i) ∧ w.cell? ⟨g, o + 10, none⟩ = some (.string p.1.nm) ∧ w.cell? ⟨g, o + 11, none⟩ = some (p.2)) := ⟨h 0 _ rfl, h 1 _ rfl, h 2 _ rfl, h 3 _ rfl, h 4 _ rfl, h 5 _ rfl, h 6 _ rfl, h 7 _ rfl, h 8 _ rfl, h 9 _ rfl, h 10 _ rfl, h 11 _ rfl⟩
theorem sameAll3_ok (va vb : Value) (rs : List Rec) (w : World) (ha : RecsAt w va rs) (hb : RecsAt w vb rs) :
  Calls Tryz.prog 11 #[va, vb] w fun e w' => e = .returned (.bool true) ∧ Below w.heap.size w w' := by
 have HRA : Hid (∀ w', Below w.heap.size w w' → RecsAt w' va rs) := fun w' hb => ha.kept hb
 have HRB : Hid (∀ w', Below w.heap.size w w' → RecsAt w' vb rs) := fun w' hb' => hb.kept hb'
 obtain ⟨aoa, capa, rfl, hma, _⟩ := ha
 obtain ⟨aob, capb, rfl, hmb, _⟩ := hb
 unfold maxLen at hma hmb
 have d0 : ((rs.length : Int) != (rs.length : Int)) = false := by simp
 go_enter Tryz.func11, Tryz.ntmps11
 go_wp2
 go_loopw [5] (fun i wr => ∃ k : Nat, k ≤ rs.length ∧ i = .int .i64 k ∧ Below w.heap.size w wr) (fun i _ => rs.length - (intOf i).toNat)
 case atStart => exact ⟨0, Nat.zero_le _, rfl, Below.refl _ _⟩
 case round =>
  obtain ⟨k, hk, rfl, hbel⟩ := hrel
  by_cases hlt : k < rs.length
  ·obtain ⟨r, hr⟩ : ∃ r, rs[k]? = some r := ⟨rs[k], List.getElem?_eq_getElem hlt⟩
   obtain ⟨ao', cap', e', _, hcr⟩ := HRA.out _ (Below.refl _ _)
   simp only [Value.slice.injEq] at e'
   obtain ⟨rfl, _, rfl⟩ := e'
   obtain ⟨b1, off1, d1, rfl, hrg1, hbs1⟩ := hcr k r hr
   obtain ⟨ao', cap', e', _, hcr2⟩ := HRB.out _ (Below.refl _ _)
   simp only [Value.slice.injEq] at e'
   obtain ⟨rfl, _, rfl⟩ := e'
   obtain ⟨b2, off2, d2, rfl, hrg2, hbs2⟩ := hcr2 k r hr
   obtain ⟨a1, p1, rfl, _⟩ := hbs1.shape
   obtain ⟨a2, p2, rfl, _⟩ := hbs2.shape
   have HB : Hid (∀ w', Below w.heap.size w w' → (w'.cell? ⟨b1, off1 + k * 12, none⟩ = some (.int .i64 r.x.v) ∧ w'.cell? ⟨b1, off1 + k * 12 + 1, none⟩ = some (.int .i64 r.x.k) ∧ w'.cell? ⟨b1, off1 + k * 12 + 2, none⟩ = some (.int .i64 r.x.s) ∧ w'.cell? ⟨b1, off1 + k * 12 + 3, none⟩ = some (.int .i64 r.x.p) ∧ w'.cell? ⟨b1, off1 + k * 12 + 4, none⟩ = some (.int .i64 r.x.t) ∧ w'.cell? ⟨b1, off1 + k * 12 + 5, none⟩ = some (.int .i64 r.x.a) ∧ w'.cell? ⟨b1, off1 + k * 12 + 6, none⟩ = some (.int .i64 r.x.l) ∧ w'.cell? ⟨b1, off1 + k * 12 + 7, none⟩ = some (.int .i64 r.x.c) ∧ w'.cell? ⟨b1, off1 + k * 12 + 8, none⟩ = some (.int .i64 r.x.n) ∧ w'.cell? ⟨b1, off1 + k * 12 + 9, none⟩ = some (.int .i64 r.x.i) ∧ w'.cell? ⟨b1, off1 + k * 12 + 10, none⟩ = some (.string r.nm) ∧ w'.cell? ⟨b1, off1 + k * 12 + 11, none⟩ = some (.slice a1 r.l.length p1)) ∧ (w'.cell? ⟨b2, off2 + k * 12, none⟩ = some (.int .i64 r.x.v) ∧ w'.cell? ⟨b2, off2 + k * 12 + 1, none⟩ = some (.int .i64 r.x.k) ∧ w'.cell? ⟨b2, off2 + k * 12 + 2, none⟩ = some (.int .i64 r.x.s) ∧ w'.cell? ⟨b2, off2 + k * 12 + 3, none⟩ = some (.int .i64 r.x.p) ∧ w'.cell? ⟨b2, off2 + k * 12 + 4, none⟩ = some (.int .i64 r.x.t) ∧ w'.cell? ⟨b2, off2 + k * 12 + 5, none⟩ = some (.int .i64 r.x.a) ∧ w'.cell? ⟨b2, off2 + k * 12 + 6, none⟩ = some (.int .i64 r.x.l) ∧ w'.cell? ⟨b2, off2 + k * 12 + 7, none⟩ = some (.int .i64 r.x.c) ∧ w'.cell? ⟨b2, off2 + k * 12 + 8, none⟩ = some (.int .i64 r.x.n) ∧ w'.cell? ⟨b2, off2 + k * 12 + 9, none⟩ = some (.int .i64 r.x.i) ∧ w'.cell? ⟨b2, off2 + k * 12 + 10, none⟩ = some (.string r.nm) ∧ w'.cell? ⟨b2, off2 + k * 12 + 11, none⟩ = some (.slice a2 r.l.length p2))) := fun w' hb => ⟨range_cells (Lft.rng_alloc hrg1 hb), range_cells (Lft.rng_alloc hrg2 hb)⟩
   have HSA : Hid (∀ w', Below w.heap.size w w' → Calls Tryz.prog 26 #[.agg #[.int .i64 r.x.v, .int .i64 r.x.k, .int .i64 r.x.s, .int .i64 r.x.p, .int .i64 r.x.t, .int .i64 r.x.a, .int .i64 r.x.l, .int .i64 r.x.c, .int .i64 r.x.n, .int .i64 r.x.i, .string r.nm, .slice a1 r.l.length p1], .agg #[.int .i64 r.x.v, .int .i64 r.x.k, .int .i64 r.x.s, .int .i64 r.x.p, .int .i64 r.x.t, .int .i64 r.x.a, .int .i64 r.x.l, .int .i64 r.x.c, .int .i64 r.x.n, .int .i64 r.x.i, .string r.nm, .slice a2 r.l.length p2]] w' fun e w'' => e = .returned (.bool true) ∧ Below w'.heap.size w' w'') := fun w' hb => (refsame_any r.x r.x r.nm r.nm _ _ r.l r.l w' (hbs1.kept hb) (hbs2.kept hb)).mono fun e w'' ⟨he, hk'⟩ => ⟨by rw [he, recEq_self], hk'⟩
   have HQ := HB.out wr hbel
   clear hcr hcr2 hrg1 hrg2 hbs1 hbs2 HRA HRB hr
   go_wp2
   go_region_held (fun w' => (w'.cell? ⟨b1, off1 + k * 12, none⟩ = some (.int .i64 r.x.v) ∧ w'.cell? ⟨b1, off1 + k * 12 + 1, none⟩ = some (.int .i64 r.x.k) ∧ w'.cell? ⟨b1, off1 + k * 12 + 2, none⟩ = some (.int .i64 r.x.s) ∧ w'.cell? ⟨b1, off1 + k * 12 + 3, none⟩ = some (.int .i64 r.x.p) ∧ w'.cell? ⟨b1, off1 + k * 12 + 4, none⟩ = some (.int .i64 r.x.t) ∧ w'.cell? ⟨b1, off1 + k * 12 + 5, none⟩ = some (.int .i64 r.x.a) ∧ w'.cell? ⟨b1, off1 + k * 12 + 6, none⟩ = some (.int .i64 r.x.l) ∧ w'.cell? ⟨b1, off1 + k * 12 + 7, none⟩ = some (.int .i64 r.x.c) ∧ w'.cell? ⟨b1, off1 + k * 12 + 8, none⟩ = some (.int .i64 r.x.n) ∧ w'.cell? ⟨b1, off1 + k * 12 + 9, none⟩ = some (.int .i64 r.x.i) ∧ w'.cell? ⟨b1, off1 + k * 12 + 10, none⟩ = some (.string r.nm) ∧ w'.cell? ⟨b1, off1 + k * 12 + 11, none⟩ = some (.slice a1 r.l.length p1)) ∧ (w'.cell? ⟨b2, off2 + k * 12, none⟩ = some (.int .i64 r.x.v) ∧ w'.cell? ⟨b2, off2 + k * 12 + 1, none⟩ = some (.int .i64 r.x.k) ∧ w'.cell? ⟨b2, off2 + k * 12 + 2, none⟩ = some (.int .i64 r.x.s) ∧ w'.cell? ⟨b2, off2 + k * 12 + 3, none⟩ = some (.int .i64 r.x.p) ∧ w'.cell? ⟨b2, off2 + k * 12 + 4, none⟩ = some (.int .i64 r.x.t) ∧ w'.cell? ⟨b2, off2 + k * 12 + 5, none⟩ = some (.int .i64 r.x.a) ∧ w'.cell? ⟨b2, off2 + k * 12 + 6, none⟩ = some (.int .i64 r.x.l) ∧ w'.cell? ⟨b2, off2 + k * 12 + 7, none⟩ = some (.int .i64 r.x.c) ∧ w'.cell? ⟨b2, off2 + k * 12 + 8, none⟩ = some (.int .i64 r.x.n) ∧ w'.cell? ⟨b2, off2 + k * 12 + 9, none⟩ = some (.int .i64 r.x.i) ∧ w'.cell? ⟨b2, off2 + k * 12 + 10, none⟩ = some (.string r.nm) ∧ w'.cell? ⟨b2, off2 + k * 12 + 11, none⟩ = some (.slice a2 r.l.length p2))) (first | go_keep | (exact HB.out _ (andThen (Below.drew hbel) hb')))
    (first | (go_at_call 26; refine (HSA.out _ (Below.drew hbel)).mono ?_; rintro e w' ⟨rfl, hb'⟩))
   have hb2 : Below w.heap.size w w' := andThen (Below.drew hbel) hb'
   clear hb' hbel HB HSA HQ
   go_wp2
   go_roundw
   case rel => exact ⟨k + 1, by omega, by go_num, hb2⟩
   case measure => simp [intOf]; omega
  ·go_wp2
   go_ret
   exact ⟨rfl, hbel⟩
theorem OutT.recsAt {B : Nat} {w : World} {v : Value} {ps : List (Rec × Value)} (h : OutT B w v ps) (hl : ps.length ≤ maxLen) : RecsAt w v (ps.map Prod.fst) := by
 obtain ⟨ao, cap, e, hk⟩ := h.at
 refine ⟨ao, cap, by rw [List.length_map]; exact e, by rw [List.length_map]; exact hl, fun k r hr => ?_⟩
 rw [List.getElem?_map] at hr
 have hkl : k < ps.length := by
  by_cases hlt : k < ps.length
  ·exact hlt
  ·rw [List.getElem?_eq_none (by omega)] at hr
   cases hr
 rw [List.getElem?_eq_getElem hkl] at hr
 obtain rfl := Option.some.inj hr
 obtain ⟨g, rfl, q1, q2⟩ := hk k hkl
 exact ⟨g, 0, ps[k].2, rfl, by rw [Nat.zero_add]; exact q1, q2⟩
theorem end_range {w : World} {g : Nat} {K : Value} {D E : List Value} (h : w.rangeAt g 0 (K :: (D ++ E))) (hl : D.length = 16) : w.rangeAt g 17 E := fun i v hv => by
 have e := h (i + 17) v (by rw [List.getElem?_cons_succ, List.getElem?_append_right (by omega), hl, show i + 16 - 16 = i by omega]; exact hv)
 rw [Nat.zero_add, Nat.add_comm i 17] at e
 exact e
theorem own_o {B : Nat} {w : World} {S : Sg} {h : SH} (k : SgOwn B w S h) : SgO B w S h := ⟨k.inp, k.outs, k.und, k.fail⟩
def Mkd (z : Int) (S : Sg) (w : World) (e : Ending) (w' : World) : Prop := ∃ h', e = .returned (.tuple #[sv S h', .int .i64 z]) ∧ SgO 0 w' S h' ∧ Below w.heap.size w w'
theorem fits_light {S : Sg} (h : Fits S) : Light S := ⟨by have := h.inp; omega, by have := h.fail; omega, by have := h.outsN; omega, by have := h.undN; omega, fun l hl => by have := h.outs l hl; omega, fun l hl => by have := h.und l hl; omega⟩
theorem story_recs {B : Nat} {w : World} {v : Value} {ps : List (Rec × Value)} {S : Sg} (h : OutT B w v ps) (hm : ps.map Prod.fst = storyP S) (hc : chkS S = true) : RecsAt w v (storyP S) := by
 have h1 := story_len S hc
 have h2 : ps.length = (storyP S).length := by rw [← hm, List.length_map]
 have h3 := h.recsAt (by unfold maxLen; omega)
 rw [hm] at h3
 exact h3
theorem answered_1 (S : Sg) (h : SH) (r : Rec) (d : Value) (w : World) (hb : Bs w d r.l) (hT : STabs w) (hR : Tabs w) (hnm : r.nm.size ≤ 1048576) (hf : r.x.fit) : Calls Tryz.prog 27 #[ov 1 S h r.x r.nm d] w fun e w' => e = .returned (.bool true) ∧ Below w.heap.size w w' := by
 have HA0 : ∀ w', Below w.heap.size w w' → Calls Tryz.prog 18 #[rv r.x r.nm d] w' fun e w'' => Mkd (beginP r).1 (beginP r).2 w' e w'' := fun w' hb' => (begin_any r d w' (hb.kept hb') (hT.kept hb').e (by omega) hf).mono fun e w'' ⟨h', e1, e2, e3⟩ => ⟨h', e1, e2.weak (Nat.zero_le _), e3⟩
 have HB0 : ∀ w', Below w.heap.size w w' → Calls Tryz.prog 55 #[rv r.x r.nm d] w' fun e w'' => Mkd (beginP r).1 (beginP r).2 w' e w'' := fun w' hb' => (rxbegin_any r d w' (hb.kept hb') (hR.kept hb') hnm hf).mono fun e w'' ⟨h', e1, e2, e3⟩ => ⟨h', e1, (own_o e2).weak (Nat.zero_le _), e3⟩
 obtain ⟨z, hz⟩ : ∃ z, (beginP r).1 = z := ⟨_, rfl⟩
 obtain ⟨Q, hQ⟩ : ∃ Q, (beginP r).2 = Q := ⟨_, rfl⟩
 rw [hz, hQ] at HA0 HB0
 clear hz hQ
 obtain ⟨Z, hZ⟩ : ∃ Z, Z = zcl := ⟨_, rfl⟩
 have HZ : Hid (Z = zcl) := hZ
 have HZL : Hid (Z.length = 16) := by show _ = _; rw [hZ]; rfl
 obtain ⟨D, hD, hL, hE⟩ := sv_letter S h
 obtain ⟨E, hD2, hL2, hE2⟩ := rv_letter r.x r.nm d
 have hov : ov 1 S h r.x r.nm d = .agg (.int .i64 1 :: (D ++ E)).toArray := by unfold ov; rw [hE, hE2]
 rw [hov]
 have HL : Hid _ := hL
 have HL2 : Hid _ := hL2
 have hDl : D.length = 16 := by rw [hE]; rfl
 have k0 := (lb_new w (.int .i64 1 :: (D ++ E)) 59).cell 0 (.int .i64 1) rfl
 obtain ⟨L, hLL⟩ : ∃ L, (.int .i64 1 :: (D ++ E) : List Value) = L := ⟨_, rfl⟩
 have HRD : Hid (∀ wx, LB wx w.heap.size 59 L → wx.rangeAt w.heap.size 1 D ∧ wx.rangeAt w.heap.size 17 E) := fun wx l => by
  rw [← hLL] at l
  exact ⟨mid_range l.range, end_range l.range hDl⟩
 rw [hLL] at k0 ⊢
 have HX : Hid (LB (w.alloc (.cells L.toArray 59)) w.heap.size 59 L ∧ Below w.heap.size w (w.alloc (.cells L.toArray 59))) := ⟨lb_new w L _, up0 _ _⟩
 clear hov hLL
 rw [hD2] at HA0 HB0
 have HA : Hid _ := HA0
 have HB : Hid _ := HB0
 clear hD hL hE hD2 hL2 hE2 HA0 HB0 hZ hb hT hR hnm hf hDl
 go_enter Tryz.func27, Tryz.ntmps27
 go_wp2_with (first | (refine wpList_load_mid rfl 25 _ rfl w.heap.size 1 rfl D _ (HRD.out _ HX.out.1).1 Tryz.underlying25 rfl HL.out ?_) | (refine wpList_load_mid rfl 37 _ rfl w.heap.size 17 rfl E _ (HRD.out _ HX.out.1).2 Tryz.underlying37 rfl HL2.out ?_) | fail)
 refine (HA.out _ HX.out.2).mono ?_
 rintro e w1 ⟨h1, rfl, o1, b1⟩
 obtain ⟨T1, hT1, hTL1, hTE1⟩ := sv_letter Q h1
 rw [hT1]
 have TL1 : Hid _ := hTL1
 have TV1 : Hid (sv Q h1 = .agg T1.toArray) := hT1
 have TO1 : Hid (∀ v ∈ T1, v.oneCell' = true) := by show ∀ v ∈ T1, _; rw [hTE1]; exact scl_one _ _
 have TZ1 : Hid (T1.length = Z.length) := by show _ = _; rw [hTE1, HZL.out]; rfl
 have TT1 : Hid ((w1.alloc (.cells Z.toArray 25)).there w1.heap.size 0 T1.toArray.size) := there_of (lb_new w1 Z _) (by simpa using TZ1.out)
 have E1 : Hid (∃ Y, Y = (w1.alloc (.cells Z.toArray 25)).setCells w1.heap.size 0 T1 ∧ LB Y w.heap.size 59 L ∧ LB Y w1.heap.size 25 T1 ∧ SgO 0 Y Q h1 ∧ Below w.heap.size w Y) := by
  obtain ⟨q1, q2⟩ := one_boxR w1 25 Z T1 TZ1.out
  exact ⟨_, rfl, (HX.out.1.kept b1).kept q2, q1, o1.kept q2, andThen (andThen HX.out.2 b1) q2⟩
 clear hT1 hTL1 hTE1 o1 b1 HX HA k0
 go_wp2_with (first | (refine wpList_alloc_Z HZ.out rfl rfl ?_) | (refine wpList_store_mid rfl 25 (.tmp 3) (.tmp 24) rfl w1.heap.size 0 T1.toArray rfl rfl TT1.out (by simpa using TL1.out) (all_oneCell_toArray TO1.out) ?_; (obtain ⟨Y, hY, hq⟩ := E1.out); (have H1 : Hid _ := hq); (rw [List.toList_toArray, ← hY]); (clear hY hq E1 TT1)) | (refine wpList_load_mid rfl 25 _ rfl w.heap.size 1 rfl D _ (HRD.out _ H1.out.1).1 Tryz.underlying25 rfl HL.out ?_) | (refine wpList_load_mid rfl 37 _ rfl w.heap.size 17 rfl E _ (HRD.out _ H1.out.1).2 Tryz.underlying37 rfl HL2.out ?_) | fail)
 generalize w1.heap.size = p1 at *
 refine (HB.out _ H1.out.2.2.2).mono ?_
 rintro e w2 ⟨h2, rfl, o2, b2⟩
 obtain ⟨T2, hT2, hTL2, hTE2⟩ := sv_letter Q h2
 rw [hT2]
 have TL2 : Hid _ := hTL2
 have TV2 : Hid (sv Q h2 = .agg T2.toArray) := hT2
 have TO2 : Hid (∀ v ∈ T2, v.oneCell' = true) := by show ∀ v ∈ T2, _; rw [hTE2]; exact scl_one _ _
 have TZ2 : Hid (T2.length = Z.length) := by show _ = _; rw [hTE2, HZL.out]; rfl
 have TT2 : Hid ((w2.alloc (.cells Z.toArray 25)).there w2.heap.size 0 T2.toArray.size) := there_of (lb_new w2 Z _) (by simpa using TZ2.out)
 have E2 : Hid (∃ Y, Y = (w2.alloc (.cells Z.toArray 25)).setCells w2.heap.size 0 T2 ∧ LB Y p1 25 T1 ∧ SgO 0 Y Q h1 ∧ LB Y w2.heap.size 25 T2 ∧ SgO 0 Y Q h2 ∧ Below w.heap.size w Y) := by
  obtain ⟨q1, q2⟩ := one_boxR w2 25 Z T2 TZ2.out
  exact ⟨_, rfl, (H1.out.2.1.kept b2).kept q2, (H1.out.2.2.1.kept b2).kept q2, q1, o2.kept q2, andThen (andThen H1.out.2.2.2 b2) q2⟩
 have HSM : Hid (∀ w', SgO 0 w' Q h1 → SgO 0 w' Q h2 → Calls Tryz.prog 25 #[.agg T1.toArray, .agg T2.toArray] w' fun e w'' => e = .returned (.bool true) ∧ Below w'.heap.size w' w'') := fun w' q1 q2 => by have e := same_any Q h1 h2 w' q1.at q2.at; rw [TV1.out, TV2.out] at e; exact e
 clear hT2 hTL2 hTE2 o2 b2 H1 HB
 go_wp2_with (first | (refine wpList_alloc_Z HZ.out rfl rfl ?_) | (refine wpList_store_mid rfl 25 (.tmp 5) (.tmp 30) rfl w2.heap.size 0 T2.toArray rfl rfl TT2.out (by simpa using TL2.out) (all_oneCell_toArray TO2.out) ?_; (obtain ⟨Y2, hY2, hq⟩ := E2.out); (have H2 : Hid _ := hq); (rw [List.toList_toArray, ← hY2]); (clear hY2 hq E2 TT2)) | (refine wpList_load_mid rfl 25 _ rfl p1 0 rfl T1 _ H2.out.1.range Tryz.underlying25 rfl TL1.out ?_) | (refine wpList_load_mid rfl 25 _ rfl w2.heap.size 0 rfl T2 _ H2.out.2.2.1.range Tryz.underlying25 rfl TL2.out ?_) | fail)
 refine (HSM.out _ H2.out.2.1 H2.out.2.2.2.1).mono ?_
 rintro e w3 ⟨rfl, b3⟩
 have H3 : Hid (Below w.heap.size w w3) := andThen H2.out.2.2.2.2 b3
 clear b3 H2 HSM
 have yz : (z == z) = true := by simp
 go_wp2_with fail
 refine (snum_any z _).mono ?_
 rintro e _ ⟨rfl, rfl⟩
 go_wp2
 go_ret
 exact ⟨rfl, H3.out⟩
theorem answered_2 (S : Sg) (h : SH) (r : Rec) (d : Value) (w : World) (k : SgAt w S h) (hb : Bs w d r.l) (hT : STabs w) (hR : Tabs w) (hF : Fits S) (hnm : r.nm.size ≤ 1048576) (hf : r.x.fit) : Calls Tryz.prog 27 #[ov 2 S h r.x r.nm d] w fun e w' => e = .returned (.bool true) ∧ Below w.heap.size w w' := by
 have HA0 : ∀ w', Below w.heap.size w w' → Calls Tryz.prog 17 #[sv S h, rv r.x r.nm d] w' fun e w'' => Mkd (applyP S r).1 (applyP S r).2 w' e w'' := fun w' hb' => (apply_any S h r d w' (k.kept hb') (hb.kept hb') (hT.kept hb') (by have := hF.nm; omega) (by omega) hf).mono fun e w'' ⟨h', e1, e2, e3⟩ => ⟨h', e1, e2.weak (Nat.zero_le _), e3⟩
 have HB0 : ∀ w', Below w.heap.size w w' → Calls Tryz.prog 56 #[sv S h, rv r.x r.nm d] w' fun e w'' => Mkd (applyP S r).1 (applyP S r).2 w' e w'' := fun w' hb' => (rxapply_all S h r d w' (k.kept hb') (hb.kept hb') (hR.kept hb') hF hnm hf).mono fun e w'' ⟨h', e1, e2, e3⟩ => ⟨h', e1, (own_o e2).weak (Nat.zero_le _), e3⟩
 obtain ⟨z, hz⟩ : ∃ z, (applyP S r).1 = z := ⟨_, rfl⟩
 obtain ⟨Q, hQ⟩ : ∃ Q, (applyP S r).2 = Q := ⟨_, rfl⟩
 rw [hz, hQ] at HA0 HB0
 clear hz hQ
 obtain ⟨Z, hZ⟩ : ∃ Z, Z = zcl := ⟨_, rfl⟩
 have HZ : Hid (Z = zcl) := hZ
 have HZL : Hid (Z.length = 16) := by show _ = _; rw [hZ]; rfl
 obtain ⟨D, hD, hL, hE⟩ := sv_letter S h
 obtain ⟨E, hD2, hL2, hE2⟩ := rv_letter r.x r.nm d
 have hov : ov 2 S h r.x r.nm d = .agg (.int .i64 2 :: (D ++ E)).toArray := by unfold ov; rw [hE, hE2]
 rw [hov]
 have HL : Hid _ := hL
 have HL2 : Hid _ := hL2
 have hDl : D.length = 16 := by rw [hE]; rfl
 have k0 := (lb_new w (.int .i64 2 :: (D ++ E)) 59).cell 0 (.int .i64 2) rfl
 obtain ⟨L, hLL⟩ : ∃ L, (.int .i64 2 :: (D ++ E) : List Value) = L := ⟨_, rfl⟩
 have HRD : Hid (∀ wx, LB wx w.heap.size 59 L → wx.rangeAt w.heap.size 1 D ∧ wx.rangeAt w.heap.size 17 E) := fun wx l => by
  rw [← hLL] at l
  exact ⟨mid_range l.range, end_range l.range hDl⟩
 rw [hLL] at k0 ⊢
 have HX : Hid (LB (w.alloc (.cells L.toArray 59)) w.heap.size 59 L ∧ Below w.heap.size w (w.alloc (.cells L.toArray 59))) := ⟨lb_new w L _, up0 _ _⟩
 clear hov hLL
 rw [hD, hD2] at HA0 HB0
 have HA : Hid _ := HA0
 have HB : Hid _ := HB0
 clear hD hL hE hD2 hL2 hE2 HA0 HB0 hZ hb hT hR hnm hf hDl k hF
 go_enter Tryz.func27, Tryz.ntmps27
 go_wp2_with (first | (refine wpList_load_mid rfl 25 _ rfl w.heap.size 1 rfl D _ (HRD.out _ HX.out.1).1 Tryz.underlying25 rfl HL.out ?_) | (refine wpList_load_mid rfl 37 _ rfl w.heap.size 17 rfl E _ (HRD.out _ HX.out.1).2 Tryz.underlying37 rfl HL2.out ?_) | fail)
 refine (HA.out _ HX.out.2).mono ?_
 rintro e w1 ⟨h1, rfl, o1, b1⟩
 obtain ⟨T1, hT1, hTL1, hTE1⟩ := sv_letter Q h1
 rw [hT1]
 have TL1 : Hid _ := hTL1
 have TV1 : Hid (sv Q h1 = .agg T1.toArray) := hT1
 have TO1 : Hid (∀ v ∈ T1, v.oneCell' = true) := by show ∀ v ∈ T1, _; rw [hTE1]; exact scl_one _ _
 have TZ1 : Hid (T1.length = Z.length) := by show _ = _; rw [hTE1, HZL.out]; rfl
 have TT1 : Hid ((w1.alloc (.cells Z.toArray 25)).there w1.heap.size 0 T1.toArray.size) := there_of (lb_new w1 Z _) (by simpa using TZ1.out)
 have E1 : Hid (∃ Y, Y = (w1.alloc (.cells Z.toArray 25)).setCells w1.heap.size 0 T1 ∧ LB Y w.heap.size 59 L ∧ LB Y w1.heap.size 25 T1 ∧ SgO 0 Y Q h1 ∧ Below w.heap.size w Y) := by
  obtain ⟨q1, q2⟩ := one_boxR w1 25 Z T1 TZ1.out
  exact ⟨_, rfl, (HX.out.1.kept b1).kept q2, q1, o1.kept q2, andThen (andThen HX.out.2 b1) q2⟩
 clear hT1 hTL1 hTE1 o1 b1 HX HA k0
 go_wp2_with (first | (refine wpList_alloc_Z HZ.out rfl rfl ?_) | (refine wpList_store_mid rfl 25 (.tmp 7) (.tmp 49) rfl w1.heap.size 0 T1.toArray rfl rfl TT1.out (by simpa using TL1.out) (all_oneCell_toArray TO1.out) ?_; (obtain ⟨Y, hY, hq⟩ := E1.out); (have H1 : Hid _ := hq); (rw [List.toList_toArray, ← hY]); (clear hY hq E1 TT1)) | (refine wpList_load_mid rfl 25 _ rfl w.heap.size 1 rfl D _ (HRD.out _ H1.out.1).1 Tryz.underlying25 rfl HL.out ?_) | (refine wpList_load_mid rfl 37 _ rfl w.heap.size 17 rfl E _ (HRD.out _ H1.out.1).2 Tryz.underlying37 rfl HL2.out ?_) | fail)
 generalize w1.heap.size = p1 at *
 refine (HB.out _ H1.out.2.2.2).mono ?_
 rintro e w2 ⟨h2, rfl, o2, b2⟩
 obtain ⟨T2, hT2, hTL2, hTE2⟩ := sv_letter Q h2
 rw [hT2]
 have TL2 : Hid _ := hTL2
 have TV2 : Hid (sv Q h2 = .agg T2.toArray) := hT2
 have TO2 : Hid (∀ v ∈ T2, v.oneCell' = true) := by show ∀ v ∈ T2, _; rw [hTE2]; exact scl_one _ _
 have TZ2 : Hid (T2.length = Z.length) := by show _ = _; rw [hTE2, HZL.out]; rfl
 have TT2 : Hid ((w2.alloc (.cells Z.toArray 25)).there w2.heap.size 0 T2.toArray.size) := there_of (lb_new w2 Z _) (by simpa using TZ2.out)
 have E2 : Hid (∃ Y, Y = (w2.alloc (.cells Z.toArray 25)).setCells w2.heap.size 0 T2 ∧ LB Y p1 25 T1 ∧ SgO 0 Y Q h1 ∧ LB Y w2.heap.size 25 T2 ∧ SgO 0 Y Q h2 ∧ Below w.heap.size w Y) := by
  obtain ⟨q1, q2⟩ := one_boxR w2 25 Z T2 TZ2.out
  exact ⟨_, rfl, (H1.out.2.1.kept b2).kept q2, (H1.out.2.2.1.kept b2).kept q2, q1, o2.kept q2, andThen (andThen H1.out.2.2.2 b2) q2⟩
 have HSM : Hid (∀ w', SgO 0 w' Q h1 → SgO 0 w' Q h2 → Calls Tryz.prog 25 #[.agg T1.toArray, .agg T2.toArray] w' fun e w'' => e = .returned (.bool true) ∧ Below w'.heap.size w' w'') := fun w' q1 q2 => by have e := same_any Q h1 h2 w' q1.at q2.at; rw [TV1.out, TV2.out] at e; exact e
 clear hT2 hTL2 hTE2 o2 b2 H1 HB
 go_wp2_with (first | (refine wpList_alloc_Z HZ.out rfl rfl ?_) | (refine wpList_store_mid rfl 25 (.tmp 9) (.tmp 57) rfl w2.heap.size 0 T2.toArray rfl rfl TT2.out (by simpa using TL2.out) (all_oneCell_toArray TO2.out) ?_; (obtain ⟨Y2, hY2, hq⟩ := E2.out); (have H2 : Hid _ := hq); (rw [List.toList_toArray, ← hY2]); (clear hY2 hq E2 TT2)) | (refine wpList_load_mid rfl 25 _ rfl p1 0 rfl T1 _ H2.out.1.range Tryz.underlying25 rfl TL1.out ?_) | (refine wpList_load_mid rfl 25 _ rfl w2.heap.size 0 rfl T2 _ H2.out.2.2.1.range Tryz.underlying25 rfl TL2.out ?_) | fail)
 refine (HSM.out _ H2.out.2.1 H2.out.2.2.2.1).mono ?_
 rintro e w3 ⟨rfl, b3⟩
 have H3 : Hid (Below w.heap.size w w3) := andThen H2.out.2.2.2.2 b3
 clear b3 H2 HSM
 have yz : (z == z) = true := by simp
 go_wp2_with fail
 refine (snum_any z _).mono ?_
 rintro e _ ⟨rfl, rfl⟩
 go_wp2
 go_ret
 exact ⟨rfl, H3.out⟩
theorem answered_3 (S : Sg) (h : SH) (r : Rec) (d : Value) (w : World) (k : SgAt w S h) (hT : STabs w) (hR : Tabs w) (hF : Fits S) : Calls Tryz.prog 27 #[ov 3 S h r.x r.nm d] w fun e w' => e = .returned (.bool true) ∧ Below w.heap.size w w' := by
 have HA0 : ∀ w', Below w.heap.size w w' → Calls Tryz.prog 57 #[ov 3 S h r.x r.nm d] w' fun e w'' => e = .returned (.bool true) ∧ Below w'.heap.size w' w'' := fun w' hb' => asked_any 3 S h r.x r.nm d w' (k.kept hb') (hT.kept hb').e.tabs.lets (hT.kept hb').k (hR.kept hb') hF (by omega)
 obtain ⟨L, hLL, hLN⟩ : ∃ L : List Value, ov 3 S h r.x r.nm d = .agg L.toArray ∧ ((Tryz.prog.info? 59).map (·.size) = some L.length ∧ L[0]? = some (.int .i64 3)) := ⟨_, rfl, by kernel_rfl, rfl⟩
 rw [hLL] at HA0 ⊢
 have HA : Hid _ := HA0
 have HLN : Hid _ := hLN
 have HX : Hid (LB (w.alloc (.cells L.toArray 59)) w.heap.size 59 L ∧ Below w.heap.size w (w.alloc (.cells L.toArray 59))) := ⟨lb_new w L _, up0 _ _⟩
 have k0 := HX.out.1.cell 0 _ hLN.2
 clear HA0 hLL hLN k hT hR hF
 go_enter Tryz.func27, Tryz.ntmps27
 go_wp2_with (first | (refine wpList_load_mid rfl 59 _ rfl w.heap.size 0 rfl L _ HX.out.1.range Tryz.underlying59 rfl HLN.out.1 ?_) | fail)
 refine (HA.out _ HX.out.2).mono ?_
 rintro e w1 ⟨rfl, b1⟩
 have H1 : Hid (Below w.heap.size w w1) := andThen HX.out.2 b1
 clear b1 HX HA k0
 go_wp2
 go_ret
 exact ⟨rfl, H1.out⟩
theorem answered_4 (S : Sg) (h : SH) (r : Rec) (d : Value) (w : World) (k : SgAt w S h) (hT : STabs w) (hR : Tabs w) (hF : Fits S) : Calls Tryz.prog 27 #[ov 4 S h r.x r.nm d] w fun e w' => e = .returned (.bool true) ∧ Below w.heap.size w w' := by
 have HA0 : ∀ w', Below w.heap.size w w' → Calls Tryz.prog 57 #[ov 4 S h r.x r.nm d] w' fun e w'' => e = .returned (.bool true) ∧ Below w'.heap.size w' w'' := fun w' hb' => asked_any 4 S h r.x r.nm d w' (k.kept hb') (hT.kept hb').e.tabs.lets (hT.kept hb').k (hR.kept hb') hF (by omega)
 obtain ⟨L, hLL, hLN⟩ : ∃ L : List Value, ov 4 S h r.x r.nm d = .agg L.toArray ∧ ((Tryz.prog.info? 59).map (·.size) = some L.length ∧ L[0]? = some (.int .i64 4)) := ⟨_, rfl, by kernel_rfl, rfl⟩
 rw [hLL] at HA0 ⊢
 have HA : Hid _ := HA0
 have HLN : Hid _ := hLN
 have HX : Hid (LB (w.alloc (.cells L.toArray 59)) w.heap.size 59 L ∧ Below w.heap.size w (w.alloc (.cells L.toArray 59))) := ⟨lb_new w L _, up0 _ _⟩
 have k0 := HX.out.1.cell 0 _ hLN.2
 clear HA0 hLL hLN k hT hR hF
 go_enter Tryz.func27, Tryz.ntmps27
 go_wp2_with (first | (refine wpList_load_mid rfl 59 _ rfl w.heap.size 0 rfl L _ HX.out.1.range Tryz.underlying59 rfl HLN.out.1 ?_) | fail)
 refine (HA.out _ HX.out.2).mono ?_
 rintro e w1 ⟨rfl, b1⟩
 have H1 : Hid (Below w.heap.size w w1) := andThen HX.out.2 b1
 clear b1 HX HA k0
 go_wp2
 go_ret
 exact ⟨rfl, H1.out⟩
theorem answered_5 (S : Sg) (h : SH) (r : Rec) (d : Value) (w : World) (k : SgAt w S h) (hT : STabs w) (hR : Tabs w) (hF : Fits S) : Calls Tryz.prog 27 #[ov 5 S h r.x r.nm d] w fun e w' => e = .returned (.bool true) ∧ Below w.heap.size w w' := by
 have HA0 : ∀ w', Below w.heap.size w w' → Calls Tryz.prog 57 #[ov 5 S h r.x r.nm d] w' fun e w'' => e = .returned (.bool true) ∧ Below w'.heap.size w' w'' := fun w' hb' => asked_any 5 S h r.x r.nm d w' (k.kept hb') (hT.kept hb').e.tabs.lets (hT.kept hb').k (hR.kept hb') hF (by omega)
 obtain ⟨L, hLL, hLN⟩ : ∃ L : List Value, ov 5 S h r.x r.nm d = .agg L.toArray ∧ ((Tryz.prog.info? 59).map (·.size) = some L.length ∧ L[0]? = some (.int .i64 5)) := ⟨_, rfl, by kernel_rfl, rfl⟩
 rw [hLL] at HA0 ⊢
 have HA : Hid _ := HA0
 have HLN : Hid _ := hLN
 have HX : Hid (LB (w.alloc (.cells L.toArray 59)) w.heap.size 59 L ∧ Below w.heap.size w (w.alloc (.cells L.toArray 59))) := ⟨lb_new w L _, up0 _ _⟩
 have k0 := HX.out.1.cell 0 _ hLN.2
 clear HA0 hLL hLN k hT hR hF
 go_enter Tryz.func27, Tryz.ntmps27
 go_wp2_with (first | (refine wpList_load_mid rfl 59 _ rfl w.heap.size 0 rfl L _ HX.out.1.range Tryz.underlying59 rfl HLN.out.1 ?_) | fail)
 refine (HA.out _ HX.out.2).mono ?_
 rintro e w1 ⟨rfl, b1⟩
 have H1 : Hid (Below w.heap.size w w1) := andThen HX.out.2 b1
 clear b1 HX HA k0
 go_wp2
 go_ret
 exact ⟨rfl, H1.out⟩
theorem answered_6 (S : Sg) (h : SH) (r : Rec) (d : Value) (w : World) (k : SgAt w S h) (hT : STabs w) (hR : Tabs w) (hF : Fits S) : Calls Tryz.prog 27 #[ov 6 S h r.x r.nm d] w fun e w' => e = .returned (.bool true) ∧ Below w.heap.size w w' := by
 have HA0 : ∀ w', Below w.heap.size w w' → Calls Tryz.prog 57 #[ov 6 S h r.x r.nm d] w' fun e w'' => e = .returned (.bool true) ∧ Below w'.heap.size w' w'' := fun w' hb' => asked_any 6 S h r.x r.nm d w' (k.kept hb') (hT.kept hb').e.tabs.lets (hT.kept hb').k (hR.kept hb') hF (by omega)
 obtain ⟨L, hLL, hLN⟩ : ∃ L : List Value, ov 6 S h r.x r.nm d = .agg L.toArray ∧ ((Tryz.prog.info? 59).map (·.size) = some L.length ∧ L[0]? = some (.int .i64 6)) := ⟨_, rfl, by kernel_rfl, rfl⟩
 rw [hLL] at HA0 ⊢
 have HA : Hid _ := HA0
 have HLN : Hid _ := hLN
 have HX : Hid (LB (w.alloc (.cells L.toArray 59)) w.heap.size 59 L ∧ Below w.heap.size w (w.alloc (.cells L.toArray 59))) := ⟨lb_new w L _, up0 _ _⟩
 have k0 := HX.out.1.cell 0 _ hLN.2
 clear HA0 hLL hLN k hT hR hF
 go_enter Tryz.func27, Tryz.ntmps27
 go_wp2_with (first | (refine wpList_load_mid rfl 59 _ rfl w.heap.size 0 rfl L _ HX.out.1.range Tryz.underlying59 rfl HLN.out.1 ?_) | fail)
 refine (HA.out _ HX.out.2).mono ?_
 rintro e w1 ⟨rfl, b1⟩
 have H1 : Hid (Below w.heap.size w w1) := andThen HX.out.2 b1
 clear b1 HX HA k0
 go_wp2
 go_ret
 exact ⟨rfl, H1.out⟩
theorem answered_7y (S : Sg) (h : SH) (r : Rec) (d : Value) (w : World) (k : SgAt w S h) (hT : STabs w) (hR : Tabs w) (hF : Fits S) (hc : chkS S = true) : Calls Tryz.prog 27 #[ov 7 S h r.x r.nm d] w fun e w' => e = .returned (.bool true) ∧ Below w.heap.size w w' := by
 have HA0 : ∀ w', Below w.heap.size w w' → Calls Tryz.prog 9 #[sv S h] w' fun e w'' => ∃ v, e = .returned (.tuple #[v, .int .i64 0]) ∧ RecsAt w'' v (storyP S) ∧ Below w'.heap.size w' w'' := fun w' hb' => (story_ok S h w' (k.kept hb') (hT.kept hb').e.tabs.lets (by have := hF.nm; omega) hc).mono fun e w'' ⟨v, ps, e1, e2, e3, e4⟩ => ⟨v, e1, story_recs e2 e3 hc, e4⟩
 have HB0 : ∀ w', Below w.heap.size w w' → Calls Tryz.prog 58 #[sv S h] w' fun e w'' => ∃ v, e = .returned (.tuple #[v, .int .i64 0]) ∧ RecsAt w'' v (storyP S) ∧ Below w'.heap.size w' w'' := fun w' hb' => (rxstory_ok S h w' (k.kept hb') (hR.kept hb') hF hc).mono fun e w'' ⟨v, ps, e1, e2, e3, e4⟩ => ⟨v, e1, story_recs e2 e3 hc, e4⟩
 obtain ⟨RS, hRS⟩ : ∃ RS, storyP S = RS := ⟨_, rfl⟩
 rw [hRS] at HA0 HB0
 obtain ⟨z, hz⟩ : ∃ z : Int, (0 : Int) = z := ⟨_, rfl⟩
 rw [hz] at HA0 HB0
 clear hRS hz
 obtain ⟨Z, hZ⟩ : ∃ Z, Z = zcl := ⟨_, rfl⟩
 have HZ : Hid (Z = zcl) := hZ
 have HZL : Hid (Z.length = 16) := by show _ = _; rw [hZ]; rfl
 obtain ⟨D, hD, hL, hE⟩ := sv_letter S h
 obtain ⟨E, hD2, hL2, hE2⟩ := rv_letter r.x r.nm d
 have hov : ov 7 S h r.x r.nm d = .agg (.int .i64 7 :: (D ++ E)).toArray := by unfold ov; rw [hE, hE2]
 rw [hov]
 have HL : Hid _ := hL
 have HL2 : Hid _ := hL2
 have hDl : D.length = 16 := by rw [hE]; rfl
 have k0 := (lb_new w (.int .i64 7 :: (D ++ E)) 59).cell 0 (.int .i64 7) rfl
 obtain ⟨L, hLL⟩ : ∃ L, (.int .i64 7 :: (D ++ E) : List Value) = L := ⟨_, rfl⟩
 have HRD : Hid (∀ wx, LB wx w.heap.size 59 L → wx.rangeAt w.heap.size 1 D ∧ wx.rangeAt w.heap.size 17 E) := fun wx l => by
  rw [← hLL] at l
  exact ⟨mid_range l.range, end_range l.range hDl⟩
 rw [hLL] at k0 ⊢
 have HX : Hid (LB (w.alloc (.cells L.toArray 59)) w.heap.size 59 L ∧ Below w.heap.size w (w.alloc (.cells L.toArray 59))) := ⟨lb_new w L _, up0 _ _⟩
 clear hov hLL
 rw [hD] at HA0 HB0
 have HA : Hid _ := HA0
 have HB : Hid _ := HB0
 clear hD hL hE hD2 hL2 hE2 HA0 HB0 hZ hT hR hDl k hF hc HL2 HZ HZL
 go_enter Tryz.func27, Tryz.ntmps27
 go_wp2_with (first | (refine wpList_load_mid rfl 25 _ rfl w.heap.size 1 rfl D _ (HRD.out _ HX.out.1).1 Tryz.underlying25 rfl HL.out ?_) | fail)
 refine (HA.out _ HX.out.2).mono ?_
 rintro e w1 ⟨v1, rfl, r1, b1⟩
 have H1 : Hid (LB w1 w.heap.size 59 L ∧ RecsAt w1 v1 RS ∧ Below w.heap.size w w1) := ⟨HX.out.1.kept b1, r1, andThen HX.out.2 b1⟩
 clear r1 b1 HX HA k0
 go_wp2_with (first | (refine wpList_load_mid rfl 25 _ rfl w.heap.size 1 rfl D _ (HRD.out _ H1.out.1).1 Tryz.underlying25 rfl HL.out ?_) | fail)
 refine (HB.out _ H1.out.2.2).mono ?_
 rintro e w2 ⟨v2, rfl, r2, b2⟩
 have H2 : Hid (RecsAt w2 v1 RS ∧ RecsAt w2 v2 RS ∧ Below w.heap.size w w2) := ⟨H1.out.2.1.kept b2, r2, andThen H1.out.2.2 b2⟩
 clear r2 b2 H1 HB HRD
 go_wp2_with fail
 refine (sameAll3_ok v1 v2 RS w2 H2.out.1 H2.out.2.1).mono ?_
 rintro e w3 ⟨rfl, b3⟩
 have H3 : Hid (Below w.heap.size w w3) := andThen H2.out.2.2 b3
 clear b3 H2
 have yz : (z == z) = true := by simp
 go_wp2_with fail
 refine (snum_any z _).mono ?_
 rintro e _ ⟨rfl, rfl⟩
 go_wp2
 go_ret
 exact ⟨rfl, H3.out⟩
theorem answered_7n (S : Sg) (h : SH) (r : Rec) (d : Value) (w : World) (k : SgAt w S h) (hT : STabs w) (hR : Tabs w) (hF : Fits S) (hc : chkS S = false) : Calls Tryz.prog 27 #[ov 7 S h r.x r.nm d] w fun e w' => e = .returned (.bool true) ∧ Below w.heap.size w w' := by
 have hnil : ∀ w' : World, RecsAt w' (.slice none 0 0) [] := fun w' => ⟨none, 0, rfl, by simp [maxLen], fun k r hr => by simp at hr⟩
 have HA0 : ∀ w', Below w.heap.size w w' → Calls Tryz.prog 9 #[sv S h] w' fun e w'' => ∃ v, e = .returned (.tuple #[v, .int .i64 100]) ∧ RecsAt w'' v [] ∧ Below w'.heap.size w' w'' := fun w' hb' => (story_bad S h w' (k.kept hb') (hT.kept hb').e.tabs.lets (by have := hF.nm; omega) hc).mono fun e w'' h1 => ⟨_, h1.1, hnil _, h1.2⟩
 have HB0 : ∀ w', Below w.heap.size w w' → Calls Tryz.prog 58 #[sv S h] w' fun e w'' => ∃ v, e = .returned (.tuple #[v, .int .i64 100]) ∧ RecsAt w'' v [] ∧ Below w'.heap.size w' w'' := fun w' hb' => (rxstory_bad S h w' (k.kept hb') (hR.kept hb') hF hc).mono fun e w'' h1 => ⟨_, h1.1, hnil _, h1.2⟩
 obtain ⟨RS, hRS⟩ : ∃ RS : List Rec, [] = RS := ⟨_, rfl⟩
 rw [hRS] at HA0 HB0
 obtain ⟨z, hz⟩ : ∃ z : Int, (100 : Int) = z := ⟨_, rfl⟩
 rw [hz] at HA0 HB0
 clear hRS hz hnil
 obtain ⟨Z, hZ⟩ : ∃ Z, Z = zcl := ⟨_, rfl⟩
 have HZ : Hid (Z = zcl) := hZ
 have HZL : Hid (Z.length = 16) := by show _ = _; rw [hZ]; rfl
 obtain ⟨D, hD, hL, hE⟩ := sv_letter S h
 obtain ⟨E, hD2, hL2, hE2⟩ := rv_letter r.x r.nm d
 have hov : ov 7 S h r.x r.nm d = .agg (.int .i64 7 :: (D ++ E)).toArray := by unfold ov; rw [hE, hE2]
 rw [hov]
 have HL : Hid _ := hL
 have HL2 : Hid _ := hL2
 have hDl : D.length = 16 := by rw [hE]; rfl
 have k0 := (lb_new w (.int .i64 7 :: (D ++ E)) 59).cell 0 (.int .i64 7) rfl
 obtain ⟨L, hLL⟩ : ∃ L, (.int .i64 7 :: (D ++ E) : List Value) = L := ⟨_, rfl⟩
 have HRD : Hid (∀ wx, LB wx w.heap.size 59 L → wx.rangeAt w.heap.size 1 D ∧ wx.rangeAt w.heap.size 17 E) := fun wx l => by
  rw [← hLL] at l
  exact ⟨mid_range l.range, end_range l.range hDl⟩
 rw [hLL] at k0 ⊢
 have HX : Hid (LB (w.alloc (.cells L.toArray 59)) w.heap.size 59 L ∧ Below w.heap.size w (w.alloc (.cells L.toArray 59))) := ⟨lb_new w L _, up0 _ _⟩
 clear hov hLL
 rw [hD] at HA0 HB0
 have HA : Hid _ := HA0
 have HB : Hid _ := HB0
 clear hD hL hE hD2 hL2 hE2 HA0 HB0 hZ hT hR hDl k hF hc HL2 HZ HZL
 go_enter Tryz.func27, Tryz.ntmps27
 go_wp2_with (first | (refine wpList_load_mid rfl 25 _ rfl w.heap.size 1 rfl D _ (HRD.out _ HX.out.1).1 Tryz.underlying25 rfl HL.out ?_) | fail)
 refine (HA.out _ HX.out.2).mono ?_
 rintro e w1 ⟨v1, rfl, r1, b1⟩
 have H1 : Hid (LB w1 w.heap.size 59 L ∧ RecsAt w1 v1 RS ∧ Below w.heap.size w w1) := ⟨HX.out.1.kept b1, r1, andThen HX.out.2 b1⟩
 clear r1 b1 HX HA k0
 go_wp2_with (first | (refine wpList_load_mid rfl 25 _ rfl w.heap.size 1 rfl D _ (HRD.out _ H1.out.1).1 Tryz.underlying25 rfl HL.out ?_) | fail)
 refine (HB.out _ H1.out.2.2).mono ?_
 rintro e w2 ⟨v2, rfl, r2, b2⟩
 have H2 : Hid (RecsAt w2 v1 RS ∧ RecsAt w2 v2 RS ∧ Below w.heap.size w w2) := ⟨H1.out.2.1.kept b2, r2, andThen H1.out.2.2 b2⟩
 clear r2 b2 H1 HB HRD
 go_wp2_with fail
 refine (sameAll3_ok v1 v2 RS w2 H2.out.1 H2.out.2.1).mono ?_
 rintro e w3 ⟨rfl, b3⟩
 have H3 : Hid (Below w.heap.size w w3) := andThen H2.out.2.2 b3
 clear b3 H2
 have yz : (z == z) = true := by simp
 go_wp2_with fail
 refine (snum_any z _).mono ?_
 rintro e _ ⟨rfl, rfl⟩
 go_wp2
 go_ret
 exact ⟨rfl, H3.out⟩
theorem answered_8 (S : Sg) (h : SH) (r : Rec) (d : Value) (w : World) (k : SgAt w S h) (hF : Fits S) : Calls Tryz.prog 27 #[ov 8 S h r.x r.nm d] w fun e w' => e = .returned (.bool true) ∧ Below w.heap.size w w' := by
 have HA0 : ∀ w', Below w.heap.size w w' → Calls Tryz.prog 19 #[sv S h] w' fun e w'' => ∃ h', e = .returned (sv S h') ∧ SgO 0 w'' S h' ∧ Below w'.heap.size w' w'' := fun w' hb' => (sclone_any S h w' (k.kept hb') (fits_light hF)).mono fun e w'' ⟨h', e1, e2, e3⟩ => ⟨h', e1, (own_o e2).weak (Nat.zero_le _), e3⟩
 have HSM0 : ∀ (h1 : SH) (w' : World), Below w.heap.size w w' → SgO 0 w' S h1 → Calls Tryz.prog 25 #[sv S h1, sv S h] w' fun e w'' => e = .returned (.bool true) ∧ Below w'.heap.size w' w'' := fun h1 w' hb' q => same_any S h1 h w' q.at (k.kept hb')
 obtain ⟨Z, hZ⟩ : ∃ Z, Z = zcl := ⟨_, rfl⟩
 have HZ : Hid (Z = zcl) := hZ
 have HZL : Hid (Z.length = 16) := by show _ = _; rw [hZ]; rfl
 obtain ⟨D, hD, hL, hE⟩ := sv_letter S h
 obtain ⟨E, hD2, hL2, hE2⟩ := rv_letter r.x r.nm d
 have hov : ov 8 S h r.x r.nm d = .agg (.int .i64 8 :: (D ++ E)).toArray := by unfold ov; rw [hE, hE2]
 rw [hov]
 have HL : Hid _ := hL
 have HL2 : Hid _ := hL2
 have hDl : D.length = 16 := by rw [hE]; rfl
 have k0 := (lb_new w (.int .i64 8 :: (D ++ E)) 59).cell 0 (.int .i64 8) rfl
 obtain ⟨L, hLL⟩ : ∃ L, (.int .i64 8 :: (D ++ E) : List Value) = L := ⟨_, rfl⟩
 have HRD : Hid (∀ wx, LB wx w.heap.size 59 L → wx.rangeAt w.heap.size 1 D ∧ wx.rangeAt w.heap.size 17 E) := fun wx l => by
  rw [← hLL] at l
  exact ⟨mid_range l.range, end_range l.range hDl⟩
 rw [hLL] at k0 ⊢
 have HX : Hid (LB (w.alloc (.cells L.toArray 59)) w.heap.size 59 L ∧ Below w.heap.size w (w.alloc (.cells L.toArray 59))) := ⟨lb_new w L _, up0 _ _⟩
 clear hov hLL
 rw [hD] at HA0
 have HA : Hid _ := HA0
 have HSM : Hid (∀ (h1 : SH) (T : List Value) (w' : World), sv S h1 = .agg T.toArray → Below w.heap.size w w' → SgO 0 w' S h1 → Calls Tryz.prog 25 #[.agg T.toArray, .agg D.toArray] w' fun e w'' => e = .returned (.bool true) ∧ Below w'.heap.size w' w'') := fun h1 T w' e1 hb' q => by have e := HSM0 h1 w' hb' q; rw [e1, hD] at e; exact e
 clear hD hL hE hD2 hL2 hE2 HA0 HSM0 hZ hDl k hF HL2
 go_enter Tryz.func27, Tryz.ntmps27
 go_wp2_with (first | (refine wpList_load_mid rfl 25 _ rfl w.heap.size 1 rfl D _ (HRD.out _ HX.out.1).1 Tryz.underlying25 rfl HL.out ?_) | fail)
 refine (HA.out _ HX.out.2).mono ?_
 rintro e w1 ⟨h1, rfl, o1, b1⟩
 obtain ⟨T1, hT1, hTL1, hTE1⟩ := sv_letter S h1
 rw [hT1]
 have TL1 : Hid _ := hTL1
 have TV1 : Hid (sv S h1 = .agg T1.toArray) := hT1
 have TO1 : Hid (∀ v ∈ T1, v.oneCell' = true) := by show ∀ v ∈ T1, _; rw [hTE1]; exact scl_one _ _
 have TZ1 : Hid (T1.length = Z.length) := by show _ = _; rw [hTE1, HZL.out]; rfl
 have TT1 : Hid ((w1.alloc (.cells Z.toArray 25)).there w1.heap.size 0 T1.toArray.size) := there_of (lb_new w1 Z _) (by simpa using TZ1.out)
 have E1 : Hid (∃ Y, Y = (w1.alloc (.cells Z.toArray 25)).setCells w1.heap.size 0 T1 ∧ LB Y w.heap.size 59 L ∧ LB Y w1.heap.size 25 T1 ∧ SgO 0 Y S h1 ∧ Below w.heap.size w Y) := by
  obtain ⟨q1, q2⟩ := one_boxR w1 25 Z T1 TZ1.out
  exact ⟨_, rfl, (HX.out.1.kept b1).kept q2, q1, o1.kept q2, andThen (andThen HX.out.2 b1) q2⟩
 clear hT1 hTL1 hTE1 o1 b1 HX HA k0
 go_wp2_with (first | (refine wpList_alloc_Z HZ.out rfl rfl ?_) | (refine wpList_store_mid rfl 25 (.tmp 15) (.tmp 102) rfl w1.heap.size 0 T1.toArray rfl rfl TT1.out (by simpa using TL1.out) (all_oneCell_toArray TO1.out) ?_; (obtain ⟨Y, hY, hq⟩ := E1.out); (have H1 : Hid _ := hq); (rw [List.toList_toArray, ← hY]); (clear hY hq E1 TT1)) | (refine wpList_load_mid rfl 25 _ rfl w1.heap.size 0 rfl T1 _ H1.out.2.1.range Tryz.underlying25 rfl TL1.out ?_) | (refine wpList_load_mid rfl 25 _ rfl w.heap.size 1 rfl D _ (HRD.out _ H1.out.1).1 Tryz.underlying25 rfl HL.out ?_) | fail)
 refine (HSM.out h1 T1 _ TV1.out H1.out.2.2.2 H1.out.2.2.1).mono ?_
 rintro e w3 ⟨rfl, b3⟩
 have H3 : Hid (Below w.heap.size w w3) := andThen H1.out.2.2.2 b3
 clear b3 H1 HSM
 go_wp2
 go_ret
 exact ⟨rfl, H3.out⟩
theorem answered_7 (S : Sg) (h : SH) (r : Rec) (d : Value) (w : World) (k : SgAt w S h) (hT : STabs w) (hR : Tabs w) (hF : Fits S) : Calls Tryz.prog 27 #[ov 7 S h r.x r.nm d] w fun e w' => e = .returned (.bool true) ∧ Below w.heap.size w w' := by
 cases hc : chkS S with
 | true => exact answered_7y S h r d w k hT hR hF hc
 | false => exact answered_7n S h r d w k hT hR hF hc
end Go.Proofs.YtabdfafffjgfiaaGreatDoor
