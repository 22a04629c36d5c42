import Derived.Deep.CutRange
import Derived.Test.YtgmkjcfdpiinpaaGreatDoorVA1
set_option maxRecDepth 100000
set_option maxHeartbeats 4000000
namespace Go.Proofs.YtgmkjcfdpiinpaaGreatDoor
open Go Go.RowKit
open Wb

theorem rxpend_l3 (S : Sg) (h : SH) (w : World) (HCK0 : ∀ w', Below w.heap.size w w' → Calls Tryz.prog 34 #[sv S h] w' fun e w'' => e = .returned (.int .i64 0) ∧ Below w'.heap.size w' w'') (hn : 0 ≤ S.x.nx ∧ S.x.nx ≤ 32) (h3 : decide (3 ≤ S.x.ph) = false) (h1 : (S.x.ph == 1) = true) (hq : (S.x.nx == S.x.cnt) = false) (hp : decide (0 < S.x.piv) = true) (hl : decide (S.x.piv ≤ S.x.nx) = false) : Calls Tryz.prog 79 #[sv S h] w fun e w' => ∃ v, e = .returned v ∧ Fld.RoI (w.heap.size + 1) w' v (downs S.x.nx S.x.nx.toNat) ∧ Below w.heap.size w w' := by
 have iw : IntKind.i64.wrap (S.x.nx - 1) = S.x.nx - 1 := IntWalk.i64_in _ (by omega)
 obtain ⟨D, hD, hL, hE⟩ := sv_letter S h
 rw [hD] at HCK0 ⊢
 have HCK : Hid _ := HCK0
 have HL : Hid _ := hL
 have HE : Hid (D = scl S h) := hE
 have HX : Hid (∀ t, (w.alloc (.cells D.toArray t)).rangeAt w.heap.size 0 D ∧ Below w.heap.size w (w.alloc (.cells D.toArray t))) := fun t => boxed w D t
 clear hD hL hE HCK0
 go_enter Tryz.func79, Tryz.ntmps79
 go_wp2_with (first | (refine wpList_load_mid rfl 31 _ rfl w.heap.size 0 rfl D _ (HX.out _).1 Tryz.underlying31 rfl HL.out ?_) | fail)
 refine (HCK.out _ (HX.out _).2).mono ?_
 rintro e w1 ⟨rfl, b1⟩
 have B1 := andThen (HX.out _).2 b1
 have R1 := range_kept (HX.out _).1 b1
 have c2 := range_cell R1 2 (.int .i64 S.x.cnt) (by rw [HE.out]; rfl)
 have c3 := range_cell R1 3 (.int .i64 S.x.piv) (by rw [HE.out]; rfl)
 have c7 := range_cell R1 7 (.int .i64 S.x.ph) (by rw [HE.out]; rfl)
 have c8 := range_cell R1 8 (.int .i64 S.x.nx) (by rw [HE.out]; rfl)
 clear b1 HX HCK HL
 go_wp2
 clear c2 c3 c7 c8
 go_loopw [4, 5] (fun o i wr => ∃ j : Nat, (j : Int) ≤ S.x.nx ∧ i = .int .i64 (S.x.nx - 1 - (j : Int)) ∧ Fld.RoI (w.heap.size + 1) wr o (downs S.x.nx j) ∧ wr.rangeAt w.heap.size 0 D ∧ Below w.heap.size w wr) (fun _ i _ => (intOf i + 1).toNat)
 case atStart => exact ⟨0, by omega, by simp, Fld.roI_nil _ _, R1, B1⟩
 case round =>
  obtain ⟨j, hj, rfl, ho, hR, hbel⟩ := hrel
  by_cases hlt : (j : Int) < S.x.nx
  ·have g0 : decide (0 ≤ S.x.nx - 1 - (j : Int)) = true := by simp; omega
   have iw2 : IntKind.i64.wrap (S.x.nx - 1 - (j : Int) - 1) = S.x.nx - 1 - ((j + 1 : Nat) : Int) := by rw [IntWalk.i64_in _ (by omega)]; omega
   have HO : Hid (Fld.RoI (w.heap.size + 1) wr u4 (downs S.x.nx j)) := ho
   have HR : Hid (wr.rangeAt w.heap.size 0 D) := hR
   have HBEL : Hid (Below w.heap.size w wr) := hbel
   obtain ⟨i, hi⟩ : ∃ i, S.x.nx - 1 - (j : Int) = i := ⟨_, rfl⟩
   have HI : Hid (S.x.nx - 1 - (j : Int) = i) := hi
   rw [hi] at g0 iw2
   rw [hi]
   clear ho hR hbel hi
   have HLN : Hid ((downs S.x.nx j).length ≤ 32) := by show _ ≤ _; rw [downs_len]; omega
   have HCE : Hid ((wr.alloc (.cells #[.int .i64 i] 3)).cell? ⟨wr.heap.size, 0, none⟩ = some (.int .i64 i)) := by show _ = _; rw [World.cell?_alloc_new]; rfl
   have HSZ : Hid (w.heap.size + 1 ≤ (wr.alloc (.cells #[.int .i64 i] 3)).heap.size) := by
    show _ ≤ _
    have hlt0 : w.heap.size < wr.heap.size := World.block_lt_of_cell? wr ⟨w.heap.size, 0, none⟩ (range_cell HR.out 0 (.int .i64 S.x.id) (by rw [HE.out]; rfl))
    rw [heap_one]; omega
   go_wp2_with (at_builtin; refine Fld.wpList_app_int _ rfl (.tmp 44) (.tmp 46) 91 rfl (w.heap.size + 1) Fld.info3 Tryz.underlying91 _ (downs S.x.nx j) rfl (HO.out.kept (up0 _ _)) _ i rfl HCE.out (Nat.le_trans HLN.out (by decide)) HSZ.out ?_)
   intro v' w' hro hgr
   have HG : Hid (Fld.RoI (w.heap.size + 1) w' v' (downs S.x.nx (j + 1)) ∧ w'.rangeAt w.heap.size 0 D ∧ Below w.heap.size w w') := by
    have hold : Fld.RoI (w.heap.size + 1) (wr.alloc (.cells #[.int .i64 i] 3)) u4 (downs S.x.nx j) := HO.out.kept (up0 _ _)
    have hbw : Below w.heap.size w (wr.alloc (.cells #[.int .i64 i] 3)) := up HBEL.out _
    refine ⟨by rw [downs_next, HI.out]; exact hro, fun i2 v hv => ?_, (roI_weak hold (by omega)).below hbw hgr⟩
    have h1 := range_kept HR.out (up0 _ (.cells #[.int .i64 i] 3)) i2 v hv
    rw [← h1]
    refine World.cell?_of_block (w := wr.alloc (.cells #[.int .i64 i] 3)) (hgr.block w.heap.size (World.block_lt_of_cell? _ _ h1) (fun e => ?_))
    have := roI_block hold _ e.symm
    omega
   clear hro hgr HCE HSZ HO HR
   go_wp2
   go_roundw
   case rel => exact ⟨j + 1, by omega, by first | rfl | (rw [iw2]; rfl), HG.out.1, HG.out.2.1, HG.out.2.2⟩
   case measure => have := HI.out; simp [intOf]; omega
  ·have hje : S.x.nx = (j : Int) := by omega
   have g0 : decide (0 ≤ S.x.nx - 1 - (j : Int)) = false := by simp; omega
   have hjn : S.x.nx.toNat = j := by omega
   have HF : Hid (Fld.RoI (w.heap.size + 1) wr u4 (downs S.x.nx S.x.nx.toNat) ∧ Below w.heap.size w wr) := ⟨by rw [hjn]; exact ho, hbel⟩
   clear ho hbel hR hje hjn
   go_wp2
   go_ret
   exact ⟨_, rfl, HF.out.1, HF.out.2⟩
theorem rxpend_any (S : Sg) (h : SH) (w : World) (HCK0 : ∀ w', Below w.heap.size w w' → Calls Tryz.prog 34 #[sv S h] w' fun e w'' => e = .returned (.int .i64 0) ∧ Below w'.heap.size w' w'') (hc : chkS S = true) : Calls Tryz.prog 79 #[sv S h] w fun e w' => ∃ v, e = .returned v ∧ Fld.RoI w.heap.size w' v (pendP S) ∧ Below w.heap.size w w' := by
 obtain ⟨_, _, _, _, g5, _, _, _, g9, _, g11⟩ := good_nums S hc
 have hm := mayUndo_ref S.x g5 g11
 have hN : S.x.mayUndo = false → pendP S = [] := fun e => by unfold pendP; rw [e]; simp
 have hY : S.x.mayUndo = true → pendP S = downs S.x.nx S.x.nx.toNat := fun e => by unfold pendP; rw [if_neg (by simp [hc]), if_pos e]
 have hn : ∀ {e : Ending} {w' : World}, S.x.mayUndo = false → (e = .returned (.slice none 0 0) ∧ Below w.heap.size w w') → ∃ v, e = .returned v ∧ Fld.RoI w.heap.size w' v (pendP S) ∧ Below w.heap.size w w' := fun q h1 => ⟨_, h1.1, by rw [hN q]; exact Fld.roI_nil _ _, h1.2⟩
 have hy : ∀ {e : Ending} {w' : World}, S.x.mayUndo = true → (∃ v, e = .returned v ∧ Fld.RoI (w.heap.size + 1) w' v (downs S.x.nx S.x.nx.toNat) ∧ Below w.heap.size w w') → ∃ v, e = .returned v ∧ Fld.RoI w.heap.size w' v (pendP S) ∧ Below w.heap.size w w' := fun q ⟨v, h1, h2, h3⟩ => ⟨v, h1, by rw [hY q]; exact roI_weak h2 (by omega), h3⟩
 cases h3 : decide (3 ≤ S.x.ph) with
 | true => exact (rxpend_n1 S h w HCK0 h3).mono fun e w' k => hn (by rw [hm, h3]; rfl) k
 | false =>
  cases h1 : (S.x.ph == 1) with
  | false => exact (rxpend_l1 S h w HCK0 g9 h3 h1).mono fun e w' k => hy (by rw [hm, h3, h1]; rfl) k
  | true =>
   cases hq : (S.x.nx == S.x.cnt) with
   | true => exact (rxpend_n2 S h w HCK0 h3 h1 hq).mono fun e w' k => hn (by rw [hm, h3, h1, hq]; rfl) k
   | false =>
    cases hp : decide (0 < S.x.piv) with
    | false => exact (rxpend_l2 S h w HCK0 g9 h3 h1 hq hp).mono fun e w' k => hy (by rw [hm, h3, h1, hq, hp]; rfl) k
    | true =>
     cases hl : decide (S.x.piv ≤ S.x.nx) with
     | true => exact (rxpend_n3 S h w HCK0 h3 h1 hq hp hl).mono fun e w' k => hn (by rw [hm, h3, h1, hq, hp, hl]; rfl) k
     | false => exact (rxpend_l3 S h w HCK0 g9 h3 h1 hq hp hl).mono fun e w' k => hy (by rw [hm, h3, h1, hq, hp, hl]; rfl) k
theorem mayUndo_2 (S : Sg) (h : SH) (w : World) (h1 : (S.x.ph == 1) = false) : Calls Tryz.prog 102 #[sv S h] w fun e w' => e = .returned (.bool (S.x.ph == 2)) ∧ Below w.heap.size w w' := by
 obtain ⟨D, hD, hL, hE⟩ := sv_letter S h
 rw [hD]
 have HE : Hid (D = scl S h) := hE
 have HX : Hid (∀ t, (w.alloc (.cells D.toArray t)).rangeAt w.heap.size 0 D ∧ Below w.heap.size w (w.alloc (.cells D.toArray t))) := fun t => boxed w D t
 clear hD hL hE
 have c7 := range_cell (HX.out 31).1 7 (.int .i64 S.x.ph) (by rw [HE.out]; rfl)
 have BX := (HX.out 31).2
 clear HE HX
 go_enter Tryz.func102, Tryz.ntmps102
 go_wp2
 go_ret
 exact ⟨rfl, BX⟩
theorem mayUndo_e (S : Sg) (h : SH) (w : World) (h1 : (S.x.ph == 1) = true) (ha : S.x.atEnd = true) : Calls Tryz.prog 102 #[sv S h] w fun e w' => e = .returned (.bool false) ∧ Below w.heap.size w w' := by
 have HAE0 : ∀ w', Calls Tryz.prog 94 #[sv S h] w' fun e w'' => e = .returned (.bool true) ∧ Below w'.heap.size w' w'' := fun w' => by rw [← ha]; exact atEnd_any S h w'
 obtain ⟨D, hD, hL, hE⟩ := sv_letter S h
 rw [hD] at HAE0 ⊢
 have HAE : Hid _ := HAE0
 have HL : Hid _ := hL
 have HE : Hid (D = scl S h) := hE
 have HX : Hid (∀ t, (w.alloc (.cells D.toArray t)).rangeAt w.heap.size 0 D ∧ Below w.heap.size w (w.alloc (.cells D.toArray t))) := fun t => boxed w D t
 clear hD hL hE HAE0
 clear ha
 have c7 := range_cell (HX.out 31).1 7 (.int .i64 S.x.ph) (by rw [HE.out]; rfl)
 clear HE
 go_enter Tryz.func102, Tryz.ntmps102
 go_wp2_with (first | (refine wpList_load_mid rfl 31 _ rfl w.heap.size 0 rfl D _ (HX.out _).1 Tryz.underlying31 rfl HL.out ?_) | (refine wpList_load_midG rfl 31 _ rfl w.heap.size 0 rfl D _ (HX.out _).1 Tryz.underlying31 rfl HL.out ?_) | fail)
 refine (HAE.out _).mono ?_
 rintro e w1 ⟨rfl, b1⟩
 have B1 := andThen (HX.out _).2 b1
 clear b1 HX HAE HL c7
 go_wp2
 go_ret
 exact ⟨rfl, B1⟩
theorem mayUndo_b (S : Sg) (h : SH) (w : World) (h1 : (S.x.ph == 1) = true) (ha : S.x.atEnd = false) : Calls Tryz.prog 102 #[sv S h] w fun e w' => e = .returned (.bool (!S.x.behind S.x.nx)) ∧ Below w.heap.size w w' := by
 have HAE0 : ∀ w', Calls Tryz.prog 94 #[sv S h] w' fun e w'' => e = .returned (.bool false) ∧ Below w'.heap.size w' w'' := fun w' => by rw [← ha]; exact atEnd_any S h w'
 have HBH0 : ∀ w', Calls Tryz.prog 58 #[sv S h, .int .i64 S.x.nx] w' fun e w'' => e = .returned (.bool (S.x.behind S.x.nx)) ∧ Below w'.heap.size w' w'' := fun w' => behind_any S h S.x.nx w'
 obtain ⟨D, hD, hL, hE⟩ := sv_letter S h
 rw [hD] at HAE0 HBH0 ⊢
 have HAE : Hid _ := HAE0
 have HBH : Hid _ := HBH0
 have HL : Hid _ := hL
 have HE : Hid (D = scl S h) := hE
 have HX : Hid (∀ t, (w.alloc (.cells D.toArray t)).rangeAt w.heap.size 0 D ∧ Below w.heap.size w (w.alloc (.cells D.toArray t))) := fun t => boxed w D t
 clear hD hL hE HAE0 HBH0
 clear ha
 have c7 := range_cell (HX.out 31).1 7 (.int .i64 S.x.ph) (by rw [HE.out]; rfl)
 go_enter Tryz.func102, Tryz.ntmps102
 go_wp2_with (first | (refine wpList_load_mid rfl 31 _ rfl w.heap.size 0 rfl D _ (HX.out _).1 Tryz.underlying31 rfl HL.out ?_) | (refine wpList_load_midG rfl 31 _ rfl w.heap.size 0 rfl D _ (HX.out _).1 Tryz.underlying31 rfl HL.out ?_) | fail)
 refine (HAE.out _).mono ?_
 rintro e w1 ⟨rfl, b1⟩
 have B1 := andThen (HX.out _).2 b1
 have R1 := range_kept (HX.out _).1 b1
 have c8 := range_cell R1 8 (.int .i64 S.x.nx) (by rw [HE.out]; rfl)
 clear b1 HX HAE c7
 go_wp2_with (first | (refine wpList_load_mid rfl 31 _ rfl w.heap.size 0 rfl D _ R1 Tryz.underlying31 rfl HL.out ?_) | (refine wpList_load_midG rfl 31 _ rfl w.heap.size 0 rfl D _ R1 Tryz.underlying31 rfl HL.out ?_) | fail)
 refine (HBH.out _).mono ?_
 rintro e w2 ⟨rfl, b2⟩
 have B2 := andThen B1 b2
 clear b2 B1 R1 HBH c8
 go_wp2
 go_ret
 exact ⟨rfl, B2⟩
theorem mayUndo_any (S : Sg) (h : SH) (w : World) : Calls Tryz.prog 102 #[sv S h] w fun e w' => e = .returned (.bool S.x.mayUndo) ∧ Below w.heap.size w w' := by
 unfold SN.mayUndo
 cases h1 : (S.x.ph == 1) with
 | false => exact mayUndo_2 S h w h1
 | true =>
  cases ha : S.x.atEnd with
  | true => exact mayUndo_e S h w h1 ha
  | false =>
   have e := mayUndo_b S h w h1 ha
   rw [if_pos rfl, Bool.not_false, Bool.true_and]
   exact e
theorem pend_c (S : Sg) (h : SH) (w : World) (k : SgAt w S h) (hT : Text.TabP 3 .i32 Text.Tx.lets w) (hnm : S.nm.size ≤ 140737488355000) (hc : chkS S = false) : Calls Tryz.prog 78 #[sv S h] w fun e w' => e = .returned (.slice none 0 0) ∧ Below w.heap.size w w' := by
 have HCK0 : ∀ w', Below w.heap.size w w' → Calls Tryz.prog 30 #[sv S h] w' fun e w'' => e = .returned (.int .i64 100) ∧ Below w'.heap.size w' w'' := fun w' hb => by have e := scheck_any S h w' (k.kept hb) (hT.kept hb) hnm; rw [hc] at e; exact e
 obtain ⟨D, hD, hL, hE⟩ := sv_letter S h
 rw [hD] at HCK0 ⊢
 have HCK : Hid _ := HCK0
 have HL : Hid _ := hL
 have HE : Hid (D = scl S h) := hE
 have HX : Hid (∀ t, (w.alloc (.cells D.toArray t)).rangeAt w.heap.size 0 D ∧ Below w.heap.size w (w.alloc (.cells D.toArray t))) := fun t => boxed w D t
 clear hD hL hE HCK0
 clear k hT hnm HE hc
 go_enter Tryz.func78, Tryz.ntmps78
 go_wp2_with (first | (refine wpList_load_mid rfl 31 _ rfl w.heap.size 0 rfl D _ (HX.out _).1 Tryz.underlying31 rfl HL.out ?_) | (refine wpList_load_midG rfl 31 _ rfl w.heap.size 0 rfl D _ (HX.out _).1 Tryz.underlying31 rfl HL.out ?_) | fail)
 refine (HCK.out _ (HX.out _).2).mono ?_
 rintro e w1 ⟨rfl, b1⟩
 have B1 := andThen (HX.out _).2 b1
 clear b1 HX HCK HL
 go_wp2
 go_ret
 exact ⟨rfl, B1⟩
theorem pend_n (S : Sg) (h : SH) (w : World) (k : SgAt w S h) (hT : Text.TabP 3 .i32 Text.Tx.lets w) (hnm : S.nm.size ≤ 140737488355000) (hc : chkS S = true) (hm : S.x.mayUndo = false) : Calls Tryz.prog 78 #[sv S h] w fun e w' => e = .returned (.slice none 0 0) ∧ Below w.heap.size w w' := by
 have HCK0 : ∀ w', Below w.heap.size w w' → Calls Tryz.prog 30 #[sv S h] w' fun e w'' => e = .returned (.int .i64 0) ∧ Below w'.heap.size w' w'' := fun w' hb => by have e := scheck_any S h w' (k.kept hb) (hT.kept hb) hnm; rw [hc] at e; exact e
 have HMU0 : ∀ w', Calls Tryz.prog 102 #[sv S h] w' fun e w'' => e = .returned (.bool false) ∧ Below w'.heap.size w' w'' := fun w' => by rw [← hm]; exact mayUndo_any S h w'
 obtain ⟨D, hD, hL, hE⟩ := sv_letter S h
 rw [hD] at HCK0 HMU0 ⊢
 have HCK : Hid _ := HCK0
 have HMU : Hid _ := HMU0
 have HL : Hid _ := hL
 have HE : Hid (D = scl S h) := hE
 have HX : Hid (∀ t, (w.alloc (.cells D.toArray t)).rangeAt w.heap.size 0 D ∧ Below w.heap.size w (w.alloc (.cells D.toArray t))) := fun t => boxed w D t
 clear hD hL hE HCK0 HMU0
 clear k hT hnm HE hc hm
 go_enter Tryz.func78, Tryz.ntmps78
 go_wp2_with (first | (refine wpList_load_mid rfl 31 _ rfl w.heap.size 0 rfl D _ (HX.out _).1 Tryz.underlying31 rfl HL.out ?_) | (refine wpList_load_midG rfl 31 _ rfl w.heap.size 0 rfl D _ (HX.out _).1 Tryz.underlying31 rfl HL.out ?_) | fail)
 refine (HCK.out _ (HX.out _).2).mono ?_
 rintro e w1 ⟨rfl, b1⟩
 have B1 := andThen (HX.out _).2 b1
 have R1 := range_kept (HX.out _).1 b1
 clear b1 HX HCK
 go_wp2_with (first | (refine wpList_load_mid rfl 31 _ rfl w.heap.size 0 rfl D _ R1 Tryz.underlying31 rfl HL.out ?_) | (refine wpList_load_midG rfl 31 _ rfl w.heap.size 0 rfl D _ R1 Tryz.underlying31 rfl HL.out ?_) | fail)
 refine (HMU.out _).mono ?_
 rintro e w2 ⟨rfl, b2⟩
 have B2 := andThen B1 b2
 clear b2 B1 R1 HMU HL
 go_wp2
 go_ret
 exact ⟨rfl, B2⟩
theorem pend_l (S : Sg) (h : SH) (w : World) (k : SgAt w S h) (hT : Text.TabP 3 .i32 Text.Tx.lets w) (hnm : S.nm.size ≤ 140737488355000) (hc : chkS S = true) (hm : S.x.mayUndo = true) : Calls Tryz.prog 78 #[sv S h] w fun e w' => ∃ v, e = .returned v ∧ Fld.RoI (w.heap.size + 1) w' v (downs S.x.nx S.x.nx.toNat) ∧ Below w.heap.size w w' := by
 have hn := (good_nums S hc).2.2.2.2.2.2.2.2.1
 have HCK0 : ∀ w', Below w.heap.size w w' → Calls Tryz.prog 30 #[sv S h] w' fun e w'' => e = .returned (.int .i64 0) ∧ Below w'.heap.size w' w'' := fun w' hb => by have e := scheck_any S h w' (k.kept hb) (hT.kept hb) hnm; rw [hc] at e; exact e
 have HMU0 : ∀ w', Calls Tryz.prog 102 #[sv S h] w' fun e w'' => e = .returned (.bool true) ∧ Below w'.heap.size w' w'' := fun w' => by rw [← hm]; exact mayUndo_any S h w'
 have iw : IntKind.i64.wrap (S.x.nx - 1) = S.x.nx - 1 := IntWalk.i64_in _ (by omega)
 obtain ⟨D, hD, hL, hE⟩ := sv_letter S h
 rw [hD] at HCK0 HMU0 ⊢
 have HCK : Hid _ := HCK0
 have HMU : Hid _ := HMU0
 have HL : Hid _ := hL
 have HE : Hid (D = scl S h) := hE
 have HX : Hid (∀ t, (w.alloc (.cells D.toArray t)).rangeAt w.heap.size 0 D ∧ Below w.heap.size w (w.alloc (.cells D.toArray t))) := fun t => boxed w D t
 clear hD hL hE HCK0 HMU0
 clear k hT hnm hc hm
 go_enter Tryz.func78, Tryz.ntmps78
 go_wp2_with (first | (refine wpList_load_mid rfl 31 _ rfl w.heap.size 0 rfl D _ (HX.out _).1 Tryz.underlying31 rfl HL.out ?_) | (refine wpList_load_midG rfl 31 _ rfl w.heap.size 0 rfl D _ (HX.out _).1 Tryz.underlying31 rfl HL.out ?_) | fail)
 refine (HCK.out _ (HX.out _).2).mono ?_
 rintro e w1 ⟨rfl, b1⟩
 have B1 := andThen (HX.out _).2 b1
 have R1 := range_kept (HX.out _).1 b1
 clear b1 HX HCK
 go_wp2_with (first | (refine wpList_load_mid rfl 31 _ rfl w.heap.size 0 rfl D _ R1 Tryz.underlying31 rfl HL.out ?_) | (refine wpList_load_midG rfl 31 _ rfl w.heap.size 0 rfl D _ R1 Tryz.underlying31 rfl HL.out ?_) | fail)
 refine (HMU.out _).mono ?_
 rintro e w2 ⟨rfl, b2⟩
 have B2 := andThen B1 b2
 have R2 := range_kept R1 b2
 have c8 := range_cell R2 8 (.int .i64 S.x.nx) (by rw [HE.out]; rfl)
 clear b2 B1 R1 HMU HL
 go_wp2
 clear c8
 go_loopw [3, 4] (fun o i wr => ∃ j : Nat, (j : Int) ≤ S.x.nx ∧ i = .int .i64 (S.x.nx - 1 - (j : Int)) ∧ Fld.RoI (w.heap.size + 1) wr o (downs S.x.nx j) ∧ wr.rangeAt w.heap.size 0 D ∧ Below w.heap.size w wr) (fun _ i _ => (intOf i + 1).toNat)
 case atStart => exact ⟨0, by omega, by simp, Fld.roI_nil _ _, R2, B2⟩
 case round =>
  obtain ⟨j, hj, rfl, ho, hR, hbel⟩ := hrel
  by_cases hlt : (j : Int) < S.x.nx
  ·have g0 : decide (0 ≤ S.x.nx - 1 - (j : Int)) = true := by simp; omega
   have iw2 : IntKind.i64.wrap (S.x.nx - 1 - (j : Int) - 1) = S.x.nx - 1 - ((j + 1 : Nat) : Int) := by rw [IntWalk.i64_in _ (by omega)]; omega
   have HO : Hid (Fld.RoI (w.heap.size + 1) wr u3 (downs S.x.nx j)) := ho
   have HR : Hid (wr.rangeAt w.heap.size 0 D) := hR
   have HBEL : Hid (Below w.heap.size w wr) := hbel
   obtain ⟨i, hi⟩ : ∃ i, S.x.nx - 1 - (j : Int) = i := ⟨_, rfl⟩
   have HI : Hid (S.x.nx - 1 - (j : Int) = i) := hi
   rw [hi] at g0 iw2
   rw [hi]
   clear ho hR hbel hi
   have HLN : Hid ((downs S.x.nx j).length ≤ 32) := by show _ ≤ _; rw [downs_len]; omega
   have HCE : Hid ((wr.alloc (.cells #[.int .i64 i] 3)).cell? ⟨wr.heap.size, 0, none⟩ = some (.int .i64 i)) := by show _ = _; rw [World.cell?_alloc_new]; rfl
   have HSZ : Hid (w.heap.size + 1 ≤ (wr.alloc (.cells #[.int .i64 i] 3)).heap.size) := by
    show _ ≤ _
    have hlt0 : w.heap.size < wr.heap.size := World.block_lt_of_cell? wr ⟨w.heap.size, 0, none⟩ (range_cell HR.out 0 (.int .i64 S.x.id) (by rw [HE.out]; rfl))
    rw [heap_one]; omega
   go_wp2_with (at_builtin; refine Fld.wpList_app_int _ rfl (.tmp 20) (.tmp 22) 91 rfl (w.heap.size + 1) Fld.info3 Tryz.underlying91 _ (downs S.x.nx j) rfl (HO.out.kept (up0 _ _)) _ i rfl HCE.out (Nat.le_trans HLN.out (by decide)) HSZ.out ?_)
   intro v' w' hro hgr
   have HG : Hid (Fld.RoI (w.heap.size + 1) w' v' (downs S.x.nx (j + 1)) ∧ w'.rangeAt w.heap.size 0 D ∧ Below w.heap.size w w') := by
    have hold : Fld.RoI (w.heap.size + 1) (wr.alloc (.cells #[.int .i64 i] 3)) u3 (downs S.x.nx j) := HO.out.kept (up0 _ _)
    have hbw : Below w.heap.size w (wr.alloc (.cells #[.int .i64 i] 3)) := up HBEL.out _
    refine ⟨by rw [downs_next, HI.out]; exact hro, fun i2 v hv => ?_, (roI_weak hold (by omega)).below hbw hgr⟩
    have h1 := range_kept HR.out (up0 _ (.cells #[.int .i64 i] 3)) i2 v hv
    rw [← h1]
    refine World.cell?_of_block (w := wr.alloc (.cells #[.int .i64 i] 3)) (hgr.block w.heap.size (World.block_lt_of_cell? _ _ h1) (fun e => ?_))
    have := roI_block hold _ e.symm
    omega
   clear hro hgr HCE HSZ HO HR
   go_wp2
   go_roundw
   case rel => exact ⟨j + 1, by omega, by first | rfl | (rw [iw2]; rfl), HG.out.1, HG.out.2.1, HG.out.2.2⟩
   case measure => have := HI.out; simp [intOf]; omega
  ·have hje : S.x.nx = (j : Int) := by omega
   have g0 : decide (0 ≤ S.x.nx - 1 - (j : Int)) = false := by simp; omega
   have hjn : S.x.nx.toNat = j := by omega
   have HF : Hid (Fld.RoI (w.heap.size + 1) wr u3 (downs S.x.nx S.x.nx.toNat) ∧ Below w.heap.size w wr) := ⟨by rw [hjn]; exact ho, hbel⟩
   clear ho hbel hR hje hjn
   go_wp2
   go_ret
   exact ⟨_, rfl, HF.out.1, HF.out.2⟩
theorem pending_any (S : Sg) (h : SH) (w : World) (k : SgAt w S h) (hT : Text.TabP 3 .i32 Text.Tx.lets w) (hnm : S.nm.size ≤ 140737488355000) : Calls Tryz.prog 78 #[sv S h] w fun e w' => ∃ v, e = .returned v ∧ Fld.RoI w.heap.size w' v (pendP S) ∧ Below w.heap.size w w' := by
 unfold pendP
 cases hc : chkS S with
 | false => rw [if_pos rfl]; exact (pend_c S h w k hT hnm hc).mono fun e w' ⟨he, hb⟩ => ⟨_, he, Fld.roI_nil _ _, hb⟩
 | true =>
  rw [if_neg (by simp)]
  cases hm : S.x.mayUndo with
  | false => exact (pend_n S h w k hT hnm hc hm).mono fun e w' ⟨he, hb⟩ => ⟨_, he, Fld.roI_nil _ _, hb⟩
  | true => exact (pend_l S h w k hT hnm hc hm).mono fun e w' ⟨v, he, hr, hb⟩ => ⟨v, he, roI_weak hr (by omega), hb⟩
theorem rxallow_c (S : Sg) (h : SH) (w : World) (c : Int) (HCK0 : ∀ w', Below w.heap.size w w' → Calls Tryz.prog 34 #[sv S h] w' fun e w'' => e = .returned (.int .i64 c) ∧ Below w'.heap.size w' w'') (h0 : (c != 0) = true) : Calls Tryz.prog 76 #[sv S h] w fun e w' => e = .returned (.slice none 0 0) ∧ Below w.heap.size w w' := by
 obtain ⟨D, hD, hL, hE⟩ := sv_letter S h
 rw [hD] at HCK0 ⊢
 have HCK : Hid _ := HCK0
 have HL : Hid _ := hL
 have HX : Hid (LB (w.alloc (.cells D.toArray 31)) w.heap.size 31 D ∧ Below w.heap.size w (w.alloc (.cells D.toArray 31))) := ⟨lb_new w D _, up0 _ _⟩
 clear hD hL hE HCK0
 go_enter Tryz.func76, Tryz.ntmps76
 go_wp2_with (first | (refine wpList_load_mid rfl 31 _ rfl w.heap.size 0 rfl D _ HX.out.1.range Tryz.underlying31 rfl HL.out ?_) | fail)
 refine (HCK.out _ HX.out.2).mono ?_
 rintro e w1 ⟨rfl, b1⟩
 have B1 := andThen HX.out.2 b1
 clear b1 HX HCK HL
 go_wp2
 go_ret
 exact ⟨rfl, B1⟩

theorem rxallow_l (S : Sg) (h : SH) (w : World) (HCK0 : ∀ w', Below w.heap.size w w' → Calls Tryz.prog 34 #[sv S h] w' fun e w'' => e = .returned (.int .i64 0) ∧ Below w'.heap.size w' w'') (HRF0 : ∀ (j : Nat) (w' : World), 2 ≤ j → j ≤ 7 → Calls Tryz.prog 69 #[sv S h, rv (askR S.x j) ⟨#[]⟩ (.slice none 0 0)] w' fun e w'' => ∃ f, e = .returned (.int .i64 f) ∧ (f == 0) = mayR S.x j ∧ Below w'.heap.size w' w'') (ht : 0 ≤ S.x.tr ∧ S.x.tr ≤ 1000) (hn : 0 ≤ S.x.nx ∧ S.x.nx ≤ 32) : Calls Tryz.prog 76 #[sv S h] w fun e w' => ∃ v, e = .returned v ∧ Fld.RoI (w.heap.size + 1) w' v (upA S.x 8) ∧ Below w.heap.size w w' := by
 obtain ⟨N, hN⟩ : ∃ N, S.x.nextTry = N := ⟨_, rfl⟩
 have HNT : Hid (min (S.x.tr + 1) 1000 = N) := hN
 have HNE : Hid (S.x.nextTry = N) := hN
 obtain ⟨A, hA⟩ : ∃ A, (if S.x.ph = 2 then S.x.nx - 1 else S.x.nx) = A := ⟨_, rfl⟩
 have HA : Hid ((if S.x.ph = 2 then S.x.nx - 1 else S.x.nx) = A) := hA
 have i1 : IntKind.i64.wrap (S.x.tr + 1) = S.x.tr + 1 := IntWalk.i64_in _ (by omega)
 have i2 : IntKind.i64.wrap (S.x.nx - 1) = S.x.nx - 1 := IntWalk.i64_in _ (by omega)
 obtain ⟨ZR, hZR⟩ : ∃ ZR, ZR = zrl := ⟨_, rfl⟩
 have HZR : Hid (ZR = zrl) := hZR
 have HZRL : Hid (ZR.length = 12) := by show _ = _; rw [hZR]; rfl
 obtain ⟨D, hD, hL, hE⟩ := sv_letter S h
 rw [hD] at HCK0 HRF0 ⊢
 have HCK : Hid _ := HCK0
 have HRF : Hid _ := HRF0
 have HL : Hid _ := hL
 have HE : Hid (D = scl S h) := hE
 have HX : Hid (LB (w.alloc (.cells D.toArray 31)) w.heap.size 31 D ∧ Below w.heap.size w (w.alloc (.cells D.toArray 31))) := ⟨lb_new w D _, up0 _ _⟩
 clear hD hL hE HCK0 HRF0 hN hA hZR
 go_enter Tryz.func76, Tryz.ntmps76
 go_wp2_with (first | (refine wpList_load_mid rfl 31 _ rfl w.heap.size 0 rfl D _ HX.out.1.range Tryz.underlying31 rfl HL.out ?_) | fail)
 refine (HCK.out _ HX.out.2).mono ?_
 rintro e w1 ⟨rfl, b1⟩
 have B1 := andThen HX.out.2 b1
 have R1 := HX.out.1.kept b1
 clear b1 HX HCK
 have c10 := R1.cell 10 (.int .i64 S.x.tr) (by rw [HE.out]; rfl)
 have c8 := R1.cell 8 (.int .i64 S.x.nx) (by rw [HE.out]; rfl)
 have c7 := R1.cell 7 (.int .i64 S.x.ph) (by rw [HE.out]; rfl)
 go_upto_if 18 with fail
 go_cut [4] from 4 to 18 (fun s4 wx => s4 = .int .i64 N ∧ wx = w1)
 case first =>
  cases hT : decide (1000 < S.x.tr + 1) with
  | true =>
   have hNe : N = 1000 := by have e := HNT.out; simp at hT; omega
   go_wp2
   go_meet
   exact ⟨by rw [hNe], rfl⟩
  | false =>
   have hNe : N = S.x.tr + 1 := by have e := HNT.out; simp at hT; omega
   go_wp2
   go_meet
   exact ⟨by rw [hNe], rfl⟩
 case rest =>
  obtain ⟨rfl, rfl⟩ := hcut
  clear i1 c10 HNT ht
  go_upto_if 23 with fail
  go_cut [5] from 5 to 26 (fun s5 wx => s5 = .int .i64 A ∧ wx = wc)
  case first =>
   cases hT : (S.x.ph == 2) with
   | true =>
    have hNe : A = S.x.nx - 1 := by rw [← HA.out, if_pos (by simpa using hT)]
    go_wp2
    go_meet
    exact ⟨by rw [hNe], rfl⟩
   | false =>
    have hNe : A = S.x.nx := by rw [← HA.out, if_neg (by simpa using hT)]
    go_wp2
    go_meet
    exact ⟨by rw [hNe], rfl⟩
  case rest =>
   obtain ⟨rfl, rfl⟩ := hcut
   clear i2 c8 c7 hn
   go_wp2
   go_loopw [6, 7] (fun o i wr => ∃ j : Nat, 2 ≤ j ∧ j ≤ 8 ∧ i = .int .i64 (j : Int) ∧ Fld.RoI (w.heap.size + 1) wr o (upA S.x j) ∧ LB wr w.heap.size 31 D ∧ Below w.heap.size w wr) (fun _ i _ => 8 - (intOf i).toNat)
   case atStart => exact ⟨2, by omega, by omega, rfl, Fld.roI_nil _ _, R1, B1⟩
   case round =>
    obtain ⟨j, hj2, hj8, rfl, ho, hR, hbel⟩ := hrel
    by_cases hlt : j ≤ 7
    ·have h7 : ((j : Int) ≤ 7) = True := by simp; omega
     have HO : Hid (Fld.RoI (w.heap.size + 1) wr u6 (upA S.x j)) := ho
     have HBEL : Hid (Below w.heap.size w wr) := hbel
     have HNX : Hid (upA S.x (j + 1) = if mayR S.x j then upA S.x j ++ [(j : Int)] else upA S.x j) := upA_next S.x j hj2 hlt
     have HRJ : Hid _ := fun w' => HRF.out j w' hj2 hlt
     have c0 := hR.cell 0 (.int .i64 S.x.id) (by rw [HE.out]; rfl)
     obtain ⟨G, hG⟩ : ∃ G : List Value, rcE ⟨3, j, S.x.id, A, N, 0, 0, 0, 0, 0⟩ ⟨#[]⟩ (.slice none 0 0) = G := ⟨_, rfl⟩
     have HGE : Hid (rcE ⟨3, j, S.x.id, A, N, 0, 0, 0, 0, 0⟩ ⟨#[]⟩ (.slice none 0 0) = G) := hG
     have HGL : Hid ((Tryz.prog.info? 28).map (·.size) = some G.length) := by show _ = _; rw [← hG]; exact infoRec
     have HG1 : Hid (∀ v ∈ G, v.oneCell' = true) := by show ∀ v ∈ G, _; rw [← hG]; exact rcE_one _ _ _ rfl
     have HGZ : Hid (G.length = ZR.length) := by show _ = _; rw [← hG, HZRL.out]; rfl
     have HTZ : Hid ((wr.alloc (.cells ZR.toArray 28)).there wr.heap.size 0 G.toArray.size) := there_of (lb_new wr ZR _) (by simpa using HGZ.out)
     have H3 : Hid (∃ W3, W3 = (wr.alloc (.cells ZR.toArray 28)).setCells wr.heap.size 0 G ∧ LB W3 w.heap.size 31 D ∧ LB W3 wr.heap.size 28 G ∧ Below wr.heap.size wr W3) := by
      obtain ⟨q1, q2⟩ := one_boxR wr 28 ZR G HGZ.out
      exact ⟨_, rfl, hR.kept q2, q1, q2⟩
     have HLT : Hid (w.heap.size < wr.heap.size) := hR.lt
     clear ho hbel hR hG
     cases hk7 : ((j : Int) == 7) with
     | false =>
      have HRG : Hid (∀ w', Calls Tryz.prog 69 #[.agg D.toArray, .agg G.toArray] w' fun e w'' => ∃ f, e = .returned (.int .i64 f) ∧ (f == 0) = mayR S.x j ∧ Below w'.heap.size w' w'') := fun w' => by
       have e := HRJ.out w'
       have e2 : rv (askR S.x j) ⟨#[]⟩ (.slice none 0 0) = .agg G.toArray := by
        rw [← HGE.out]
        unfold askR
        rw [if_neg (by simpa using hk7), HA.out, HNE.out]
        rfl
       rw [e2] at e
       exact e
      clear HRJ HRF
      go_wp2_with (first | (refine wpList_alloc_R HZR.out rfl rfl ?_) | (refine wpList_store_mid rfl 28 (.tmp 8) (.tmp 36) rfl wr.heap.size 0 G.toArray rfl (by rw [← HGE.out]; rfl) HTZ.out (by simpa using HGL.out) (all_oneCell_toArray HG1.out) ?_; (obtain ⟨W3, hW3, hq⟩ := H3.out); (have H4 : Hid _ := hq); (rw [List.toList_toArray, ← hW3]); (clear hW3 hq H3 HTZ)) | (refine wpList_load_mid rfl 31 _ rfl w.heap.size 0 rfl D _ H4.out.1.range Tryz.underlying31 rfl HL.out ?_) | (refine wpList_load_mid rfl 28 _ rfl wr.heap.size 0 rfl G _ H4.out.2.1.range Tryz.underlying28 rfl HGL.out ?_) | fail)
      refine (HRG.out _).mono ?_
      rintro e w4 ⟨f, rfl, hf, b4⟩
      have H5 : Hid (LB w4 w.heap.size 31 D ∧ Below wr.heap.size wr w4) := ⟨H4.out.1.kept b4, andThen H4.out.2.2 b4⟩
      clear b4 H4 HRG HG1 HGZ c0 HLT HGL HGE
      cases hm : mayR S.x j with
      | false =>
       rw [hm] at hf
       have HG : Hid (Fld.RoI (w.heap.size + 1) w4 u6 (upA S.x (j + 1)) ∧ LB w4 w.heap.size 31 D ∧ Below w.heap.size w w4) := ⟨by rw [HNX.out, hm, if_neg (by simp)]; exact HO.out.kept H5.out.2, H5.out.1, andThen HBEL.out H5.out.2⟩
       clear H5 HO HNX hm
       go_wp2
       go_roundw
       case rel => exact ⟨j + 1, by omega, by omega, by go_num, HG.out.1, HG.out.2.1, HG.out.2.2⟩
       case measure => simp [intOf]; omega
      | true =>
       rw [hm] at hf
       have HN2 : Hid (upA S.x (j + 1) = upA S.x j ++ [(j : Int)]) := by show _ = _; rw [HNX.out, if_pos hm]
       have HLN : Hid ((upA S.x j).length ≤ 6) := upA_len _ _
       have HCE : Hid ((w4.alloc (.cells #[.int .i64 (j : Int)] 3)).cell? ⟨w4.heap.size, 0, none⟩ = some (.int .i64 (j : Int))) := by show _ = _; rw [World.cell?_alloc_new]; rfl
       have HSZ : Hid (w.heap.size + 1 ≤ (w4.alloc (.cells #[.int .i64 (j : Int)] 3)).heap.size) := by show _ ≤ _; rw [heap_one]; have := H5.out.1.lt; omega
       clear hm HNX
       go_wp2_with (at_builtin; refine Fld.wpList_app_int _ rfl (.tmp 45) (.tmp 47) 91 rfl (w.heap.size + 1) Fld.info3 Tryz.underlying91 _ (upA S.x j) rfl ((HO.out.kept H5.out.2).kept (up0 _ _)) _ (j : Int) rfl HCE.out (Nat.le_trans HLN.out (by decide)) HSZ.out ?_)
       intro v' w' hro hgr
       have HG : Hid (Fld.RoI (w.heap.size + 1) w' v' (upA S.x (j + 1)) ∧ LB w' w.heap.size 31 D ∧ Below w.heap.size w w') := by
        have hold : Fld.RoI (w.heap.size + 1) (w4.alloc (.cells #[.int .i64 (j : Int)] 3)) u6 (upA S.x j) := (HO.out.kept H5.out.2).kept (up0 _ _)
        have hbw : Below w.heap.size w (w4.alloc (.cells #[.int .i64 (j : Int)] 3)) := up (andThen HBEL.out H5.out.2) _
        have h1 : LB (w4.alloc (.cells #[.int .i64 (j : Int)] 3)) w.heap.size 31 D := H5.out.1.kept (up0 _ _)
        refine ⟨by rw [HN2.out]; exact hro, (hgr.block w.heap.size h1.lt (fun e => ?_)).trans h1, (roI_weak hold (by omega)).below hbw hgr⟩
        have := roI_block hold _ e.symm
        omega
       clear hro hgr HCE HSZ HO HN2 H5
       go_wp2
       go_roundw
       case rel => exact ⟨j + 1, by omega, by omega, by go_num, HG.out.1, HG.out.2.1, HG.out.2.2⟩
       case measure => simp [intOf]; omega
     | true =>
      have hj7 : j = 7 := by simp at hk7; omega
      obtain ⟨G2, hG2⟩ : ∃ G2 : List Value, G.set 3 (.int .i64 0) = G2 := ⟨_, rfl⟩
      have HG2E : Hid (G.set 3 (.int .i64 0) = G2) := hG2
      have HG2L : Hid ((Tryz.prog.info? 28).map (·.size) = some G2.length) := by show _ = _; rw [← hG2, List.length_set]; exact HGL.out
      have HRG : Hid (∀ w', Calls Tryz.prog 69 #[.agg D.toArray, .agg G2.toArray] w' fun e w'' => ∃ f, e = .returned (.int .i64 f) ∧ (f == 0) = mayR S.x j ∧ Below w'.heap.size w' w'') := fun w' => by
       have e := HRJ.out w'
       have e2 : rv (askR S.x j) ⟨#[]⟩ (.slice none 0 0) = .agg G2.toArray := by
        rw [← HG2E.out, ← HGE.out]
        unfold askR
        rw [if_pos (by simpa using hk7), HNE.out]
        rfl
       rw [e2] at e
       exact e
      clear HRJ HRF hG2 hj7
      go_wp2_with (first | (refine wpList_alloc_R HZR.out rfl rfl ?_) | (refine wpList_store_mid rfl 28 (.tmp 8) (.tmp 36) rfl wr.heap.size 0 G.toArray rfl (by rw [← HGE.out]; rfl) HTZ.out (by simpa using HGL.out) (all_oneCell_toArray HG1.out) ?_; (obtain ⟨W3, hW3, hq⟩ := H3.out); (have H4 : Hid _ := hq); (have g3 := H4.out.2.1.cell 3 (.int .i64 A) (by rw [← HGE.out]; rfl)); (have f3 := H4.out.2.1.free 3); (rw [List.toList_toArray, ← hW3]); (clear hW3 hq H3 HTZ)) | ((obtain ⟨W5, hW5⟩ : ∃ W5, W3.setCell ⟨wr.heap.size, 3, none⟩ (.int .i64 0) = W5 := ⟨_, rfl⟩); (have H6 : Hid (LB W5 w.heap.size 31 D ∧ LB W5 wr.heap.size 28 G2 ∧ Below wr.heap.size wr W5) := by rw [← hW5, ← HG2E.out]; exact ⟨H4.out.1.other _ _ (show w.heap.size ≠ wr.heap.size by have := HLT.out; omega), H4.out.2.1.set _ _, Below.setCell H4.out.2.2 (Nat.le_refl _) _⟩); (rw [hW5]); (clear hW5); (refine wpList_load_mid rfl 31 _ rfl w.heap.size 0 rfl D _ H6.out.1.range Tryz.underlying31 rfl HL.out ?_)) | (refine wpList_load_mid rfl 28 _ rfl wr.heap.size 0 rfl G2 _ H6.out.2.1.range Tryz.underlying28 rfl HG2L.out ?_) | fail)
      refine (HRG.out _).mono ?_
      rintro e w4 ⟨f, rfl, hf, b4⟩
      have H5 : Hid (LB w4 w.heap.size 31 D ∧ Below wr.heap.size wr w4) := ⟨H6.out.1.kept b4, andThen H6.out.2.2 b4⟩
      clear b4 H4 H6 HRG HG1 HGZ c0 HLT HGL HGE HG2E HG2L g3 f3
      cases hm : mayR S.x j with
      | false =>
       rw [hm] at hf
       have HG : Hid (Fld.RoI (w.heap.size + 1) w4 u6 (upA S.x (j + 1)) ∧ LB w4 w.heap.size 31 D ∧ Below w.heap.size w w4) := ⟨by rw [HNX.out, hm, if_neg (by simp)]; exact HO.out.kept H5.out.2, H5.out.1, andThen HBEL.out H5.out.2⟩
       clear H5 HO HNX hm
       go_wp2
       go_roundw
       case rel => exact ⟨j + 1, by omega, by omega, by go_num, HG.out.1, HG.out.2.1, HG.out.2.2⟩
       case measure => simp [intOf]; omega
      | true =>
       rw [hm] at hf
       have HN2 : Hid (upA S.x (j + 1) = upA S.x j ++ [(j : Int)]) := by show _ = _; rw [HNX.out, if_pos hm]
       have HLN : Hid ((upA S.x j).length ≤ 6) := upA_len _ _
       have HCE : Hid ((w4.alloc (.cells #[.int .i64 (j : Int)] 3)).cell? ⟨w4.heap.size, 0, none⟩ = some (.int .i64 (j : Int))) := by show _ = _; rw [World.cell?_alloc_new]; rfl
       have HSZ : Hid (w.heap.size + 1 ≤ (w4.alloc (.cells #[.int .i64 (j : Int)] 3)).heap.size) := by show _ ≤ _; rw [heap_one]; have := H5.out.1.lt; omega
       clear hm HNX
       go_wp2_with (at_builtin; refine Fld.wpList_app_int _ rfl (.tmp 45) (.tmp 47) 91 rfl (w.heap.size + 1) Fld.info3 Tryz.underlying91 _ (upA S.x j) rfl ((HO.out.kept H5.out.2).kept (up0 _ _)) _ (j : Int) rfl HCE.out (Nat.le_trans HLN.out (by decide)) HSZ.out ?_)
       intro v' w' hro hgr
       have HG : Hid (Fld.RoI (w.heap.size + 1) w' v' (upA S.x (j + 1)) ∧ LB w' w.heap.size 31 D ∧ Below w.heap.size w w') := by
        have hold : Fld.RoI (w.heap.size + 1) (w4.alloc (.cells #[.int .i64 (j : Int)] 3)) u6 (upA S.x j) := (HO.out.kept H5.out.2).kept (up0 _ _)
        have hbw : Below w.heap.size w (w4.alloc (.cells #[.int .i64 (j : Int)] 3)) := up (andThen HBEL.out H5.out.2) _
        have h1 : LB (w4.alloc (.cells #[.int .i64 (j : Int)] 3)) w.heap.size 31 D := H5.out.1.kept (up0 _ _)
        refine ⟨by rw [HN2.out]; exact hro, (hgr.block w.heap.size h1.lt (fun e => ?_)).trans h1, (roI_weak hold (by omega)).below hbw hgr⟩
        have := roI_block hold _ e.symm
        omega
       clear hro hgr HCE HSZ HO HN2 H5
       go_wp2
       go_roundw
       case rel => exact ⟨j + 1, by omega, by omega, by go_num, HG.out.1, HG.out.2.1, HG.out.2.2⟩
       case measure => simp [intOf]; omega
    ·obtain rfl : j = 8 := by omega
     have HF : Hid (Fld.RoI (w.heap.size + 1) wr u6 (upA S.x 8) ∧ Below w.heap.size w wr) := ⟨ho, hbel⟩
     clear ho hbel hR
     go_wp2
     go_ret
     exact ⟨_, rfl, HF.out.1, HF.out.2⟩
theorem sameInts_ro (B B2 : Nat) (va vb : Value) (l : List Int) (w : World) (h : Fld.RoI B w va l) (h2 : Fld.RoI B2 w vb l) (hl : l.length ≤ 1000) :
  Calls Tryz.prog 77 #[va, vb] w fun e w' => e = .returned (.bool true) ∧ Below w.heap.size w w' := by
 obtain ⟨ao, ca, rfl⟩ := h.shape
 obtain ⟨ao2, ca2, rfl⟩ := h2.shape
 have d0 : ((l.length : Int) != (l.length : Int)) = false := by simp
 go_enter Tryz.func77, Tryz.ntmps77
 go_wp2
 go_loopw [5] (fun i wr => ∃ k : Nat, k ≤ l.length ∧ i = .int .i64 (k : Int) ∧ Below w.heap.size w wr) (fun i _ => l.length - (intOf i).toNat)
 case atStart => exact ⟨0, Nat.zero_le _, rfl, Below.refl _ _⟩
 case round =>
  obtain ⟨k, hk, rfl, hbel⟩ := hrel
  by_cases hlt : k < l.length
  ·obtain ⟨g1, rfl, hc⟩ := h.cell k hlt
   obtain ⟨g2, rfl, hc2⟩ := h2.cell k hlt
   have q1 := (hbel.cell (p := ⟨g1, k, none⟩) (World.block_lt_of_cell? _ _ hc)).trans hc
   have q2 := (hbel.cell (p := ⟨g2, k, none⟩) (World.block_lt_of_cell? _ _ hc2)).trans hc2
   clear hc hc2
   generalize l[k] = y at *
   have d1 : (y != y) = false := by simp
   go_wp2
   go_quiet (fail)
   go_wp2
   go_roundw
   case rel => exact ⟨k + 1, by omega, by go_num, bdrewN hbel _⟩
   case measure => simp [intOf]; omega
  ·obtain rfl : k = l.length := by omega
   go_wp2
   go_ret
   exact ⟨rfl, hbel⟩
theorem asked_fin (S : Sg) (h : SH) (x : Nums) (nm : ByteArray) (d : Value) (w : World) (t : Bool) (HF0 : ∀ w', Below w.heap.size w w' → Calls Tryz.prog 73 #[sv S h] w' fun e w'' => e = .returned (.bool t) ∧ Below w'.heap.size w' w'') (HG0 : ∀ w', Below w.heap.size w w' → Calls Tryz.prog 74 #[sv S h] w' fun e w'' => e = .returned (.bool t) ∧ Below w'.heap.size w' w'') : Calls Tryz.prog 40 #[ov 3 S h x nm d] w fun e w' => e = .returned (.bool true) ∧ Below w.heap.size w w' := by
 obtain ⟨D, hD, hL, hE⟩ := sv_letter S h
 obtain ⟨E, hE2⟩ : ∃ E, rcE x nm d = E := ⟨_, rfl⟩
 rw [hD] at HF0 HG0
 unfold ov
 rw [← hE, hE2]
 obtain ⟨L, hLL⟩ : ∃ L, (.int .i64 3 :: (D ++ E) : List Value) = L := ⟨_, rfl⟩
 rw [hLL]
 have HLL : Hid ((.int .i64 3 :: (D ++ E) : List Value) = L) := hLL
 have HL : Hid _ := hL
 have HX : Hid ((w.alloc (.cells L.toArray 40)).rangeAt w.heap.size 0 L ∧ Below w.heap.size w (w.alloc (.cells L.toArray 40))) := boxed w L _
 have HRD : Hid (∀ w' : World, w'.rangeAt w.heap.size 0 L → w'.rangeAt w.heap.size 1 D) := fun w' hr => by rw [← HLL.out] at hr; exact mid_range hr
 have k0 := range_cell HX.out.1 0 (.int .i64 3) (by rw [← HLL.out]; rfl)
 clear hD hL hE hE2 hLL
 have HF : Hid _ := HF0
 have HG : Hid _ := HG0
 clear HF0 HG0
 go_enter Tryz.func40, Tryz.ntmps40
 go_wp2_with (first | (refine wpList_load_mid rfl 31 _ rfl w.heap.size 1 rfl D _ (HRD.out _ HX.out.1) Tryz.underlying31 rfl HL.out ?_) | fail)
 refine (HF.out _ HX.out.2).mono ?_
 rintro e w1 ⟨rfl, b1⟩
 have H1 : Hid (w1.rangeAt w.heap.size 0 L ∧ Below w.heap.size w w1) := ⟨range_kept HX.out.1 b1, andThen HX.out.2 b1⟩
 clear b1 HX HF k0
 go_wp2_with (first | (refine wpList_load_mid rfl 31 _ rfl w.heap.size 1 rfl D _ (HRD.out _ H1.out.1) Tryz.underlying31 rfl HL.out ?_) | fail)
 refine (HG.out _ H1.out.2).mono ?_
 rintro e w2 ⟨rfl, b2⟩
 have B2 := andThen H1.out.2 b2
 clear b2 H1 HG HRD
 go_wp2
 go_ret
 exact ⟨rfl, B2⟩
theorem asked_all (S : Sg) (h : SH) (x : Nums) (nm : ByteArray) (d : Value) (w : World) (l : List Int) (hl : l.length ≤ 1000) (HF0 : ∀ w', Below w.heap.size w w' → Calls Tryz.prog 75 #[sv S h] w' fun e w'' => ∃ v, e = .returned v ∧ Fld.RoI w'.heap.size w'' v l ∧ Below w'.heap.size w' w'') (HG0 : ∀ w', Below w.heap.size w w' → Calls Tryz.prog 76 #[sv S h] w' fun e w'' => ∃ v, e = .returned v ∧ Fld.RoI w'.heap.size w'' v l ∧ Below w'.heap.size w' w'') : Calls Tryz.prog 40 #[ov 4 S h x nm d] w fun e w' => e = .returned (.bool true) ∧ Below w.heap.size w w' := by
 obtain ⟨D, hD, hL, hE⟩ := sv_letter S h
 obtain ⟨E, hE2⟩ : ∃ E, rcE x nm d = E := ⟨_, rfl⟩
 rw [hD] at HF0 HG0
 unfold ov
 rw [← hE, hE2]
 obtain ⟨L, hLL⟩ : ∃ L, (.int .i64 4 :: (D ++ E) : List Value) = L := ⟨_, rfl⟩
 rw [hLL]
 have HLL : Hid ((.int .i64 4 :: (D ++ E) : List Value) = L) := hLL
 have HL : Hid _ := hL
 have HX : Hid ((w.alloc (.cells L.toArray 40)).rangeAt w.heap.size 0 L ∧ Below w.heap.size w (w.alloc (.cells L.toArray 40))) := boxed w L _
 have HRD : Hid (∀ w' : World, w'.rangeAt w.heap.size 0 L → w'.rangeAt w.heap.size 1 D) := fun w' hr => by rw [← HLL.out] at hr; exact mid_range hr
 have k0 := range_cell HX.out.1 0 (.int .i64 4) (by rw [← HLL.out]; rfl)
 clear hD hL hE hE2 hLL
 have HF : Hid _ := HF0
 have HG : Hid _ := HG0
 clear HF0 HG0
 go_enter Tryz.func40, Tryz.ntmps40
 go_wp2_with (first | (refine wpList_load_mid rfl 31 _ rfl w.heap.size 1 rfl D _ (HRD.out _ HX.out.1) Tryz.underlying31 rfl HL.out ?_) | fail)
 refine (HF.out _ HX.out.2).mono ?_
 rintro e w1 ⟨v1, rfl, o1, b1⟩
 have H1 : Hid (w1.rangeAt w.heap.size 0 L ∧ Below w.heap.size w w1) := ⟨range_kept HX.out.1 b1, andThen HX.out.2 b1⟩
 clear b1 HX HF k0
 go_wp2_with (first | (refine wpList_load_mid rfl 31 _ rfl w.heap.size 1 rfl D _ (HRD.out _ H1.out.1) Tryz.underlying31 rfl HL.out ?_) | fail)
 refine (HG.out _ H1.out.2).mono ?_
 rintro e w2 ⟨v2, rfl, o2, b2⟩
 have B2 := andThen H1.out.2 b2
 have HS : Hid (Calls Tryz.prog 77 #[v1, v2] w2 fun e w' => e = .returned (.bool true) ∧ Below w2.heap.size w2 w') := sameInts_ro _ _ v1 v2 l w2 (o1.kept b2) o2 hl
 clear b2 H1 HG HRD o1 o2
 go_wp2_with fail
 refine Calls.mono HS.out ?_
 rintro e w3 ⟨rfl, b3⟩
 have B3 := andThen B2 b3
 clear b3 B2 HS
 go_wp2
 go_ret
 exact ⟨rfl, B3⟩
theorem asked_pend (S : Sg) (h : SH) (x : Nums) (nm : ByteArray) (d : Value) (w : World) (l : List Int) (hl : l.length ≤ 1000) (HF0 : ∀ w', Below w.heap.size w w' → Calls Tryz.prog 78 #[sv S h] w' fun e w'' => ∃ v, e = .returned v ∧ Fld.RoI w'.heap.size w'' v l ∧ Below w'.heap.size w' w'') (HG0 : ∀ w', Below w.heap.size w w' → Calls Tryz.prog 79 #[sv S h] w' fun e w'' => ∃ v, e = .returned v ∧ Fld.RoI w'.heap.size w'' v l ∧ Below w'.heap.size w' w'') : Calls Tryz.prog 40 #[ov 5 S h x nm d] w fun e w' => e = .returned (.bool true) ∧ Below w.heap.size w w' := by
 obtain ⟨D, hD, hL, hE⟩ := sv_letter S h
 obtain ⟨E, hE2⟩ : ∃ E, rcE x nm d = E := ⟨_, rfl⟩
 rw [hD] at HF0 HG0
 unfold ov
 rw [← hE, hE2]
 obtain ⟨L, hLL⟩ : ∃ L, (.int .i64 5 :: (D ++ E) : List Value) = L := ⟨_, rfl⟩
 rw [hLL]
 have HLL : Hid ((.int .i64 5 :: (D ++ E) : List Value) = L) := hLL
 have HL : Hid _ := hL
 have HX : Hid ((w.alloc (.cells L.toArray 40)).rangeAt w.heap.size 0 L ∧ Below w.heap.size w (w.alloc (.cells L.toArray 40))) := boxed w L _
 have HRD : Hid (∀ w' : World, w'.rangeAt w.heap.size 0 L → w'.rangeAt w.heap.size 1 D) := fun w' hr => by rw [← HLL.out] at hr; exact mid_range hr
 have k0 := range_cell HX.out.1 0 (.int .i64 5) (by rw [← HLL.out]; rfl)
 clear hD hL hE hE2 hLL
 have HF : Hid _ := HF0
 have HG : Hid _ := HG0
 clear HF0 HG0
 go_enter Tryz.func40, Tryz.ntmps40
 go_wp2_with (first | (refine wpList_load_mid rfl 31 _ rfl w.heap.size 1 rfl D _ (HRD.out _ HX.out.1) Tryz.underlying31 rfl HL.out ?_) | fail)
 refine (HF.out _ HX.out.2).mono ?_
 rintro e w1 ⟨v1, rfl, o1, b1⟩
 have H1 : Hid (w1.rangeAt w.heap.size 0 L ∧ Below w.heap.size w w1) := ⟨range_kept HX.out.1 b1, andThen HX.out.2 b1⟩
 clear b1 HX HF k0
 go_wp2_with (first | (refine wpList_load_mid rfl 31 _ rfl w.heap.size 1 rfl D _ (HRD.out _ H1.out.1) Tryz.underlying31 rfl HL.out ?_) | fail)
 refine (HG.out _ H1.out.2).mono ?_
 rintro e w2 ⟨v2, rfl, o2, b2⟩
 have B2 := andThen H1.out.2 b2
 have HS : Hid (Calls Tryz.prog 77 #[v1, v2] w2 fun e w' => e = .returned (.bool true) ∧ Below w2.heap.size w2 w') := sameInts_ro _ _ v1 v2 l w2 (o1.kept b2) o2 hl
 clear b2 H1 HG HRD o1 o2
 go_wp2_with fail
 refine Calls.mono HS.out ?_
 rintro e w3 ⟨rfl, b3⟩
 have B3 := andThen B2 b3
 clear b3 B2 HS
 go_wp2
 go_ret
 exact ⟨rfl, B3⟩
theorem nextTry_ne (x : SN) (h : 0 ≤ x.tr ∧ x.tr ≤ 1000) : x.nextTry ≠ 0 := by
 unfold SN.nextTry
 omega
theorem asked_3 (S : Sg) (h : SH) (x : Nums) (nm : ByteArray) (d : Value) (w : World) (k : SgAt w S h) (hT : Text.TabP 3 .i32 Text.Tx.lets w) (hR : Tabs w) (hns : S.nm.size ≤ 1048576) (hc : chkS S = true) (hfc : -9223372036854775808 ≤ S.x.fc ∧ S.x.fc ≤ 9223372036854775807) : Calls Tryz.prog 40 #[ov 3 S h x nm d] w fun e w' => e = .returned (.bool true) ∧ Below w.heap.size w w' := by
 have g5 := (good_nums S hc).2.2.2.2.1
 refine asked_fin S h x nm d w S.x.ended (fun w' hb => ?_) (fun w' hb => ?_)
 ·have e := finished_any S h w' (k.kept hb) (hT.kept hb) (by omega)
  rw [hc, Bool.true_and] at e
  exact e
 ·have e := rxfin_gen S h w' 0 (fun w2 hb2 => rxcheck_ok S h w2 ((k.kept hb).kept hb2) ((hR.kept hb).kept hb2) hns hc hfc)
  have e2 : ((0 : Int) == 0 && decide (3 ≤ S.x.ph)) = S.x.ended := by
   unfold SN.ended
   have h1 : S.x.ph = 1 ∨ S.x.ph = 2 ∨ S.x.ph = 3 ∨ S.x.ph = 4 := by omega
   rcases h1 with h1 | h1 | h1 | h1 <;> simp [h1]
  rw [e2] at e
  exact e
theorem asked_4 (S : Sg) (h : SH) (x : Nums) (nm : ByteArray) (d : Value) (w : World) (k : SgAt w S h) (hT : Text.TabP 3 .i32 Text.Tx.lets w) (hK : KindsT w) (hR : Tabs w) (hns : S.nm.size ≤ 1048576) (hc : chkS S = true) (hfc : -9223372036854775808 ≤ S.x.fc ∧ S.x.fc ≤ 9223372036854775807) : Calls Tryz.prog 40 #[ov 4 S h x nm d] w fun e w' => e = .returned (.bool true) ∧ Below w.heap.size w w' := by
 obtain ⟨_, _, _, g4, _, _, _, _, g9, _, _⟩ := good_nums S hc
 refine asked_all S h x nm d w (allowedP S) (by have := (allowed_small S).1; omega) (fun w' hb => allowed_any S h w' (k.kept hb) (hT.kept hb) (hK.kept hb) (by omega)) (fun w' hb => ?_)
 refine (rxallow_l S h w' (fun w2 hb2 => rxcheck_ok S h w2 ((k.kept hb).kept hb2) ((hR.kept hb).kept hb2) hns hc hfc) (fun j w2 h2 h7 => ?_) g4 g9).mono ?_
 ·exact (rref_try S h (askR S.x j) ⟨#[]⟩ (.slice none 0 0) w2 hc ⟨show (2 : Int) ≤ (j : Int) by omega, show (j : Int) ≤ 7 by omega⟩ rfl (nextTry_ne S.x g4)).mono fun e w'' h1 => ⟨_, h1.1, rfl, h1.2⟩
 ·rintro e w'' ⟨v, h1, h2, h3⟩
  exact ⟨v, h1, by rw [← upA_all S hc]; exact roI_weak h2 (by omega), h3⟩
theorem asked_5 (S : Sg) (h : SH) (x : Nums) (nm : ByteArray) (d : Value) (w : World) (k : SgAt w S h) (hT : Text.TabP 3 .i32 Text.Tx.lets w) (hR : Tabs w) (hns : S.nm.size ≤ 1048576) (hc : chkS S = true) (hfc : -9223372036854775808 ≤ S.x.fc ∧ S.x.fc ≤ 9223372036854775807) : Calls Tryz.prog 40 #[ov 5 S h x nm d] w fun e w' => e = .returned (.bool true) ∧ Below w.heap.size w w' := by
 have g9 := (good_nums S hc).2.2.2.2.2.2.2.2.1
 have hl : (pendP S).length ≤ 1000 := by
  unfold pendP
  rw [if_neg (by simp [hc])]
  split
  ·rw [downs_len]; omega
  ·simp
 exact asked_pend S h x nm d w (pendP S) hl (fun w' hb => pending_any S h w' (k.kept hb) (hT.kept hb) (by omega)) (fun w' hb => rxpend_any S h w' (fun w2 hb2 => rxcheck_ok S h w2 ((k.kept hb).kept hb2) ((hR.kept hb).kept hb2) hns hc hfc) hc)
theorem rxcheck_any (S : Sg) (h : SH) (w : World) (k : SgAt w S h) (hT : Tabs w) (hF : Fits S) : Calls Tryz.prog 34 #[sv S h] w fun e w' => e = .returned (.int .i64 (ckE (chkS S))) ∧ Below w.heap.size w w' := by
 cases hc : chkS S with
 | true => exact rxcheck_ok S h w k hT hF.nm hc hF.fc
 | false => exact rxcheck_bad S h w k hT hF hc
end Go.Proofs.YtgmkjcfdpiinpaaGreatDoor

