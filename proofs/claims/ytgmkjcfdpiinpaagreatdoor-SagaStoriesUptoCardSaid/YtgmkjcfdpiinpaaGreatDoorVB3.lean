import Derived.Deep.CutRange
import Derived.Test.YtgmkjcfdpiinpaaGreatDoorVF8
import Derived.Test.YtgmkjcfdpiinpaaGreatDoorVB2
set_option maxRecDepth 100000
namespace Go.Proofs.YtgmkjcfdpiinpaaGreatDoor
open Go Go.RowKit
open Wb

set_option maxHeartbeats 8000000 in
theorem answered_8 (S : Sg) (h : SH) (r : Rec) (d : Value) (w : World) (k : SgAt w S h) (hF : Fits S) : Calls Tryz.prog 24 #[ov 8 S h r.x r.nm d] w fun e w' => e = .returned (.bool true) ∧ Below w.heap.size w w' := by
 have HA0 : ∀ w', Below w.heap.size w w' → Calls Tryz.prog 32 #[sv S h] w' fun e w'' => ∃ h', e = .returned (sv S h') ∧ SgO 0 w'' S h' ∧ Below w'.heap.size w' w'' := fun w' hb' => (sclone_any S h w' (k.kept hb') (fits_light hF)).mono fun e w'' ⟨h', e1, e2, e3⟩ => ⟨h', e1, (own_o e2).weak (Nat.zero_le _), e3⟩
 have HSM0 : ∀ (h1 : SH) (w' : World), Below w.heap.size w w' → SgO 0 w' S h1 → Calls Tryz.prog 12 #[sv S h1, sv S h] w' fun e w'' => e = .returned (.bool true) ∧ Below w'.heap.size w' w'' := fun h1 w' hb' q => same_any S h1 h w' q.at (k.kept hb')
 obtain ⟨Z, hZ⟩ : ∃ Z, Z = zcl := ⟨_, rfl⟩
 have HZ : Hid (Z = zcl) := hZ
 have HZL : Hid (Z.length = 16) := by show _ = _; rw [hZ]; rfl
 obtain ⟨D, hD, hL, hE⟩ := sv_letter S h
 obtain ⟨E, hD2, hL2, hE2⟩ := rv_letter r.x r.nm d
 have hov : ov 8 S h r.x r.nm d = .agg (.int .i64 8 :: (D ++ E)).toArray := by unfold ov; rw [hE, hE2]
 rw [hov]
 have HL : Hid _ := hL
 have HL2 : Hid _ := hL2
 have hDl : D.length = 16 := by rw [hE]; rfl
 have k0 := (lb_new w (.int .i64 8 :: (D ++ E)) 40).cell 0 (.int .i64 8) rfl
 obtain ⟨L, hLL⟩ : ∃ L, (.int .i64 8 :: (D ++ E) : List Value) = L := ⟨_, rfl⟩
 have HRD : Hid (∀ wx, LB wx w.heap.size 40 L → wx.rangeAt w.heap.size 1 D ∧ wx.rangeAt w.heap.size 17 E) := fun wx l => by
  rw [← hLL] at l
  exact ⟨mid_range l.range, end_range l.range hDl⟩
 rw [hLL] at k0 ⊢
 have HX : Hid (LB (w.alloc (.cells L.toArray 40)) w.heap.size 40 L ∧ Below w.heap.size w (w.alloc (.cells L.toArray 40))) := ⟨lb_new w L _, up0 _ _⟩
 clear hov hLL
 rw [hD] at HA0
 have HA : Hid _ := HA0
 have HSM : Hid (∀ (h1 : SH) (T : List Value) (w' : World), sv S h1 = .agg T.toArray → Below w.heap.size w w' → SgO 0 w' S h1 → Calls Tryz.prog 12 #[.agg T.toArray, .agg D.toArray] w' fun e w'' => e = .returned (.bool true) ∧ Below w'.heap.size w' w'') := fun h1 T w' e1 hb' q => by have e := HSM0 h1 w' hb' q; rw [e1, hD] at e; exact e
 clear hD hL hE hD2 hL2 hE2 HA0 HSM0 hZ hDl k hF HL2
 go_enter Tryz.func24, Tryz.ntmps24
 go_wp2_with (first | (refine wpList_load_mid rfl 31 _ rfl w.heap.size 1 rfl D _ (HRD.out _ HX.out.1).1 Tryz.underlying31 rfl HL.out ?_) | fail)
 refine (HA.out _ HX.out.2).mono ?_
 rintro e w1 ⟨h1, rfl, o1, b1⟩
 obtain ⟨T1, hT1, hTL1, hTE1⟩ := sv_letter S h1
 rw [hT1]
 have TL1 : Hid _ := hTL1
 have TV1 : Hid (sv S h1 = .agg T1.toArray) := hT1
 have TO1 : Hid (∀ v ∈ T1, v.oneCell' = true) := by show ∀ v ∈ T1, _; rw [hTE1]; exact scl_one _ _
 have TZ1 : Hid (T1.length = Z.length) := by show _ = _; rw [hTE1, HZL.out]; rfl
 have TT1 : Hid ((w1.alloc (.cells Z.toArray 31)).there w1.heap.size 0 T1.toArray.size) := there_of (lb_new w1 Z _) (by simpa using TZ1.out)
 have E1 : Hid (∃ Y, Y = (w1.alloc (.cells Z.toArray 31)).setCells w1.heap.size 0 T1 ∧ LB Y w.heap.size 40 L ∧ LB Y w1.heap.size 31 T1 ∧ SgO 0 Y S h1 ∧ Below w.heap.size w Y) := by
  obtain ⟨q1, q2⟩ := one_boxR w1 31 Z T1 TZ1.out
  exact ⟨_, rfl, (HX.out.1.kept b1).kept q2, q1, o1.kept q2, andThen (andThen HX.out.2 b1) q2⟩
 clear hT1 hTL1 hTE1 o1 b1 HX HA k0
 go_wp2_with (first | (refine wpList_alloc_Z HZ.out rfl rfl ?_) | (refine wpList_store_mid rfl 31 (.tmp 15) (.tmp 102) rfl w1.heap.size 0 T1.toArray rfl rfl TT1.out (by simpa using TL1.out) (all_oneCell_toArray TO1.out) ?_; (obtain ⟨Y, hY, hq⟩ := E1.out); (have H1 : Hid _ := hq); (rw [List.toList_toArray, ← hY]); (clear hY hq E1 TT1)) | (refine wpList_load_mid rfl 31 _ rfl w1.heap.size 0 rfl T1 _ H1.out.2.1.range Tryz.underlying31 rfl TL1.out ?_) | (refine wpList_load_mid rfl 31 _ rfl w.heap.size 1 rfl D _ (HRD.out _ H1.out.1).1 Tryz.underlying31 rfl HL.out ?_) | fail)
 refine (HSM.out h1 T1 _ TV1.out H1.out.2.2.2 H1.out.2.2.1).mono ?_
 rintro e w3 ⟨rfl, b3⟩
 have H3 : Hid (Below w.heap.size w w3) := andThen H1.out.2.2.2 b3
 clear b3 H1 HSM
 go_wp2
 go_ret
 exact ⟨rfl, H3.out⟩
theorem answered_7 (S : Sg) (h : SH) (r : Rec) (d : Value) (w : World) (k : SgAt w S h) (hT : STabs w) (hR : Tabs w) (hF : Fits S) : Calls Tryz.prog 24 #[ov 7 S h r.x r.nm d] w fun e w' => e = .returned (.bool true) ∧ Below w.heap.size w w' := by
 cases hc : chkS S with
 | true => exact answered_7y S h r d w k hT hR hF hc
 | false => exact answered_7n S h r d w k hT hR hF hc
end Go.Proofs.YtgmkjcfdpiinpaaGreatDoor
namespace Go.Proofs.YtgmkjcfdpiinpaaGreatDoor
open Go Go.RowKit Go.ChangeShapes Go.WideShapes Go.ChangeAt
open Wb

end Go.Proofs.YtgmkjcfdpiinpaaGreatDoor
namespace Go.Proofs.YtgmkjcfdpiinpaaGreatDoor
open Go Go.RowKit
open Wb

theorem sagaStories_an (x : OpX) (h' : SH) (d' : Value) (w' : World) (q : x.fine) (hk : 7 ≤ x.k ∧ x.k ≤ 8) (t1 : STabs w') (t2 : Tabs w') (k1 : SgAt w' x.s h') (_k2 : Bs w' d' x.r.l) : Calls Tryz.prog 24 #[ov x.k x.s h' x.r.x x.r.nm d'] w' fun e w'' => e = .returned (.bool true) ∧ Below w'.heap.size w' w'' := by
 have hk9 : x.k = 7 ∨ x.k = 8 := by omega
 rcases hk9 with e | e
 ·rw [e]; exact answered_7 x.s h' x.r d' w' k1 t1 t2 q.1
 ·rw [e]; exact answered_8 x.s h' x.r d' w' k1 q.1
theorem sagaStories_any (v : Value) (os : List OpX) (w : World) (h : OpsAt w v os) (hT : STabs w) (hR : Tabs w) : Calls Tryz.prog 5 #[v] w fun e w' => e = .returned (.bool true) ∧ Below w.heap.size w w' := by
 have HST : Hid (Calls Tryz.prog 7 #[] w fun e w' => e = .returned (.bool true) ∧ Below w.heap.size w w') := sstarted_any w hR hT
 have HUP : Hid (∀ w', Below w.heap.size w w' → Calls Tryz.prog 8 #[v, .int .i64 7, .int .i64 8] w' fun e w'' => e = .returned (.bool true) ∧ Below w'.heap.size w' w'') := fun w' hb => upTo_any v os 7 8 w' (by
  obtain ⟨ao, cap, e, hm, hc⟩ := h
  refine ⟨ao, cap, e, hm, fun k o ho => ?_⟩
  obtain ⟨b, off, e2, q1, q2⟩ := hc k o ho
  exact ⟨b, off, e2, fun j u hu => by rw [hb.cell (World.block_lt_of_cell? w _ (q1 j u hu))]; exact q1 j u hu, q2.kept hb⟩) (hT.kept hb) (hR.kept hb) sagaStories_an
 clear h hT hR
 go_enter Tryz.func5, Tryz.ntmps5
 go_wp2_with fail
 refine Calls.mono HST.out ?_
 rintro e w1 ⟨rfl, b1⟩
 have H1 : Hid (Below w.heap.size w w1) := b1
 clear b1 HST
 go_wp2_with fail
 refine (HUP.out _ H1.out).mono ?_
 rintro e w2 ⟨rfl, b2⟩
 have H2 : Hid (Below w.heap.size w w2) := andThen H1.out b2
 clear b2 H1 HUP
 go_wp2
 go_ret
 exact ⟨rfl, H2.out⟩
end Go.Proofs.YtgmkjcfdpiinpaaGreatDoor

