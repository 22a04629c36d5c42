import Derived.Deep.CutRange
import Derived.Test.YtgmkjcfdpiinpaaGreatDoorVF8
import Derived.Test.YtgmkjcfdpiinpaaGreatDoorVA2
set_option maxRecDepth 100000
set_option maxHeartbeats 4000000
namespace Go.Proofs.YtgmkjcfdpiinpaaGreatDoor
open Go Go.RowKit
open Wb

theorem asked_chk (S : Sg) (h : SH) (x : Nums) (nm : ByteArray) (d : Value) (w : World) (t : Int) (HF0 : ∀ w', Below w.heap.size w w' → Calls Tryz.prog 30 #[sv S h] w' fun e w'' => e = .returned (.int .i64 t) ∧ Below w'.heap.size w' w'') (HG0 : ∀ w', Below w.heap.size w w' → Calls Tryz.prog 34 #[sv S h] w' fun e w'' => e = .returned (.int .i64 t) ∧ Below w'.heap.size w' w'') : Calls Tryz.prog 40 #[ov 6 S h x nm d] w fun e w' => e = .returned (.bool true) ∧ Below w.heap.size w w' := by
 obtain ⟨D, hD, hL, hE⟩ := sv_letter S h
 obtain ⟨E, hE2⟩ : ∃ E, rcE x nm d = E := ⟨_, rfl⟩
 rw [hD] at HF0 HG0
 unfold ov
 rw [← hE, hE2]
 obtain ⟨L, hLL⟩ : ∃ L, (.int .i64 6 :: (D ++ E) : List Value) = L := ⟨_, rfl⟩
 rw [hLL]
 have HLL : Hid ((.int .i64 6 :: (D ++ E) : List Value) = L) := hLL
 have HL : Hid _ := hL
 have HX : Hid ((w.alloc (.cells L.toArray 40)).rangeAt w.heap.size 0 L ∧ Below w.heap.size w (w.alloc (.cells L.toArray 40))) := boxed w L _
 have HRD : Hid (∀ w' : World, w'.rangeAt w.heap.size 0 L → w'.rangeAt w.heap.size 1 D) := fun w' hr => by rw [← HLL.out] at hr; exact mid_range hr
 have k0 := range_cell HX.out.1 0 (.int .i64 6) (by rw [← HLL.out]; rfl)
 clear hD hL hE hE2 hLL
 have HF : Hid _ := HF0
 have HG : Hid _ := HG0
 clear HF0 HG0
 go_enter Tryz.func40, Tryz.ntmps40
 go_wp2_with (first | (refine wpList_load_mid rfl 31 _ rfl w.heap.size 1 rfl D _ (HRD.out _ HX.out.1) Tryz.underlying31 rfl HL.out ?_) | fail)
 refine (HF.out _ HX.out.2).mono ?_
 rintro e w1 ⟨rfl, b1⟩
 have H1 : Hid (w1.rangeAt w.heap.size 0 L ∧ Below w.heap.size w w1) := ⟨range_kept HX.out.1 b1, andThen HX.out.2 b1⟩
 clear b1 HX HF k0
 go_wp2_with (first | (refine wpList_load_mid rfl 31 _ rfl w.heap.size 1 rfl D _ (HRD.out _ H1.out.1) Tryz.underlying31 rfl HL.out ?_) | fail)
 refine (HG.out _ H1.out.2).mono ?_
 rintro e w2 ⟨rfl, b2⟩
 have B2 := andThen H1.out.2 b2
 clear b2 H1 HG HRD
 have yt : (t == t) = true := by simp
 go_wp2_with fail
 refine (snum_any t _).mono ?_
 rintro e _ ⟨rfl, rfl⟩
 go_wp2
 go_ret
 exact ⟨rfl, B2⟩
theorem asked_any (K : Int) (S : Sg) (h : SH) (x : Nums) (nm : ByteArray) (d : Value) (w : World) (k : SgAt w S h) (hT : Text.TabP 3 .i32 Text.Tx.lets w) (hK : KindsT w) (hR : Tabs w) (hF : Fits S) (hk : K = 3 ∨ K = 4 ∨ K = 5 ∨ K = 6) : Calls Tryz.prog 40 #[ov K S h x nm d] w fun e w' => e = .returned (.bool true) ∧ Below w.heap.size w w' := by
 have hn := hF.nm
 rcases hk with rfl | rfl | rfl | rfl
 ·cases hc : chkS S with
  | true => exact asked_3 S h x nm d w k hT hR hF.nm hc hF.fc
  | false =>
   refine asked_fin S h x nm d w false (fun w' hb => ?_) (fun w' hb => ?_)
   ·have e := finished_any S h w' (k.kept hb) (hT.kept hb) (by omega)
    rw [hc, Bool.false_and] at e
    exact e
   ·exact rxfin_gen S h w' 100 (fun w2 hb2 => rxcheck_bad S h w2 ((k.kept hb).kept hb2) ((hR.kept hb).kept hb2) hF hc)
 ·cases hc : chkS S with
  | true => exact asked_4 S h x nm d w k hT hK hR hF.nm hc hF.fc
  | false =>
   have ha : allowedP S = [] := by unfold allowedP; rw [if_pos (.inl hc)]
   refine asked_all S h x nm d w [] (by simp) (fun w' hb => ?_) (fun w' hb => ?_)
   ·have e := allowed_any S h w' (k.kept hb) (hT.kept hb) (hK.kept hb) (by omega)
    rw [ha] at e
    exact e
   ·exact (rxallow_c S h w' 100 (fun w2 hb2 => rxcheck_bad S h w2 ((k.kept hb).kept hb2) ((hR.kept hb).kept hb2) hF hc) rfl).mono fun e w'' h1 => ⟨_, h1.1, Fld.roI_nil _ _, h1.2⟩
 ·cases hc : chkS S with
  | true => exact asked_5 S h x nm d w k hT hR hF.nm hc hF.fc
  | false =>
   have ha : pendP S = [] := by unfold pendP; rw [if_pos hc]
   refine asked_pend S h x nm d w [] (by simp) (fun w' hb => ?_) (fun w' hb => ?_)
   ·have e := pending_any S h w' (k.kept hb) (hT.kept hb) (by omega)
    rw [ha] at e
    exact e
   ·exact (rxpend_c S h w' 100 (fun w2 hb2 => rxcheck_bad S h w2 ((k.kept hb).kept hb2) ((hR.kept hb).kept hb2) hF hc) rfl).mono fun e w'' h1 => ⟨_, h1.1, Fld.roI_nil _ _, h1.2⟩
 ·exact asked_chk S h x nm d w (ckE (chkS S)) (fun w' hb => scheck_any S h w' (k.kept hb) (hT.kept hb) (by omega)) (fun w' hb => rxcheck_any S h w' (k.kept hb) (hR.kept hb) hF)
theorem answered_3 (S : Sg) (h : SH) (r : Rec) (d : Value) (w : World) (k : SgAt w S h) (hT : STabs w) (hR : Tabs w) (hF : Fits S) : Calls Tryz.prog 24 #[ov 3 S h r.x r.nm d] w fun e w' => e = .returned (.bool true) ∧ Below w.heap.size w w' := by
 have HA0 : ∀ w', Below w.heap.size w w' → Calls Tryz.prog 40 #[ov 3 S h r.x r.nm d] w' fun e w'' => e = .returned (.bool true) ∧ Below w'.heap.size w' w'' := fun w' hb' => asked_any 3 S h r.x r.nm d w' (k.kept hb') (hT.kept hb').e.tabs.lets (hT.kept hb').k (hR.kept hb') hF (by omega)
 obtain ⟨L, hLL, hLN⟩ : ∃ L : List Value, ov 3 S h r.x r.nm d = .agg L.toArray ∧ ((Tryz.prog.info? 40).map (·.size) = some L.length ∧ L[0]? = some (.int .i64 3)) := ⟨_, rfl, by kernel_rfl, rfl⟩
 rw [hLL] at HA0 ⊢
 have HA : Hid _ := HA0
 have HLN : Hid _ := hLN
 have HX : Hid (LB (w.alloc (.cells L.toArray 40)) w.heap.size 40 L ∧ Below w.heap.size w (w.alloc (.cells L.toArray 40))) := ⟨lb_new w L _, up0 _ _⟩
 have k0 := HX.out.1.cell 0 _ hLN.2
 clear HA0 hLL hLN k hT hR hF
 go_enter Tryz.func24, Tryz.ntmps24
 go_wp2_with (first | (refine wpList_load_mid rfl 40 _ rfl w.heap.size 0 rfl L _ HX.out.1.range Tryz.underlying40 rfl HLN.out.1 ?_) | fail)
 refine (HA.out _ HX.out.2).mono ?_
 rintro e w1 ⟨rfl, b1⟩
 have H1 : Hid (Below w.heap.size w w1) := andThen HX.out.2 b1
 clear b1 HX HA k0
 go_wp2
 go_ret
 exact ⟨rfl, H1.out⟩
theorem answered_4 (S : Sg) (h : SH) (r : Rec) (d : Value) (w : World) (k : SgAt w S h) (hT : STabs w) (hR : Tabs w) (hF : Fits S) : Calls Tryz.prog 24 #[ov 4 S h r.x r.nm d] w fun e w' => e = .returned (.bool true) ∧ Below w.heap.size w w' := by
 have HA0 : ∀ w', Below w.heap.size w w' → Calls Tryz.prog 40 #[ov 4 S h r.x r.nm d] w' fun e w'' => e = .returned (.bool true) ∧ Below w'.heap.size w' w'' := fun w' hb' => asked_any 4 S h r.x r.nm d w' (k.kept hb') (hT.kept hb').e.tabs.lets (hT.kept hb').k (hR.kept hb') hF (by omega)
 obtain ⟨L, hLL, hLN⟩ : ∃ L : List Value, ov 4 S h r.x r.nm d = .agg L.toArray ∧ ((Tryz.prog.info? 40).map (·.size) = some L.length ∧ L[0]? = some (.int .i64 4)) := ⟨_, rfl, by kernel_rfl, rfl⟩
 rw [hLL] at HA0 ⊢
 have HA : Hid _ := HA0
 have HLN : Hid _ := hLN
 have HX : Hid (LB (w.alloc (.cells L.toArray 40)) w.heap.size 40 L ∧ Below w.heap.size w (w.alloc (.cells L.toArray 40))) := ⟨lb_new w L _, up0 _ _⟩
 have k0 := HX.out.1.cell 0 _ hLN.2
 clear HA0 hLL hLN k hT hR hF
 go_enter Tryz.func24, Tryz.ntmps24
 go_wp2_with (first | (refine wpList_load_mid rfl 40 _ rfl w.heap.size 0 rfl L _ HX.out.1.range Tryz.underlying40 rfl HLN.out.1 ?_) | fail)
 refine (HA.out _ HX.out.2).mono ?_
 rintro e w1 ⟨rfl, b1⟩
 have H1 : Hid (Below w.heap.size w w1) := andThen HX.out.2 b1
 clear b1 HX HA k0
 go_wp2
 go_ret
 exact ⟨rfl, H1.out⟩
theorem answered_5 (S : Sg) (h : SH) (r : Rec) (d : Value) (w : World) (k : SgAt w S h) (hT : STabs w) (hR : Tabs w) (hF : Fits S) : Calls Tryz.prog 24 #[ov 5 S h r.x r.nm d] w fun e w' => e = .returned (.bool true) ∧ Below w.heap.size w w' := by
 have HA0 : ∀ w', Below w.heap.size w w' → Calls Tryz.prog 40 #[ov 5 S h r.x r.nm d] w' fun e w'' => e = .returned (.bool true) ∧ Below w'.heap.size w' w'' := fun w' hb' => asked_any 5 S h r.x r.nm d w' (k.kept hb') (hT.kept hb').e.tabs.lets (hT.kept hb').k (hR.kept hb') hF (by omega)
 obtain ⟨L, hLL, hLN⟩ : ∃ L : List Value, ov 5 S h r.x r.nm d = .agg L.toArray ∧ ((Tryz.prog.info? 40).map (·.size) = some L.length ∧ L[0]? = some (.int .i64 5)) := ⟨_, rfl, by kernel_rfl, rfl⟩
 rw [hLL] at HA0 ⊢
 have HA : Hid _ := HA0
 have HLN : Hid _ := hLN
 have HX : Hid (LB (w.alloc (.cells L.toArray 40)) w.heap.size 40 L ∧ Below w.heap.size w (w.alloc (.cells L.toArray 40))) := ⟨lb_new w L _, up0 _ _⟩
 have k0 := HX.out.1.cell 0 _ hLN.2
 clear HA0 hLL hLN k hT hR hF
 go_enter Tryz.func24, Tryz.ntmps24
 go_wp2_with (first | (refine wpList_load_mid rfl 40 _ rfl w.heap.size 0 rfl L _ HX.out.1.range Tryz.underlying40 rfl HLN.out.1 ?_) | fail)
 refine (HA.out _ HX.out.2).mono ?_
 rintro e w1 ⟨rfl, b1⟩
 have H1 : Hid (Below w.heap.size w w1) := andThen HX.out.2 b1
 clear b1 HX HA k0
 go_wp2
 go_ret
 exact ⟨rfl, H1.out⟩
theorem answered_6 (S : Sg) (h : SH) (r : Rec) (d : Value) (w : World) (k : SgAt w S h) (hT : STabs w) (hR : Tabs w) (hF : Fits S) : Calls Tryz.prog 24 #[ov 6 S h r.x r.nm d] w fun e w' => e = .returned (.bool true) ∧ Below w.heap.size w w' := by
 have HA0 : ∀ w', Below w.heap.size w w' → Calls Tryz.prog 40 #[ov 6 S h r.x r.nm d] w' fun e w'' => e = .returned (.bool true) ∧ Below w'.heap.size w' w'' := fun w' hb' => asked_any 6 S h r.x r.nm d w' (k.kept hb') (hT.kept hb').e.tabs.lets (hT.kept hb').k (hR.kept hb') hF (by omega)
 obtain ⟨L, hLL, hLN⟩ : ∃ L : List Value, ov 6 S h r.x r.nm d = .agg L.toArray ∧ ((Tryz.prog.info? 40).map (·.size) = some L.length ∧ L[0]? = some (.int .i64 6)) := ⟨_, rfl, by kernel_rfl, rfl⟩
 rw [hLL] at HA0 ⊢
 have HA : Hid _ := HA0
 have HLN : Hid _ := hLN
 have HX : Hid (LB (w.alloc (.cells L.toArray 40)) w.heap.size 40 L ∧ Below w.heap.size w (w.alloc (.cells L.toArray 40))) := ⟨lb_new w L _, up0 _ _⟩
 have k0 := HX.out.1.cell 0 _ hLN.2
 clear HA0 hLL hLN k hT hR hF
 go_enter Tryz.func24, Tryz.ntmps24
 go_wp2_with (first | (refine wpList_load_mid rfl 40 _ rfl w.heap.size 0 rfl L _ HX.out.1.range Tryz.underlying40 rfl HLN.out.1 ?_) | fail)
 refine (HA.out _ HX.out.2).mono ?_
 rintro e w1 ⟨rfl, b1⟩
 have H1 : Hid (Below w.heap.size w w1) := andThen HX.out.2 b1
 clear b1 HX HA k0
 go_wp2
 go_ret
 exact ⟨rfl, H1.out⟩
end Go.Proofs.YtgmkjcfdpiinpaaGreatDoor
namespace Go.Proofs.YtgmkjcfdpiinpaaGreatDoor
open Go Go.RowKit Go.ChangeShapes Go.WideShapes Go.ChangeAt
open Wb

end Go.Proofs.YtgmkjcfdpiinpaaGreatDoor
namespace Go.Proofs.YtgmkjcfdpiinpaaGreatDoor
open Go Go.RowKit
open Wb

theorem sagaAsks_an (x : OpX) (h' : SH) (d' : Value) (w' : World) (q : x.fine) (hk : 3 ≤ x.k ∧ x.k ≤ 6) (t1 : STabs w') (t2 : Tabs w') (k1 : SgAt w' x.s h') (_k2 : Bs w' d' x.r.l) : Calls Tryz.prog 24 #[ov x.k x.s h' x.r.x x.r.nm d'] w' fun e w'' => e = .returned (.bool true) ∧ Below w'.heap.size w' w'' := by
 have hk9 : x.k = 3 ∨ x.k = 4 ∨ x.k = 5 ∨ x.k = 6 := by omega
 rcases hk9 with e | e | e | e
 ·rw [e]; exact answered_3 x.s h' x.r d' w' k1 t1 t2 q.1
 ·rw [e]; exact answered_4 x.s h' x.r d' w' k1 t1 t2 q.1
 ·rw [e]; exact answered_5 x.s h' x.r d' w' k1 t1 t2 q.1
 ·rw [e]; exact answered_6 x.s h' x.r d' w' k1 t1 t2 q.1
theorem sagaAsks_any (v : Value) (os : List OpX) (w : World) (h : OpsAt w v os) (hT : STabs w) (hR : Tabs w) : Calls Tryz.prog 4 #[v] w fun e w' => e = .returned (.bool true) ∧ Below w.heap.size w w' := by
 have HST : Hid (Calls Tryz.prog 7 #[] w fun e w' => e = .returned (.bool true) ∧ Below w.heap.size w w') := sstarted_any w hR hT
 have HUP : Hid (∀ w', Below w.heap.size w w' → Calls Tryz.prog 8 #[v, .int .i64 3, .int .i64 6] w' fun e w'' => e = .returned (.bool true) ∧ Below w'.heap.size w' w'') := fun w' hb => upTo_any v os 3 6 w' (by
  obtain ⟨ao, cap, e, hm, hc⟩ := h
  refine ⟨ao, cap, e, hm, fun k o ho => ?_⟩
  obtain ⟨b, off, e2, q1, q2⟩ := hc k o ho
  exact ⟨b, off, e2, fun j u hu => by rw [hb.cell (World.block_lt_of_cell? w _ (q1 j u hu))]; exact q1 j u hu, q2.kept hb⟩) (hT.kept hb) (hR.kept hb) sagaAsks_an
 clear h hT hR
 go_enter Tryz.func4, Tryz.ntmps4
 go_wp2_with fail
 refine Calls.mono HST.out ?_
 rintro e w1 ⟨rfl, b1⟩
 have H1 : Hid (Below w.heap.size w w1) := b1
 clear b1 HST
 go_wp2_with fail
 refine (HUP.out _ H1.out).mono ?_
 rintro e w2 ⟨rfl, b2⟩
 have H2 : Hid (Below w.heap.size w w2) := andThen H1.out b2
 clear b2 H1 HUP
 go_wp2
 go_ret
 exact ⟨rfl, H2.out⟩
end Go.Proofs.YtgmkjcfdpiinpaaGreatDoor

