import Derived.Test.YtgmkjcfdpiinpaaGreatDoorPE5
import Derived.Test.YtgmkjcfdpiinpaaGreatDoorPF3
open Go.Proofs.Tryz
set_option maxRecDepth 100000
set_option maxHeartbeats 8000000
namespace Go.Proofs.YtgmkjcfdpiinpaaGreatDoor
open Go Go.RowKit
open Wb
theorem rxcheck_any (S : Sg) (h : SH) (w : World) (k : SgAt w S h) (hT : Tabs w) (hF : Fits S) : Calls prog 34 #[sv S h] w fun e w' => e = .returned (.int .i64 (ckE (chkS S))) ∧ Below w.heap.size w w' := by
 cases hc : chkS S with
 | true => exact rxcheck_ok S h w k hT hF.nm hc hF.fc
 | false => exact rxcheck_bad S h w k hT hF hc
theorem rxapply_bad (S : Sg) (h : SH) (r : Rec) (d : Value) (w : World) (k : SgAt w S h) (hT : Tabs w) (hF : Fits S) (hc : chkS S = false) : Calls prog 19 #[sv S h, rv r.x r.nm d] w fun e w' => AxPost w (applyP S r) e w' := by
 have hA : applyP S r = (100, zSg) := by unfold applyP; rw [if_pos hc]
 rw [hA]
 have HCK0 : ∀ w', Below w.heap.size w w' → Calls prog 34 #[sv S h] w' fun e w'' => e = .returned (.int .i64 100) ∧ Below w'.heap.size w' w'' := fun w' hb' => rxcheck_bad S h w' (k.kept hb') (hT.kept hb') hF hc
 obtain ⟨Z, hZ⟩ : ∃ Z, Z = zcl := ⟨_, rfl⟩
 have HZ : Hid (Z = zcl) := hZ
 have HZL : Hid (Z.length = 16) := by show _ = _; rw [hZ]; rfl
 have HZI : Hid ((prog.info? 31).map (·.size) = some Z.length) := by show _ = _; rw [hZ]; exact infoSaga
 have HZ1 : Hid (∀ v ∈ Z, v.oneCell' = true) := by show ∀ v ∈ Z, _; rw [hZ]; exact scl_one zSg ⟨none, 0, none, 0, none, 0, none, 0⟩
 obtain ⟨D, hD, hL, hE⟩ := sv_letter S h
 obtain ⟨E, hD2, hL2, hE2⟩ := rv_letter r.x r.nm d
 rw [hD] at HCK0
 rw [hD, hD2]
 have HCK : Hid _ := HCK0
 have HL : Hid _ := hL
 have HX := zh3 w D E Z
 clear hD hL hE hD2 hL2 hE2 HCK0 hZ hT hc k hF hA
 go_enter func19, ntmps19
 go_wp2_with (first | (refine wpList_alloc_Z HZ.out rfl rfl ?_; (try simp only [heap_one])) | (refine zqS31 w.heap.size D HX.out.1.range HL.out ?_) | fail)
 refine (HCK.out _ HX.out.2.2.2).mono ?_
 rintro e w1 ⟨rfl, b1⟩
 have H1 : Hid (LB w1 w.heap.size 31 D ∧ LB w1 (w.heap.size + 1) 28 E ∧ LB w1 (w.heap.size + 2) 31 Z ∧ Below w.heap.size w w1) := ⟨HX.out.1.kept b1, HX.out.2.1.kept b1, HX.out.2.2.1.kept b1, andThen HX.out.2.2.2 b1⟩
 clear b1 HX HCK
 have HT4 : Hid (w1.there (w.heap.size + 2) 0 Z.toArray.size) := there_of H1.out.2.2.1 (by simp)
 go_wp2_with (first | (refine wpList_build_Z HZ.out rfl rfl ?_) | (refine wpList_store_mid rfl 31 (.tmp 4) (.tmp 11) rfl (w.heap.size + 2) 0 Z.toArray rfl rfl HT4.out (by simpa using HZI.out) (all_oneCell_toArray HZ1.out) ?_; (rw [List.toList_toArray])) | fail)
 have HR9 : Hid ((w1.setCells (w.heap.size + 2) 0 Z).rangeAt (w.heap.size + 2) 0 Z) := (H1.out.2.2.1.sets Z rfl).range
 refine bodyPost_ret (results_cell_slot (p := 4) (s := 5) (ty := 31) rfl _ (w1.setCells (w.heap.size + 2) 0 Z) (w.heap.size + 2) Z _ rfl HR9.out underlying31 rfl HZI.out) rfl ?_
 exact ⟨⟨none, 0, none, 0, none, 0, none, 0⟩, by rw [HZ.out]; rfl, sgown_zero _ _, below_cells (by omega) _ 0 _ H1.out.2.2.2⟩

theorem rxapply_all (S : Sg) (h : SH) (r : Rec) (d : Value) (w : World) (k : SgAt w S h) (hb : Bs w d r.l) (hT : Tabs w) (hF : Fits S) (hnm : r.nm.size ≤ 1048576) (hf : r.x.fit) : Calls prog 19 #[sv S h, rv r.x r.nm d] w fun e w' => AxPost w (applyP S r) e w' := by
 cases hc : chkS S with
 | true => exact rxapply_any S h r d w k hb hT hc hF.fc hF.nm hnm hf
 | false => exact rxapply_bad S h r d w k hT hF hc
theorem rxstory_ok (S : Sg) (h : SH) (w : World) (k : SgAt w S h) (hT : Tabs w) (hF : Fits S) (hc : chkS S = true) : Calls prog 42 #[sv S h] w fun e w' => ∃ v ps, e = .returned (.tuple #[v, .int .i64 0]) ∧ OutT w.heap.size w' v ps ∧ ps.map Prod.fst = storyP S ∧ Below w.heap.size w w' := by
 have HCK0 : ∀ w', Below w.heap.size w w' → Calls prog 34 #[sv S h] w' fun e w'' => e = .returned (.int .i64 0) ∧ Below w'.heap.size w' w'' := fun w' hb' => rxcheck_ok S h w' (k.kept hb') (hT.kept hb') hF.nm hc hF.fc
 have HTO0 : ∀ w', Below w.heap.size w w' → Calls prog 67 #[sv S h] w' fun e w'' => ∃ v ps, e = .returned v ∧ OutT w'.heap.size w'' v ps ∧ ps.map Prod.fst = storyP S ∧ Below w'.heap.size w' w'' := fun w' hb => rxtold_any S h w' (k.kept hb) hc
 obtain ⟨D, hD, hL, hE⟩ := sv_letter S h
 rw [hD] at HCK0 HTO0 ⊢
 have HCK : Hid _ := HCK0
 have HTO : Hid _ := HTO0
 have HL : Hid _ := hL
 have HX : Hid (LB (w.alloc (.cells D.toArray 31)) w.heap.size 31 D ∧ Below w.heap.size w (w.alloc (.cells D.toArray 31))) := ⟨lb_new w D _, up0 _ _⟩
 clear hD hL hE HCK0 HTO0 k hT hF hc
 go_enter func42, ntmps42
 go_wp2_with (first | (refine zqS31 w.heap.size D HX.out.1.range HL.out ?_) | fail)
 refine (HCK.out _ HX.out.2).mono ?_
 rintro e w1 ⟨rfl, b1⟩
 have H1 : Hid (LB w1 w.heap.size 31 D ∧ Below w.heap.size w w1) := ⟨HX.out.1.kept b1, andThen HX.out.2 b1⟩
 clear b1 HX HCK
 go_wp2_with (first | (refine zqS31 w.heap.size D H1.out.1.range HL.out ?_) | fail)
 refine (HTO.out _ H1.out.2).mono ?_
 rintro e w2 ⟨v2, ps, rfl, o2, m2, b2⟩
 have H2 : Hid (OutT w.heap.size w2 v2 ps ∧ ps.map Prod.fst = storyP S ∧ Below w.heap.size w w2) := ⟨o2.weak H1.out.2.size, m2, andThen H1.out.2 b2⟩
 clear o2 m2 b2 H1 HTO
 go_wp2
 go_ret2
 exact ⟨v2, ps, rfl, H2.out⟩
theorem rxstory_bad (S : Sg) (h : SH) (w : World) (k : SgAt w S h) (hT : Tabs w) (hF : Fits S) (hc : chkS S = false) : Calls prog 42 #[sv S h] w fun e w' => e = .returned (.tuple #[.slice none 0 0, .int .i64 100]) ∧ Below w.heap.size w w' := by
 have HCK0 : ∀ w', Below w.heap.size w w' → Calls prog 34 #[sv S h] w' fun e w'' => e = .returned (.int .i64 100) ∧ Below w'.heap.size w' w'' := fun w' hb' => rxcheck_bad S h w' (k.kept hb') (hT.kept hb') hF hc
 obtain ⟨D, hD, hL, hE⟩ := sv_letter S h
 rw [hD] at HCK0 ⊢
 have HCK : Hid _ := HCK0
 have HL : Hid _ := hL
 have HX : Hid (LB (w.alloc (.cells D.toArray 31)) w.heap.size 31 D ∧ Below w.heap.size w (w.alloc (.cells D.toArray 31))) := ⟨lb_new w D _, up0 _ _⟩
 clear hD hL hE HCK0 k hT hF hc
 go_enter func42, ntmps42
 go_wp2_with (first | (refine zqS31 w.heap.size D HX.out.1.range HL.out ?_) | fail)
 refine (HCK.out _ HX.out.2).mono ?_
 rintro e w1 ⟨rfl, b1⟩
 have H1 : Hid (Below w.heap.size w w1) := andThen HX.out.2 b1
 clear b1 HX HCK
 go_wp2
 go_ret2
 exact ⟨rfl, H1.out⟩
theorem asked_chk (S : Sg) (h : SH) (x : Nums) (nm : ByteArray) (d : Value) (w : World) (t : Int) (HF0 : ∀ w', Below w.heap.size w w' → Calls prog 30 #[sv S h] w' fun e w'' => e = .returned (.int .i64 t) ∧ Below w'.heap.size w' w'') (HG0 : ∀ w', Below w.heap.size w w' → Calls prog 34 #[sv S h] w' fun e w'' => e = .returned (.int .i64 t) ∧ Below w'.heap.size w' w'') : Calls prog 40 #[ov 6 S h x nm d] w fun e w' => e = .returned (.bool true) ∧ Below w.heap.size w w' := by
 obtain ⟨D, hD, hL, hE⟩ := sv_letter S h
 obtain ⟨E, hE2⟩ : ∃ E, rcE x nm d = E := ⟨_, rfl⟩
 rw [hD] at HF0 HG0
 unfold ov
 rw [← hE, hE2]
 obtain ⟨L, hLL⟩ : ∃ L, (.int .i64 6 :: (D ++ E) : List Value) = L := ⟨_, rfl⟩
 rw [hLL]
 have HLL : Hid ((.int .i64 6 :: (D ++ E) : List Value) = L) := hLL
 have HL : Hid _ := hL
 have HX : Hid ((w.alloc (.cells L.toArray 40)).rangeAt w.heap.size 0 L ∧ Below w.heap.size w (w.alloc (.cells L.toArray 40))) := boxed w L _
 have HRD : Hid (∀ w' : World, w'.rangeAt w.heap.size 0 L → w'.rangeAt w.heap.size 1 D) := fun w' hr => by rw [← HLL.out] at hr; exact mid_range hr
 have k0 := range_cell HX.out.1 0 (.int .i64 6) (by rw [← HLL.out]; rfl)
 clear hD hL hE hE2 hLL
 have HF : Hid _ := HF0
 have HG : Hid _ := HG0
 clear HF0 HG0
 go_enter func40, ntmps40
 go_wp2_with (first | (refine wpList_load_mid rfl 31 _ rfl w.heap.size 1 rfl D _ (HRD.out _ HX.out.1) underlying31 rfl HL.out ?_) | fail)
 refine (HF.out _ HX.out.2).mono ?_
 rintro e w1 ⟨rfl, b1⟩
 have H1 : Hid (w1.rangeAt w.heap.size 0 L ∧ Below w.heap.size w w1) := ⟨range_kept HX.out.1 b1, andThen HX.out.2 b1⟩
 clear b1 HX HF k0
 go_wp2_with (first | (refine wpList_load_mid rfl 31 _ rfl w.heap.size 1 rfl D _ (HRD.out _ H1.out.1) underlying31 rfl HL.out ?_) | fail)
 refine (HG.out _ H1.out.2).mono ?_
 rintro e w2 ⟨rfl, b2⟩
 have B2 := andThen H1.out.2 b2
 clear b2 H1 HG HRD
 have yt : (t == t) = true := by simp
 go_wp2_with fail
 refine (snum_any t _).mono ?_
 rintro e _ ⟨rfl, rfl⟩
 go_wp2
 go_ret
 exact ⟨rfl, B2⟩
theorem asked_any (K : Int) (S : Sg) (h : SH) (x : Nums) (nm : ByteArray) (d : Value) (w : World) (k : SgAt w S h) (hT : Text.TabP 3 .i32 Text.Tx.lets w) (hK : KindsT w) (hR : Tabs w) (hF : Fits S) (hk : K = 3 ∨ K = 4 ∨ K = 5 ∨ K = 6) : Calls prog 40 #[ov K S h x nm d] w fun e w' => e = .returned (.bool true) ∧ Below w.heap.size w w' := by
 have hn := hF.nm
 rcases hk with rfl | rfl | rfl | rfl
 ·cases hc : chkS S with
  | true => exact asked_3 S h x nm d w k hT hR hF.nm hc hF.fc
  | false =>
   refine asked_fin S h x nm d w false (fun w' hb => ?_) (fun w' hb => ?_)
   ·have e := finished_any S h w' (k.kept hb) (hT.kept hb) (by omega)
    rw [hc, Bool.false_and] at e
    exact e
   ·exact rxfin_gen S h w' 100 (fun w2 hb2 => rxcheck_bad S h w2 ((k.kept hb).kept hb2) ((hR.kept hb).kept hb2) hF hc)
 ·cases hc : chkS S with
  | true => exact asked_4 S h x nm d w k hT hK hR hF.nm hc hF.fc
  | false =>
   have ha : allowedP S = [] := by unfold allowedP; rw [if_pos (.inl hc)]
   refine asked_all S h x nm d w [] (by simp) (fun w' hb => ?_) (fun w' hb => ?_)
   ·have e := allowed_any S h w' (k.kept hb) (hT.kept hb) (hK.kept hb) (by omega)
    rw [ha] at e
    exact e
   ·exact (rxallow_c S h w' 100 (fun w2 hb2 => rxcheck_bad S h w2 ((k.kept hb).kept hb2) ((hR.kept hb).kept hb2) hF hc) rfl).mono fun e w'' h1 => ⟨_, h1.1, Fld.roI_nil _ _, h1.2⟩
 ·cases hc : chkS S with
  | true => exact asked_5 S h x nm d w k hT hR hF.nm hc hF.fc
  | false =>
   have ha : pendP S = [] := by unfold pendP; rw [if_pos hc]
   refine asked_pend S h x nm d w [] (by simp) (fun w' hb => ?_) (fun w' hb => ?_)
   ·have e := pending_any S h w' (k.kept hb) (hT.kept hb) (by omega)
    rw [ha] at e
    exact e
   ·exact (rxpend_c S h w' 100 (fun w2 hb2 => rxcheck_bad S h w2 ((k.kept hb).kept hb2) ((hR.kept hb).kept hb2) hF hc) rfl).mono fun e w'' h1 => ⟨_, h1.1, Fld.roI_nil _ _, h1.2⟩
 ·exact asked_chk S h x nm d w (ckE (chkS S)) (fun w' hb => scheck_any S h w' (k.kept hb) (hT.kept hb) (by omega)) (fun w' hb => rxcheck_any S h w' (k.kept hb) (hR.kept hb) hF)
theorem range_cells {w : World} {g o : Nat} {p : Rec × Value} (h : w.rangeAt g o (rcl p)) : (w.cell? ⟨g, o, none⟩ = some (.int .i64 p.1.x.v) ∧ w.cell? ⟨g, o + 1, none⟩ = some (.int .i64 p.1.x.k) ∧ w.cell? ⟨g, o + 2, none⟩ = some (.int .i64 p.1.x.s) ∧ w.cell? ⟨g, o + 3, none⟩ = some (.int .i64 p.1.x.p) ∧ w.cell? ⟨g, o + 4, none⟩ = some (.int .i64 p.1.x.t) ∧ w.cell? ⟨g, o + 5, none⟩ = some (.int .i64 p.1.x.a) ∧ w.cell? ⟨g, o + 6, none⟩ = some (.int .i64 p.1.x.l) ∧ w.cell? ⟨g, o + 7, none⟩ = some (.int .i64 p.1.x.c) ∧ w.cell? ⟨g, o + 8, none⟩ = some (.int .i64 p.1.x.n) ∧ w.cell? ⟨g, o + 9, none⟩ = some (.int .i64 p.1.x.i) ∧ w.cell? ⟨g, o + 10, none⟩ = some (.string p.1.nm) ∧ w.cell? ⟨g, o + 11, none⟩ = some (p.2)) := ⟨h 0 _ rfl, h 1 _ rfl, h 2 _ rfl, h 3 _ rfl, h 4 _ rfl, h 5 _ rfl, h 6 _ rfl, h 7 _ rfl, h 8 _ rfl, h 9 _ rfl, h 10 _ rfl, h 11 _ rfl⟩
theorem sameAll3_ok (va vb : Value) (rs : List Rec) (w : World) (ha : RecsAt w va rs) (hb : RecsAt w vb rs) :
  Calls prog 43 #[va, vb] w fun e w' => e = .returned (.bool true) ∧ Below w.heap.size w w' := by
 have HRA : Hid (∀ w', Below w.heap.size w w' → RecsAt w' va rs) := fun w' hb => ha.kept hb
 have HRB : Hid (∀ w', Below w.heap.size w w' → RecsAt w' vb rs) := fun w' hb' => hb.kept hb'
 obtain ⟨aoa, capa, rfl, hma, _⟩ := ha
 obtain ⟨aob, capb, rfl, hmb, _⟩ := hb
 unfold maxLen at hma hmb
 have d0 : ((rs.length : Int) != (rs.length : Int)) = false := by simp
 go_enter func43, ntmps43
 go_wp2
 go_loopw [5] (fun i wr => ∃ k : Nat, k ≤ rs.length ∧ i = .int .i64 k ∧ Below w.heap.size w wr) (fun i _ => rs.length - (intOf i).toNat)
 case atStart => exact ⟨0, Nat.zero_le _, rfl, Below.refl _ _⟩
 case round =>
  obtain ⟨k, hk, rfl, hbel⟩ := hrel
  by_cases hlt : k < rs.length
  ·obtain ⟨r, hr⟩ : ∃ r, rs[k]? = some r := ⟨rs[k], List.getElem?_eq_getElem hlt⟩
   obtain ⟨ao', cap', e', _, hcr⟩ := HRA.out _ (Below.refl _ _)
   simp only [Value.slice.injEq] at e'
   obtain ⟨rfl, _, rfl⟩ := e'
   obtain ⟨b1, off1, d1, rfl, hrg1, hbs1⟩ := hcr k r hr
   obtain ⟨ao', cap', e', _, hcr2⟩ := HRB.out _ (Below.refl _ _)
   simp only [Value.slice.injEq] at e'
   obtain ⟨rfl, _, rfl⟩ := e'
   obtain ⟨b2, off2, d2, rfl, hrg2, hbs2⟩ := hcr2 k r hr
   obtain ⟨a1, p1, rfl, _⟩ := hbs1.shape
   obtain ⟨a2, p2, rfl, _⟩ := hbs2.shape
   have HB : Hid (∀ w', Below w.heap.size w w' → (w'.cell? ⟨b1, off1 + k * 12, none⟩ = some (.int .i64 r.x.v) ∧ w'.cell? ⟨b1, off1 + k * 12 + 1, none⟩ = some (.int .i64 r.x.k) ∧ w'.cell? ⟨b1, off1 + k * 12 + 2, none⟩ = some (.int .i64 r.x.s) ∧ w'.cell? ⟨b1, off1 + k * 12 + 3, none⟩ = some (.int .i64 r.x.p) ∧ w'.cell? ⟨b1, off1 + k * 12 + 4, none⟩ = some (.int .i64 r.x.t) ∧ w'.cell? ⟨b1, off1 + k * 12 + 5, none⟩ = some (.int .i64 r.x.a) ∧ w'.cell? ⟨b1, off1 + k * 12 + 6, none⟩ = some (.int .i64 r.x.l) ∧ w'.cell? ⟨b1, off1 + k * 12 + 7, none⟩ = some (.int .i64 r.x.c) ∧ w'.cell? ⟨b1, off1 + k * 12 + 8, none⟩ = some (.int .i64 r.x.n) ∧ w'.cell? ⟨b1, off1 + k * 12 + 9, none⟩ = some (.int .i64 r.x.i) ∧ w'.cell? ⟨b1, off1 + k * 12 + 10, none⟩ = some (.string r.nm) ∧ w'.cell? ⟨b1, off1 + k * 12 + 11, none⟩ = some (.slice a1 r.l.length p1)) ∧ (w'.cell? ⟨b2, off2 + k * 12, none⟩ = some (.int .i64 r.x.v) ∧ w'.cell? ⟨b2, off2 + k * 12 + 1, none⟩ = some (.int .i64 r.x.k) ∧ w'.cell? ⟨b2, off2 + k * 12 + 2, none⟩ = some (.int .i64 r.x.s) ∧ w'.cell? ⟨b2, off2 + k * 12 + 3, none⟩ = some (.int .i64 r.x.p) ∧ w'.cell? ⟨b2, off2 + k * 12 + 4, none⟩ = some (.int .i64 r.x.t) ∧ w'.cell? ⟨b2, off2 + k * 12 + 5, none⟩ = some (.int .i64 r.x.a) ∧ w'.cell? ⟨b2, off2 + k * 12 + 6, none⟩ = some (.int .i64 r.x.l) ∧ w'.cell? ⟨b2, off2 + k * 12 + 7, none⟩ = some (.int .i64 r.x.c) ∧ w'.cell? ⟨b2, off2 + k * 12 + 8, none⟩ = some (.int .i64 r.x.n) ∧ w'.cell? ⟨b2, off2 + k * 12 + 9, none⟩ = some (.int .i64 r.x.i) ∧ w'.cell? ⟨b2, off2 + k * 12 + 10, none⟩ = some (.string r.nm) ∧ w'.cell? ⟨b2, off2 + k * 12 + 11, none⟩ = some (.slice a2 r.l.length p2))) := fun w' hb => ⟨range_cells (Lft.rng_alloc hrg1 hb), range_cells (Lft.rng_alloc hrg2 hb)⟩
   have HSA : Hid (∀ w', Below w.heap.size w w' → Calls prog 25 #[.agg #[.int .i64 r.x.v, .int .i64 r.x.k, .int .i64 r.x.s, .int .i64 r.x.p, .int .i64 r.x.t, .int .i64 r.x.a, .int .i64 r.x.l, .int .i64 r.x.c, .int .i64 r.x.n, .int .i64 r.x.i, .string r.nm, .slice a1 r.l.length p1], .agg #[.int .i64 r.x.v, .int .i64 r.x.k, .int .i64 r.x.s, .int .i64 r.x.p, .int .i64 r.x.t, .int .i64 r.x.a, .int .i64 r.x.l, .int .i64 r.x.c, .int .i64 r.x.n, .int .i64 r.x.i, .string r.nm, .slice a2 r.l.length p2]] w' fun e w'' => e = .returned (.bool true) ∧ Below w'.heap.size w' w'') := fun w' hb => (refsame_any r.x r.x r.nm r.nm _ _ r.l r.l w' (hbs1.kept hb) (hbs2.kept hb)).mono fun e w'' ⟨he, hk'⟩ => ⟨by rw [he, recEq_self], hk'⟩
   have HQ := HB.out wr hbel
   clear hcr hcr2 hrg1 hrg2 hbs1 hbs2 HRA HRB hr
   go_wp2
   go_region_held (fun w' => (w'.cell? ⟨b1, off1 + k * 12, none⟩ = some (.int .i64 r.x.v) ∧ w'.cell? ⟨b1, off1 + k * 12 + 1, none⟩ = some (.int .i64 r.x.k) ∧ w'.cell? ⟨b1, off1 + k * 12 + 2, none⟩ = some (.int .i64 r.x.s) ∧ w'.cell? ⟨b1, off1 + k * 12 + 3, none⟩ = some (.int .i64 r.x.p) ∧ w'.cell? ⟨b1, off1 + k * 12 + 4, none⟩ = some (.int .i64 r.x.t) ∧ w'.cell? ⟨b1, off1 + k * 12 + 5, none⟩ = some (.int .i64 r.x.a) ∧ w'.cell? ⟨b1, off1 + k * 12 + 6, none⟩ = some (.int .i64 r.x.l) ∧ w'.cell? ⟨b1, off1 + k * 12 + 7, none⟩ = some (.int .i64 r.x.c) ∧ w'.cell? ⟨b1, off1 + k * 12 + 8, none⟩ = some (.int .i64 r.x.n) ∧ w'.cell? ⟨b1, off1 + k * 12 + 9, none⟩ = some (.int .i64 r.x.i) ∧ w'.cell? ⟨b1, off1 + k * 12 + 10, none⟩ = some (.string r.nm) ∧ w'.cell? ⟨b1, off1 + k * 12 + 11, none⟩ = some (.slice a1 r.l.length p1)) ∧ (w'.cell? ⟨b2, off2 + k * 12, none⟩ = some (.int .i64 r.x.v) ∧ w'.cell? ⟨b2, off2 + k * 12 + 1, none⟩ = some (.int .i64 r.x.k) ∧ w'.cell? ⟨b2, off2 + k * 12 + 2, none⟩ = some (.int .i64 r.x.s) ∧ w'.cell? ⟨b2, off2 + k * 12 + 3, none⟩ = some (.int .i64 r.x.p) ∧ w'.cell? ⟨b2, off2 + k * 12 + 4, none⟩ = some (.int .i64 r.x.t) ∧ w'.cell? ⟨b2, off2 + k * 12 + 5, none⟩ = some (.int .i64 r.x.a) ∧ w'.cell? ⟨b2, off2 + k * 12 + 6, none⟩ = some (.int .i64 r.x.l) ∧ w'.cell? ⟨b2, off2 + k * 12 + 7, none⟩ = some (.int .i64 r.x.c) ∧ w'.cell? ⟨b2, off2 + k * 12 + 8, none⟩ = some (.int .i64 r.x.n) ∧ w'.cell? ⟨b2, off2 + k * 12 + 9, none⟩ = some (.int .i64 r.x.i) ∧ w'.cell? ⟨b2, off2 + k * 12 + 10, none⟩ = some (.string r.nm) ∧ w'.cell? ⟨b2, off2 + k * 12 + 11, none⟩ = some (.slice a2 r.l.length p2))) (first | go_keep | (exact HB.out _ (andThen (Below.drew hbel) hb')))
    (first | (go_at_call 25; refine (HSA.out _ (Below.drew hbel)).mono ?_; rintro e w' ⟨rfl, hb'⟩))
   have hb2 : Below w.heap.size w w' := andThen (Below.drew hbel) hb'
   clear hb' hbel HB HSA HQ
   go_wp2
   go_roundw
   case rel => exact ⟨k + 1, by omega, by go_num, hb2⟩
   case measure => simp [intOf]; omega
  ·go_wp2
   go_ret
   exact ⟨rfl, hbel⟩
theorem OutT.recsAt {B : Nat} {w : World} {v : Value} {ps : List (Rec × Value)} (h : OutT B w v ps) (hl : ps.length ≤ maxLen) : RecsAt w v (ps.map Prod.fst) := by
 obtain ⟨ao, cap, e, hk⟩ := h.at
 refine ⟨ao, cap, by rw [List.length_map]; exact e, by rw [List.length_map]; exact hl, fun k r hr => ?_⟩
 rw [List.getElem?_map] at hr
 have hkl : k < ps.length := by
  by_cases hlt : k < ps.length
  ·exact hlt
  ·rw [List.getElem?_eq_none (by omega)] at hr
   cases hr
 rw [List.getElem?_eq_getElem hkl] at hr
 obtain rfl := Option.some.inj hr
 obtain ⟨g, rfl, q1, q2⟩ := hk k hkl
 exact ⟨g, 0, ps[k].2, rfl, by rw [Nat.zero_add]; exact q1, q2⟩
theorem end_range {w : World} {g : Nat} {K : Value} {D E : List Value} (h : w.rangeAt g 0 (K :: (D ++ E))) (hl : D.length = 16) : w.rangeAt g 17 E := fun i v hv => by
 have e := h (i + 17) v (by rw [List.getElem?_cons_succ, List.getElem?_append_right (by omega), hl, show i + 16 - 16 = i by omega]; exact hv)
 rw [Nat.zero_add, Nat.add_comm i 17] at e
 exact e
theorem own_o {B : Nat} {w : World} {S : Sg} {h : SH} (k : SgOwn B w S h) : SgO B w S h := ⟨k.inp, k.outs, k.und, k.fail⟩
def Mkd (z : Int) (S : Sg) (w : World) (e : Ending) (w' : World) : Prop := ∃ h', e = .returned (.tuple #[sv S h', .int .i64 z]) ∧ SgO 0 w' S h' ∧ Below w.heap.size w w'
theorem fits_light {S : Sg} (h : Fits S) : Light S := ⟨by have := h.inp; omega, by have := h.fail; omega, by have := h.outsN; omega, by have := h.undN; omega, fun l hl => by have := h.outs l hl; omega, fun l hl => by have := h.und l hl; omega⟩
theorem story_recs {B : Nat} {w : World} {v : Value} {ps : List (Rec × Value)} {S : Sg} (h : OutT B w v ps) (hm : ps.map Prod.fst = storyP S) (hc : chkS S = true) : RecsAt w v (storyP S) := by
 have h1 := story_len S hc
 have h2 : ps.length = (storyP S).length := by rw [← hm, List.length_map]
 have h3 := h.recsAt (by unfold maxLen; omega)
 rw [hm] at h3
 exact h3
theorem answered_1 (S : Sg) (h : SH) (r : Rec) (d : Value) (w : World) (hb : Bs w d r.l) (hT : STabs w) (hR : Tabs w) (hnm : r.nm.size ≤ 1048576) (hf : r.x.fit) : Calls prog 24 #[ov 1 S h r.x r.nm d] w fun e w' => e = .returned (.bool true) ∧ Below w.heap.size w w' := by
 have HA0 : ∀ w', Below w.heap.size w w' → Calls prog 10 #[rv r.x r.nm d] w' fun e w'' => Mkd (beginP r).1 (beginP r).2 w' e w'' := fun w' hb' => (begin_any r d w' (hb.kept hb') (hT.kept hb').e (by omega) hf).mono fun e w'' ⟨h', e1, e2, e3⟩ => ⟨h', e1, e2.weak (Nat.zero_le _), e3⟩
 have HB0 : ∀ w', Below w.heap.size w w' → Calls prog 39 #[rv r.x r.nm d] w' fun e w'' => Mkd (beginP r).1 (beginP r).2 w' e w'' := fun w' hb' => (rxbegin_any r d w' (hb.kept hb') (hR.kept hb') hnm hf).mono fun e w'' ⟨h', e1, e2, e3⟩ => ⟨h', e1, (own_o e2).weak (Nat.zero_le _), e3⟩
 obtain ⟨z, hz⟩ : ∃ z, (beginP r).1 = z := ⟨_, rfl⟩
 obtain ⟨Q, hQ⟩ : ∃ Q, (beginP r).2 = Q := ⟨_, rfl⟩
 rw [hz, hQ] at HA0 HB0
 clear hz hQ
 obtain ⟨Z, hZ⟩ : ∃ Z, Z = zcl := ⟨_, rfl⟩
 have HZ : Hid (Z = zcl) := hZ
 have HZL : Hid (Z.length = 16) := by show _ = _; rw [hZ]; rfl
 obtain ⟨D, hD, hL, hE⟩ := sv_letter S h
 obtain ⟨E, hD2, hL2, hE2⟩ := rv_letter r.x r.nm d
 have hov : ov 1 S h r.x r.nm d = .agg (.int .i64 1 :: (D ++ E)).toArray := by unfold ov; rw [hE, hE2]
 rw [hov]
 have HL : Hid _ := hL
 have HL2 : Hid _ := hL2
 have hDl : D.length = 16 := by rw [hE]; rfl
 have k0 := (lb_new w (.int .i64 1 :: (D ++ E)) 40).cell 0 (.int .i64 1) rfl
 obtain ⟨L, hLL⟩ : ∃ L, (.int .i64 1 :: (D ++ E) : List Value) = L := ⟨_, rfl⟩
 have HRD : Hid (∀ wx, LB wx w.heap.size 40 L → wx.rangeAt w.heap.size 1 D ∧ wx.rangeAt w.heap.size 17 E) := fun wx l => by
  rw [← hLL] at l
  exact ⟨mid_range l.range, end_range l.range hDl⟩
 rw [hLL] at k0 ⊢
 have HX : Hid (LB (w.alloc (.cells L.toArray 40)) w.heap.size 40 L ∧ Below w.heap.size w (w.alloc (.cells L.toArray 40))) := ⟨lb_new w L _, up0 _ _⟩
 clear hov hLL
 rw [hD2] at HA0 HB0
 have HA : Hid _ := HA0
 have HB : Hid _ := HB0
 clear hD hL hE hD2 hL2 hE2 HA0 HB0 hZ hb hT hR hnm hf hDl
 go_enter func24, ntmps24
 go_wp2_with (first | (refine wpList_load_mid rfl 31 _ rfl w.heap.size 1 rfl D _ (HRD.out _ HX.out.1).1 underlying31 rfl HL.out ?_) | (refine wpList_load_mid rfl 28 _ rfl w.heap.size 17 rfl E _ (HRD.out _ HX.out.1).2 underlying28 rfl HL2.out ?_) | fail)
 refine (HA.out _ HX.out.2).mono ?_
 rintro e w1 ⟨h1, rfl, o1, b1⟩
 obtain ⟨T1, hT1, hTL1, hTE1⟩ := sv_letter Q h1
 rw [hT1]
 have TL1 : Hid _ := hTL1
 have TV1 : Hid (sv Q h1 = .agg T1.toArray) := hT1
 have TO1 : Hid (∀ v ∈ T1, v.oneCell' = true) := by show ∀ v ∈ T1, _; rw [hTE1]; exact scl_one _ _
 have TZ1 : Hid (T1.length = Z.length) := by show _ = _; rw [hTE1, HZL.out]; rfl
 have TT1 : Hid ((w1.alloc (.cells Z.toArray 31)).there w1.heap.size 0 T1.toArray.size) := there_of (lb_new w1 Z _) (by simpa using TZ1.out)
 have E1 : Hid (∃ Y, Y = (w1.alloc (.cells Z.toArray 31)).setCells w1.heap.size 0 T1 ∧ LB Y w.heap.size 40 L ∧ LB Y w1.heap.size 31 T1 ∧ SgO 0 Y Q h1 ∧ Below w.heap.size w Y) := by
  obtain ⟨q1, q2⟩ := one_boxR w1 31 Z T1 TZ1.out
  exact ⟨_, rfl, (HX.out.1.kept b1).kept q2, q1, o1.kept q2, andThen (andThen HX.out.2 b1) q2⟩
 clear hT1 hTL1 hTE1 o1 b1 HX HA k0
 go_wp2_with (first | (refine wpList_alloc_Z HZ.out rfl rfl ?_) | (refine wpList_store_mid rfl 31 (.tmp 3) (.tmp 24) rfl w1.heap.size 0 T1.toArray rfl rfl TT1.out (by simpa using TL1.out) (all_oneCell_toArray TO1.out) ?_; (obtain ⟨Y, hY, hq⟩ := E1.out); (have H1 : Hid _ := hq); (rw [List.toList_toArray, ← hY]); (clear hY hq E1 TT1)) | (refine wpList_load_mid rfl 31 _ rfl w.heap.size 1 rfl D _ (HRD.out _ H1.out.1).1 underlying31 rfl HL.out ?_) | (refine wpList_load_mid rfl 28 _ rfl w.heap.size 17 rfl E _ (HRD.out _ H1.out.1).2 underlying28 rfl HL2.out ?_) | fail)
 generalize w1.heap.size = p1 at *
 refine (HB.out _ H1.out.2.2.2).mono ?_
 rintro e w2 ⟨h2, rfl, o2, b2⟩
 obtain ⟨T2, hT2, hTL2, hTE2⟩ := sv_letter Q h2
 rw [hT2]
 have TL2 : Hid _ := hTL2
 have TV2 : Hid (sv Q h2 = .agg T2.toArray) := hT2
 have TO2 : Hid (∀ v ∈ T2, v.oneCell' = true) := by show ∀ v ∈ T2, _; rw [hTE2]; exact scl_one _ _
 have TZ2 : Hid (T2.length = Z.length) := by show _ = _; rw [hTE2, HZL.out]; rfl
 have TT2 : Hid ((w2.alloc (.cells Z.toArray 31)).there w2.heap.size 0 T2.toArray.size) := there_of (lb_new w2 Z _) (by simpa using TZ2.out)
 have E2 : Hid (∃ Y, Y = (w2.alloc (.cells Z.toArray 31)).setCells w2.heap.size 0 T2 ∧ LB Y p1 31 T1 ∧ SgO 0 Y Q h1 ∧ LB Y w2.heap.size 31 T2 ∧ SgO 0 Y Q h2 ∧ Below w.heap.size w Y) := by
  obtain ⟨q1, q2⟩ := one_boxR w2 31 Z T2 TZ2.out
  exact ⟨_, rfl, (H1.out.2.1.kept b2).kept q2, (H1.out.2.2.1.kept b2).kept q2, q1, o2.kept q2, andThen (andThen H1.out.2.2.2 b2) q2⟩
 have HSM : Hid (∀ w', SgO 0 w' Q h1 → SgO 0 w' Q h2 → Calls prog 12 #[.agg T1.toArray, .agg T2.toArray] w' fun e w'' => e = .returned (.bool true) ∧ Below w'.heap.size w' w'') := fun w' q1 q2 => by have e := same_any Q h1 h2 w' q1.at q2.at; rw [TV1.out, TV2.out] at e; exact e
 clear hT2 hTL2 hTE2 o2 b2 H1 HB
 go_wp2_with (first | (refine wpList_alloc_Z HZ.out rfl rfl ?_) | (refine wpList_store_mid rfl 31 (.tmp 5) (.tmp 30) rfl w2.heap.size 0 T2.toArray rfl rfl TT2.out (by simpa using TL2.out) (all_oneCell_toArray TO2.out) ?_; (obtain ⟨Y2, hY2, hq⟩ := E2.out); (have H2 : Hid _ := hq); (rw [List.toList_toArray, ← hY2]); (clear hY2 hq E2 TT2)) | (refine zqS31 p1 T1 H2.out.1.range TL1.out ?_) | (refine zqS31 w2.heap.size T2 H2.out.2.2.1.range TL2.out ?_) | fail)
 refine (HSM.out _ H2.out.2.1 H2.out.2.2.2.1).mono ?_
 rintro e w3 ⟨rfl, b3⟩
 have H3 : Hid (Below w.heap.size w w3) := andThen H2.out.2.2.2.2 b3
 clear b3 H2 HSM
 have yz : (z == z) = true := by simp
 go_wp2_with fail
 refine (snum_any z _).mono ?_
 rintro e _ ⟨rfl, rfl⟩
 go_wp2
 go_ret
 exact ⟨rfl, H3.out⟩
theorem answered_2 (S : Sg) (h : SH) (r : Rec) (d : Value) (w : World) (k : SgAt w S h) (hb : Bs w d r.l) (hT : STabs w) (hR : Tabs w) (hF : Fits S) (hnm : r.nm.size ≤ 1048576) (hf : r.x.fit) : Calls prog 24 #[ov 2 S h r.x r.nm d] w fun e w' => e = .returned (.bool true) ∧ Below w.heap.size w w' := by
 have HA0 : ∀ w', Below w.heap.size w w' → Calls prog 18 #[sv S h, rv r.x r.nm d] w' fun e w'' => Mkd (applyP S r).1 (applyP S r).2 w' e w'' := fun w' hb' => (apply_any S h r d w' (k.kept hb') (hb.kept hb') (hT.kept hb') (by have := hF.nm; omega) (by omega) hf).mono fun e w'' ⟨h', e1, e2, e3⟩ => ⟨h', e1, e2.weak (Nat.zero_le _), e3⟩
 have HB0 : ∀ w', Below w.heap.size w w' → Calls prog 19 #[sv S h, rv r.x r.nm d] w' fun e w'' => Mkd (applyP S r).1 (applyP S r).2 w' e w'' := fun w' hb' => (rxapply_all S h r d w' (k.kept hb') (hb.kept hb') (hR.kept hb') hF hnm hf).mono fun e w'' ⟨h', e1, e2, e3⟩ => ⟨h', e1, (own_o e2).weak (Nat.zero_le _), e3⟩
 obtain ⟨z, hz⟩ : ∃ z, (applyP S r).1 = z := ⟨_, rfl⟩
 obtain ⟨Q, hQ⟩ : ∃ Q, (applyP S r).2 = Q := ⟨_, rfl⟩
 rw [hz, hQ] at HA0 HB0
 clear hz hQ
 obtain ⟨Z, hZ⟩ : ∃ Z, Z = zcl := ⟨_, rfl⟩
 have HZ : Hid (Z = zcl) := hZ
 have HZL : Hid (Z.length = 16) := by show _ = _; rw [hZ]; rfl
 obtain ⟨D, hD, hL, hE⟩ := sv_letter S h
 obtain ⟨E, hD2, hL2, hE2⟩ := rv_letter r.x r.nm d
 have hov : ov 2 S h r.x r.nm d = .agg (.int .i64 2 :: (D ++ E)).toArray := by unfold ov; rw [hE, hE2]
 rw [hov]
 have HL : Hid _ := hL
 have HL2 : Hid _ := hL2
 have hDl : D.length = 16 := by rw [hE]; rfl
 have k0 := (lb_new w (.int .i64 2 :: (D ++ E)) 40).cell 0 (.int .i64 2) rfl
 obtain ⟨L, hLL⟩ : ∃ L, (.int .i64 2 :: (D ++ E) : List Value) = L := ⟨_, rfl⟩
 have HRD : Hid (∀ wx, LB wx w.heap.size 40 L → wx.rangeAt w.heap.size 1 D ∧ wx.rangeAt w.heap.size 17 E) := fun wx l => by
  rw [← hLL] at l
  exact ⟨mid_range l.range, end_range l.range hDl⟩
 rw [hLL] at k0 ⊢
 have HX : Hid (LB (w.alloc (.cells L.toArray 40)) w.heap.size 40 L ∧ Below w.heap.size w (w.alloc (.cells L.toArray 40))) := ⟨lb_new w L _, up0 _ _⟩
 clear hov hLL
 rw [hD, hD2] at HA0 HB0
 have HA : Hid _ := HA0
 have HB : Hid _ := HB0
 clear hD hL hE hD2 hL2 hE2 HA0 HB0 hZ hb hT hR hnm hf hDl k hF
 go_enter func24, ntmps24
 go_wp2_with (first | (refine wpList_load_mid rfl 31 _ rfl w.heap.size 1 rfl D _ (HRD.out _ HX.out.1).1 underlying31 rfl HL.out ?_) | (refine wpList_load_mid rfl 28 _ rfl w.heap.size 17 rfl E _ (HRD.out _ HX.out.1).2 underlying28 rfl HL2.out ?_) | fail)
 refine (HA.out _ HX.out.2).mono ?_
 rintro e w1 ⟨h1, rfl, o1, b1⟩
 obtain ⟨T1, hT1, hTL1, hTE1⟩ := sv_letter Q h1
 rw [hT1]
 have TL1 : Hid _ := hTL1
 have TV1 : Hid (sv Q h1 = .agg T1.toArray) := hT1
 have TO1 : Hid (∀ v ∈ T1, v.oneCell' = true) := by show ∀ v ∈ T1, _; rw [hTE1]; exact scl_one _ _
 have TZ1 : Hid (T1.length = Z.length) := by show _ = _; rw [hTE1, HZL.out]; rfl
 have TT1 : Hid ((w1.alloc (.cells Z.toArray 31)).there w1.heap.size 0 T1.toArray.size) := there_of (lb_new w1 Z _) (by simpa using TZ1.out)
 have E1 : Hid (∃ Y, Y = (w1.alloc (.cells Z.toArray 31)).setCells w1.heap.size 0 T1 ∧ LB Y w.heap.size 40 L ∧ LB Y w1.heap.size 31 T1 ∧ SgO 0 Y Q h1 ∧ Below w.heap.size w Y) := by
  obtain ⟨q1, q2⟩ := one_boxR w1 31 Z T1 TZ1.out
  exact ⟨_, rfl, (HX.out.1.kept b1).kept q2, q1, o1.kept q2, andThen (andThen HX.out.2 b1) q2⟩
 clear hT1 hTL1 hTE1 o1 b1 HX HA k0
 go_wp2_with (first | (refine wpList_alloc_Z HZ.out rfl rfl ?_) | (refine wpList_store_mid rfl 31 (.tmp 7) (.tmp 49) rfl w1.heap.size 0 T1.toArray rfl rfl TT1.out (by simpa using TL1.out) (all_oneCell_toArray TO1.out) ?_; (obtain ⟨Y, hY, hq⟩ := E1.out); (have H1 : Hid _ := hq); (rw [List.toList_toArray, ← hY]); (clear hY hq E1 TT1)) | (refine wpList_load_mid rfl 31 _ rfl w.heap.size 1 rfl D _ (HRD.out _ H1.out.1).1 underlying31 rfl HL.out ?_) | (refine wpList_load_mid rfl 28 _ rfl w.heap.size 17 rfl E _ (HRD.out _ H1.out.1).2 underlying28 rfl HL2.out ?_) | fail)
 generalize w1.heap.size = p1 at *
 refine (HB.out _ H1.out.2.2.2).mono ?_
 rintro e w2 ⟨h2, rfl, o2, b2⟩
 obtain ⟨T2, hT2, hTL2, hTE2⟩ := sv_letter Q h2
 rw [hT2]
 have TL2 : Hid _ := hTL2
 have TV2 : Hid (sv Q h2 = .agg T2.toArray) := hT2
 have TO2 : Hid (∀ v ∈ T2, v.oneCell' = true) := by show ∀ v ∈ T2, _; rw [hTE2]; exact scl_one _ _
 have TZ2 : Hid (T2.length = Z.length) := by show _ = _; rw [hTE2, HZL.out]; rfl
 have TT2 : Hid ((w2.alloc (.cells Z.toArray 31)).there w2.heap.size 0 T2.toArray.size) := there_of (lb_new w2 Z _) (by simpa using TZ2.out)
 have E2 : Hid (∃ Y, Y = (w2.alloc (.cells Z.toArray 31)).setCells w2.heap.size 0 T2 ∧ LB Y p1 31 T1 ∧ SgO 0 Y Q h1 ∧ LB Y w2.heap.size 31 T2 ∧ SgO 0 Y Q h2 ∧ Below w.heap.size w Y) := by
  obtain ⟨q1, q2⟩ := one_boxR w2 31 Z T2 TZ2.out
  exact ⟨_, rfl, (H1.out.2.1.kept b2).kept q2, (H1.out.2.2.1.kept b2).kept q2, q1, o2.kept q2, andThen (andThen H1.out.2.2.2 b2) q2⟩
 have HSM : Hid (∀ w', SgO 0 w' Q h1 → SgO 0 w' Q h2 → Calls prog 12 #[.agg T1.toArray, .agg T2.toArray] w' fun e w'' => e = .returned (.bool true) ∧ Below w'.heap.size w' w'') := fun w' q1 q2 => by have e := same_any Q h1 h2 w' q1.at q2.at; rw [TV1.out, TV2.out] at e; exact e
 clear hT2 hTL2 hTE2 o2 b2 H1 HB
 go_wp2_with (first | (refine wpList_alloc_Z HZ.out rfl rfl ?_) | (refine wpList_store_mid rfl 31 (.tmp 9) (.tmp 57) rfl w2.heap.size 0 T2.toArray rfl rfl TT2.out (by simpa using TL2.out) (all_oneCell_toArray TO2.out) ?_; (obtain ⟨Y2, hY2, hq⟩ := E2.out); (have H2 : Hid _ := hq); (rw [List.toList_toArray, ← hY2]); (clear hY2 hq E2 TT2)) | (refine zqS31 p1 T1 H2.out.1.range TL1.out ?_) | (refine zqS31 w2.heap.size T2 H2.out.2.2.1.range TL2.out ?_) | fail)
 refine (HSM.out _ H2.out.2.1 H2.out.2.2.2.1).mono ?_
 rintro e w3 ⟨rfl, b3⟩
 have H3 : Hid (Below w.heap.size w w3) := andThen H2.out.2.2.2.2 b3
 clear b3 H2 HSM
 have yz : (z == z) = true := by simp
 go_wp2_with fail
 refine (snum_any z _).mono ?_
 rintro e _ ⟨rfl, rfl⟩
 go_wp2
 go_ret
 exact ⟨rfl, H3.out⟩
theorem answered_3 (S : Sg) (h : SH) (r : Rec) (d : Value) (w : World) (k : SgAt w S h) (hT : STabs w) (hR : Tabs w) (hF : Fits S) : Calls prog 24 #[ov 3 S h r.x r.nm d] w fun e w' => e = .returned (.bool true) ∧ Below w.heap.size w w' := by
 have HA0 : ∀ w', Below w.heap.size w w' → Calls prog 40 #[ov 3 S h r.x r.nm d] w' fun e w'' => e = .returned (.bool true) ∧ Below w'.heap.size w' w'' := fun w' hb' => asked_any 3 S h r.x r.nm d w' (k.kept hb') (hT.kept hb').e.tabs.lets (hT.kept hb').k (hR.kept hb') hF (by omega)
 obtain ⟨L, hLL, hLN⟩ : ∃ L : List Value, ov 3 S h r.x r.nm d = .agg L.toArray ∧ ((prog.info? 40).map (·.size) = some L.length ∧ L[0]? = some (.int .i64 3)) := ⟨_, rfl, by kernel_rfl, rfl⟩
 rw [hLL] at HA0 ⊢
 have HA : Hid _ := HA0
 have HLN : Hid _ := hLN
 have HX : Hid (LB (w.alloc (.cells L.toArray 40)) w.heap.size 40 L ∧ Below w.heap.size w (w.alloc (.cells L.toArray 40))) := ⟨lb_new w L _, up0 _ _⟩
 have k0 := HX.out.1.cell 0 _ hLN.2
 clear HA0 hLL hLN k hT hR hF
 go_enter func24, ntmps24
 go_wp2_with (first | (refine zqS40 w.heap.size L HX.out.1.range HLN.out.1 ?_) | fail)
 refine (HA.out _ HX.out.2).mono ?_
 rintro e w1 ⟨rfl, b1⟩
 have H1 : Hid (Below w.heap.size w w1) := andThen HX.out.2 b1
 clear b1 HX HA k0
 go_wp2
 go_ret
 exact ⟨rfl, H1.out⟩
theorem answered_4 (S : Sg) (h : SH) (r : Rec) (d : Value) (w : World) (k : SgAt w S h) (hT : STabs w) (hR : Tabs w) (hF : Fits S) : Calls prog 24 #[ov 4 S h r.x r.nm d] w fun e w' => e = .returned (.bool true) ∧ Below w.heap.size w w' := by
 have HA0 : ∀ w', Below w.heap.size w w' → Calls prog 40 #[ov 4 S h r.x r.nm d] w' fun e w'' => e = .returned (.bool true) ∧ Below w'.heap.size w' w'' := fun w' hb' => asked_any 4 S h r.x r.nm d w' (k.kept hb') (hT.kept hb').e.tabs.lets (hT.kept hb').k (hR.kept hb') hF (by omega)
 obtain ⟨L, hLL, hLN⟩ : ∃ L : List Value, ov 4 S h r.x r.nm d = .agg L.toArray ∧ ((prog.info? 40).map (·.size) = some L.length ∧ L[0]? = some (.int .i64 4)) := ⟨_, rfl, by kernel_rfl, rfl⟩
 rw [hLL] at HA0 ⊢
 have HA : Hid _ := HA0
 have HLN : Hid _ := hLN
 have HX : Hid (LB (w.alloc (.cells L.toArray 40)) w.heap.size 40 L ∧ Below w.heap.size w (w.alloc (.cells L.toArray 40))) := ⟨lb_new w L _, up0 _ _⟩
 have k0 := HX.out.1.cell 0 _ hLN.2
 clear HA0 hLL hLN k hT hR hF
 go_enter func24, ntmps24
 go_wp2_with (first | (refine zqS40 w.heap.size L HX.out.1.range HLN.out.1 ?_) | fail)
 refine (HA.out _ HX.out.2).mono ?_
 rintro e w1 ⟨rfl, b1⟩
 have H1 : Hid (Below w.heap.size w w1) := andThen HX.out.2 b1
 clear b1 HX HA k0
 go_wp2
 go_ret
 exact ⟨rfl, H1.out⟩
theorem answered_5 (S : Sg) (h : SH) (r : Rec) (d : Value) (w : World) (k : SgAt w S h) (hT : STabs w) (hR : Tabs w) (hF : Fits S) : Calls prog 24 #[ov 5 S h r.x r.nm d] w fun e w' => e = .returned (.bool true) ∧ Below w.heap.size w w' := by
 have HA0 : ∀ w', Below w.heap.size w w' → Calls prog 40 #[ov 5 S h r.x r.nm d] w' fun e w'' => e = .returned (.bool true) ∧ Below w'.heap.size w' w'' := fun w' hb' => asked_any 5 S h r.x r.nm d w' (k.kept hb') (hT.kept hb').e.tabs.lets (hT.kept hb').k (hR.kept hb') hF (by omega)
 obtain ⟨L, hLL, hLN⟩ : ∃ L : List Value, ov 5 S h r.x r.nm d = .agg L.toArray ∧ ((prog.info? 40).map (·.size) = some L.length ∧ L[0]? = some (.int .i64 5)) := ⟨_, rfl, by kernel_rfl, rfl⟩
 rw [hLL] at HA0 ⊢
 have HA : Hid _ := HA0
 have HLN : Hid _ := hLN
 have HX : Hid (LB (w.alloc (.cells L.toArray 40)) w.heap.size 40 L ∧ Below w.heap.size w (w.alloc (.cells L.toArray 40))) := ⟨lb_new w L _, up0 _ _⟩
 have k0 := HX.out.1.cell 0 _ hLN.2
 clear HA0 hLL hLN k hT hR hF
 go_enter func24, ntmps24
 go_wp2_with (first | (refine zqS40 w.heap.size L HX.out.1.range HLN.out.1 ?_) | fail)
 refine (HA.out _ HX.out.2).mono ?_
 rintro e w1 ⟨rfl, b1⟩
 have H1 : Hid (Below w.heap.size w w1) := andThen HX.out.2 b1
 clear b1 HX HA k0
 go_wp2
 go_ret
 exact ⟨rfl, H1.out⟩
theorem answered_6 (S : Sg) (h : SH) (r : Rec) (d : Value) (w : World) (k : SgAt w S h) (hT : STabs w) (hR : Tabs w) (hF : Fits S) : Calls prog 24 #[ov 6 S h r.x r.nm d] w fun e w' => e = .returned (.bool true) ∧ Below w.heap.size w w' := by
 have HA0 : ∀ w', Below w.heap.size w w' → Calls prog 40 #[ov 6 S h r.x r.nm d] w' fun e w'' => e = .returned (.bool true) ∧ Below w'.heap.size w' w'' := fun w' hb' => asked_any 6 S h r.x r.nm d w' (k.kept hb') (hT.kept hb').e.tabs.lets (hT.kept hb').k (hR.kept hb') hF (by omega)
 obtain ⟨L, hLL, hLN⟩ : ∃ L : List Value, ov 6 S h r.x r.nm d = .agg L.toArray ∧ ((prog.info? 40).map (·.size) = some L.length ∧ L[0]? = some (.int .i64 6)) := ⟨_, rfl, by kernel_rfl, rfl⟩
 rw [hLL] at HA0 ⊢
 have HA : Hid _ := HA0
 have HLN : Hid _ := hLN
 have HX : Hid (LB (w.alloc (.cells L.toArray 40)) w.heap.size 40 L ∧ Below w.heap.size w (w.alloc (.cells L.toArray 40))) := ⟨lb_new w L _, up0 _ _⟩
 have k0 := HX.out.1.cell 0 _ hLN.2
 clear HA0 hLL hLN k hT hR hF
 go_enter func24, ntmps24
 go_wp2_with (first | (refine zqS40 w.heap.size L HX.out.1.range HLN.out.1 ?_) | fail)
 refine (HA.out _ HX.out.2).mono ?_
 rintro e w1 ⟨rfl, b1⟩
 have H1 : Hid (Below w.heap.size w w1) := andThen HX.out.2 b1
 clear b1 HX HA k0
 go_wp2
 go_ret
 exact ⟨rfl, H1.out⟩
theorem answered_7y (S : Sg) (h : SH) (r : Rec) (d : Value) (w : World) (k : SgAt w S h) (hT : STabs w) (hR : Tabs w) (hF : Fits S) (hc : chkS S = true) : Calls prog 24 #[ov 7 S h r.x r.nm d] w fun e w' => e = .returned (.bool true) ∧ Below w.heap.size w w' := by
 have HA0 : ∀ w', Below w.heap.size w w' → Calls prog 41 #[sv S h] w' fun e w'' => ∃ v, e = .returned (.tuple #[v, .int .i64 0]) ∧ RecsAt w'' v (storyP S) ∧ Below w'.heap.size w' w'' := fun w' hb' => (story_ok S h w' (k.kept hb') (hT.kept hb').e.tabs.lets (by have := hF.nm; omega) hc).mono fun e w'' ⟨v, ps, e1, e2, e3, e4⟩ => ⟨v, e1, story_recs e2 e3 hc, e4⟩
 have HB0 : ∀ w', Below w.heap.size w w' → Calls prog 42 #[sv S h] w' fun e w'' => ∃ v, e = .returned (.tuple #[v, .int .i64 0]) ∧ RecsAt w'' v (storyP S) ∧ Below w'.heap.size w' w'' := fun w' hb' => (rxstory_ok S h w' (k.kept hb') (hR.kept hb') hF hc).mono fun e w'' ⟨v, ps, e1, e2, e3, e4⟩ => ⟨v, e1, story_recs e2 e3 hc, e4⟩
 obtain ⟨RS, hRS⟩ : ∃ RS, storyP S = RS := ⟨_, rfl⟩
 rw [hRS] at HA0 HB0
 obtain ⟨z, hz⟩ : ∃ z : Int, (0 : Int) = z := ⟨_, rfl⟩
 rw [hz] at HA0 HB0
 clear hRS hz
 obtain ⟨Z, hZ⟩ : ∃ Z, Z = zcl := ⟨_, rfl⟩
 have HZ : Hid (Z = zcl) := hZ
 have HZL : Hid (Z.length = 16) := by show _ = _; rw [hZ]; rfl
 obtain ⟨D, hD, hL, hE⟩ := sv_letter S h
 obtain ⟨E, hD2, hL2, hE2⟩ := rv_letter r.x r.nm d
 have hov : ov 7 S h r.x r.nm d = .agg (.int .i64 7 :: (D ++ E)).toArray := by unfold ov; rw [hE, hE2]
 rw [hov]
 have HL : Hid _ := hL
 have HL2 : Hid _ := hL2
 have hDl : D.length = 16 := by rw [hE]; rfl
 have k0 := (lb_new w (.int .i64 7 :: (D ++ E)) 40).cell 0 (.int .i64 7) rfl
 obtain ⟨L, hLL⟩ : ∃ L, (.int .i64 7 :: (D ++ E) : List Value) = L := ⟨_, rfl⟩
 have HRD : Hid (∀ wx, LB wx w.heap.size 40 L → wx.rangeAt w.heap.size 1 D ∧ wx.rangeAt w.heap.size 17 E) := fun wx l => by
  rw [← hLL] at l
  exact ⟨mid_range l.range, end_range l.range hDl⟩
 rw [hLL] at k0 ⊢
 have HX : Hid (LB (w.alloc (.cells L.toArray 40)) w.heap.size 40 L ∧ Below w.heap.size w (w.alloc (.cells L.toArray 40))) := ⟨lb_new w L _, up0 _ _⟩
 clear hov hLL
 rw [hD] at HA0 HB0
 have HA : Hid _ := HA0
 have HB : Hid _ := HB0
 clear hD hL hE hD2 hL2 hE2 HA0 HB0 hZ hT hR hDl k hF hc HL2 HZ HZL
 go_enter func24, ntmps24
 go_wp2_with (first | (refine wpList_load_mid rfl 31 _ rfl w.heap.size 1 rfl D _ (HRD.out _ HX.out.1).1 underlying31 rfl HL.out ?_) | fail)
 refine (HA.out _ HX.out.2).mono ?_
 rintro e w1 ⟨v1, rfl, r1, b1⟩
 have H1 : Hid (LB w1 w.heap.size 40 L ∧ RecsAt w1 v1 RS ∧ Below w.heap.size w w1) := ⟨HX.out.1.kept b1, r1, andThen HX.out.2 b1⟩
 clear r1 b1 HX HA k0
 go_wp2_with (first | (refine wpList_load_mid rfl 31 _ rfl w.heap.size 1 rfl D _ (HRD.out _ H1.out.1).1 underlying31 rfl HL.out ?_) | fail)
 refine (HB.out _ H1.out.2.2).mono ?_
 rintro e w2 ⟨v2, rfl, r2, b2⟩
 have H2 : Hid (RecsAt w2 v1 RS ∧ RecsAt w2 v2 RS ∧ Below w.heap.size w w2) := ⟨H1.out.2.1.kept b2, r2, andThen H1.out.2.2 b2⟩
 clear r2 b2 H1 HB HRD
 go_wp2_with fail
 refine (sameAll3_ok v1 v2 RS w2 H2.out.1 H2.out.2.1).mono ?_
 rintro e w3 ⟨rfl, b3⟩
 have H3 : Hid (Below w.heap.size w w3) := andThen H2.out.2.2 b3
 clear b3 H2
 have yz : (z == z) = true := by simp
 go_wp2_with fail
 refine (snum_any z _).mono ?_
 rintro e _ ⟨rfl, rfl⟩
 go_wp2
 go_ret
 exact ⟨rfl, H3.out⟩
theorem answered_7n (S : Sg) (h : SH) (r : Rec) (d : Value) (w : World) (k : SgAt w S h) (hT : STabs w) (hR : Tabs w) (hF : Fits S) (hc : chkS S = false) : Calls prog 24 #[ov 7 S h r.x r.nm d] w fun e w' => e = .returned (.bool true) ∧ Below w.heap.size w w' := by
 have hnil : ∀ w' : World, RecsAt w' (.slice none 0 0) [] := fun w' => ⟨none, 0, rfl, by simp [maxLen], fun k r hr => by simp at hr⟩
 have HA0 : ∀ w', Below w.heap.size w w' → Calls prog 41 #[sv S h] w' fun e w'' => ∃ v, e = .returned (.tuple #[v, .int .i64 100]) ∧ RecsAt w'' v [] ∧ Below w'.heap.size w' w'' := fun w' hb' => (story_bad S h w' (k.kept hb') (hT.kept hb').e.tabs.lets (by have := hF.nm; omega) hc).mono fun e w'' h1 => ⟨_, h1.1, hnil _, h1.2⟩
 have HB0 : ∀ w', Below w.heap.size w w' → Calls prog 42 #[sv S h] w' fun e w'' => ∃ v, e = .returned (.tuple #[v, .int .i64 100]) ∧ RecsAt w'' v [] ∧ Below w'.heap.size w' w'' := fun w' hb' => (rxstory_bad S h w' (k.kept hb') (hR.kept hb') hF hc).mono fun e w'' h1 => ⟨_, h1.1, hnil _, h1.2⟩
 obtain ⟨RS, hRS⟩ : ∃ RS : List Rec, [] = RS := ⟨_, rfl⟩
 rw [hRS] at HA0 HB0
 obtain ⟨z, hz⟩ : ∃ z : Int, (100 : Int) = z := ⟨_, rfl⟩
 rw [hz] at HA0 HB0
 clear hRS hz hnil
 obtain ⟨Z, hZ⟩ : ∃ Z, Z = zcl := ⟨_, rfl⟩
 have HZ : Hid (Z = zcl) := hZ
 have HZL : Hid (Z.length = 16) := by show _ = _; rw [hZ]; rfl
 obtain ⟨D, hD, hL, hE⟩ := sv_letter S h
 obtain ⟨E, hD2, hL2, hE2⟩ := rv_letter r.x r.nm d
 have hov : ov 7 S h r.x r.nm d = .agg (.int .i64 7 :: (D ++ E)).toArray := by unfold ov; rw [hE, hE2]
 rw [hov]
 have HL : Hid _ := hL
 have HL2 : Hid _ := hL2
 have hDl : D.length = 16 := by rw [hE]; rfl
 have k0 := (lb_new w (.int .i64 7 :: (D ++ E)) 40).cell 0 (.int .i64 7) rfl
 obtain ⟨L, hLL⟩ : ∃ L, (.int .i64 7 :: (D ++ E) : List Value) = L := ⟨_, rfl⟩
 have HRD : Hid (∀ wx, LB wx w.heap.size 40 L → wx.rangeAt w.heap.size 1 D ∧ wx.rangeAt w.heap.size 17 E) := fun wx l => by
  rw [← hLL] at l
  exact ⟨mid_range l.range, end_range l.range hDl⟩
 rw [hLL] at k0 ⊢
 have HX : Hid (LB (w.alloc (.cells L.toArray 40)) w.heap.size 40 L ∧ Below w.heap.size w (w.alloc (.cells L.toArray 40))) := ⟨lb_new w L _, up0 _ _⟩
 clear hov hLL
 rw [hD] at HA0 HB0
 have HA : Hid _ := HA0
 have HB : Hid _ := HB0
 clear hD hL hE hD2 hL2 hE2 HA0 HB0 hZ hT hR hDl k hF hc HL2 HZ HZL
 go_enter func24, ntmps24
 go_wp2_with (first | (refine wpList_load_mid rfl 31 _ rfl w.heap.size 1 rfl D _ (HRD.out _ HX.out.1).1 underlying31 rfl HL.out ?_) | fail)
 refine (HA.out _ HX.out.2).mono ?_
 rintro e w1 ⟨v1, rfl, r1, b1⟩
 have H1 : Hid (LB w1 w.heap.size 40 L ∧ RecsAt w1 v1 RS ∧ Below w.heap.size w w1) := ⟨HX.out.1.kept b1, r1, andThen HX.out.2 b1⟩
 clear r1 b1 HX HA k0
 go_wp2_with (first | (refine wpList_load_mid rfl 31 _ rfl w.heap.size 1 rfl D _ (HRD.out _ H1.out.1).1 underlying31 rfl HL.out ?_) | fail)
 refine (HB.out _ H1.out.2.2).mono ?_
 rintro e w2 ⟨v2, rfl, r2, b2⟩
 have H2 : Hid (RecsAt w2 v1 RS ∧ RecsAt w2 v2 RS ∧ Below w.heap.size w w2) := ⟨H1.out.2.1.kept b2, r2, andThen H1.out.2.2 b2⟩
 clear r2 b2 H1 HB HRD
 go_wp2_with fail
 refine (sameAll3_ok v1 v2 RS w2 H2.out.1 H2.out.2.1).mono ?_
 rintro e w3 ⟨rfl, b3⟩
 have H3 : Hid (Below w.heap.size w w3) := andThen H2.out.2.2 b3
 clear b3 H2
 have yz : (z == z) = true := by simp
 go_wp2_with fail
 refine (snum_any z _).mono ?_
 rintro e _ ⟨rfl, rfl⟩
 go_wp2
 go_ret
 exact ⟨rfl, H3.out⟩
theorem answered_8 (S : Sg) (h : SH) (r : Rec) (d : Value) (w : World) (k : SgAt w S h) (hF : Fits S) : Calls prog 24 #[ov 8 S h r.x r.nm d] w fun e w' => e = .returned (.bool true) ∧ Below w.heap.size w w' := by
 have HA0 : ∀ w', Below w.heap.size w w' → Calls prog 32 #[sv S h] w' fun e w'' => ∃ h', e = .returned (sv S h') ∧ SgO 0 w'' S h' ∧ Below w'.heap.size w' w'' := fun w' hb' => (sclone_any S h w' (k.kept hb') (fits_light hF)).mono fun e w'' ⟨h', e1, e2, e3⟩ => ⟨h', e1, (own_o e2).weak (Nat.zero_le _), e3⟩
 have HSM0 : ∀ (h1 : SH) (w' : World), Below w.heap.size w w' → SgO 0 w' S h1 → Calls prog 12 #[sv S h1, sv S h] w' fun e w'' => e = .returned (.bool true) ∧ Below w'.heap.size w' w'' := fun h1 w' hb' q => same_any S h1 h w' q.at (k.kept hb')
 obtain ⟨Z, hZ⟩ : ∃ Z, Z = zcl := ⟨_, rfl⟩
 have HZ : Hid (Z = zcl) := hZ
 have HZL : Hid (Z.length = 16) := by show _ = _; rw [hZ]; rfl
 obtain ⟨D, hD, hL, hE⟩ := sv_letter S h
 obtain ⟨E, hD2, hL2, hE2⟩ := rv_letter r.x r.nm d
 have hov : ov 8 S h r.x r.nm d = .agg (.int .i64 8 :: (D ++ E)).toArray := by unfold ov; rw [hE, hE2]
 rw [hov]
 have HL : Hid _ := hL
 have HL2 : Hid _ := hL2
 have hDl : D.length = 16 := by rw [hE]; rfl
 have k0 := (lb_new w (.int .i64 8 :: (D ++ E)) 40).cell 0 (.int .i64 8) rfl
 obtain ⟨L, hLL⟩ : ∃ L, (.int .i64 8 :: (D ++ E) : List Value) = L := ⟨_, rfl⟩
 have HRD : Hid (∀ wx, LB wx w.heap.size 40 L → wx.rangeAt w.heap.size 1 D ∧ wx.rangeAt w.heap.size 17 E) := fun wx l => by
  rw [← hLL] at l
  exact ⟨mid_range l.range, end_range l.range hDl⟩
 rw [hLL] at k0 ⊢
 have HX : Hid (LB (w.alloc (.cells L.toArray 40)) w.heap.size 40 L ∧ Below w.heap.size w (w.alloc (.cells L.toArray 40))) := ⟨lb_new w L _, up0 _ _⟩
 clear hov hLL
 rw [hD] at HA0
 have HA : Hid _ := HA0
 have HSM : Hid (∀ (h1 : SH) (T : List Value) (w' : World), sv S h1 = .agg T.toArray → Below w.heap.size w w' → SgO 0 w' S h1 → Calls prog 12 #[.agg T.toArray, .agg D.toArray] w' fun e w'' => e = .returned (.bool true) ∧ Below w'.heap.size w' w'') := fun h1 T w' e1 hb' q => by have e := HSM0 h1 w' hb' q; rw [e1, hD] at e; exact e
 clear hD hL hE hD2 hL2 hE2 HA0 HSM0 hZ hDl k hF HL2
 go_enter func24, ntmps24
 go_wp2_with (first | (refine wpList_load_mid rfl 31 _ rfl w.heap.size 1 rfl D _ (HRD.out _ HX.out.1).1 underlying31 rfl HL.out ?_) | fail)
 refine (HA.out _ HX.out.2).mono ?_
 rintro e w1 ⟨h1, rfl, o1, b1⟩
 obtain ⟨T1, hT1, hTL1, hTE1⟩ := sv_letter S h1
 rw [hT1]
 have TL1 : Hid _ := hTL1
 have TV1 : Hid (sv S h1 = .agg T1.toArray) := hT1
 have TO1 : Hid (∀ v ∈ T1, v.oneCell' = true) := by show ∀ v ∈ T1, _; rw [hTE1]; exact scl_one _ _
 have TZ1 : Hid (T1.length = Z.length) := by show _ = _; rw [hTE1, HZL.out]; rfl
 have TT1 : Hid ((w1.alloc (.cells Z.toArray 31)).there w1.heap.size 0 T1.toArray.size) := there_of (lb_new w1 Z _) (by simpa using TZ1.out)
 have E1 : Hid (∃ Y, Y = (w1.alloc (.cells Z.toArray 31)).setCells w1.heap.size 0 T1 ∧ LB Y w.heap.size 40 L ∧ LB Y w1.heap.size 31 T1 ∧ SgO 0 Y S h1 ∧ Below w.heap.size w Y) := by
  obtain ⟨q1, q2⟩ := one_boxR w1 31 Z T1 TZ1.out
  exact ⟨_, rfl, (HX.out.1.kept b1).kept q2, q1, o1.kept q2, andThen (andThen HX.out.2 b1) q2⟩
 clear hT1 hTL1 hTE1 o1 b1 HX HA k0
 go_wp2_with (first | (refine wpList_alloc_Z HZ.out rfl rfl ?_) | (refine wpList_store_mid rfl 31 (.tmp 15) (.tmp 102) rfl w1.heap.size 0 T1.toArray rfl rfl TT1.out (by simpa using TL1.out) (all_oneCell_toArray TO1.out) ?_; (obtain ⟨Y, hY, hq⟩ := E1.out); (have H1 : Hid _ := hq); (rw [List.toList_toArray, ← hY]); (clear hY hq E1 TT1)) | (refine zqS31 w1.heap.size T1 H1.out.2.1.range TL1.out ?_) | (refine wpList_load_mid rfl 31 _ rfl w.heap.size 1 rfl D _ (HRD.out _ H1.out.1).1 underlying31 rfl HL.out ?_) | fail)
 refine (HSM.out h1 T1 _ TV1.out H1.out.2.2.2 H1.out.2.2.1).mono ?_
 rintro e w3 ⟨rfl, b3⟩
 have H3 : Hid (Below w.heap.size w w3) := andThen H1.out.2.2.2 b3
 clear b3 H1 HSM
 go_wp2
 go_ret
 exact ⟨rfl, H3.out⟩
theorem answered_7 (S : Sg) (h : SH) (r : Rec) (d : Value) (w : World) (k : SgAt w S h) (hT : STabs w) (hR : Tabs w) (hF : Fits S) : Calls prog 24 #[ov 7 S h r.x r.nm d] w fun e w' => e = .returned (.bool true) ∧ Below w.heap.size w w' := by
 cases hc : chkS S with
 | true => exact answered_7y S h r d w k hT hR hF hc
 | false => exact answered_7n S h r d w k hT hR hF hc
end Go.Proofs.YtgmkjcfdpiinpaaGreatDoor
