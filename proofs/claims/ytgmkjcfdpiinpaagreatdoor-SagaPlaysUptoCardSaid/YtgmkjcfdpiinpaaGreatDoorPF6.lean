import Derived.Test.YtgmkjcfdpiinpaaGreatDoorPF2
import Derived.Test.YtgmkjcfdpiinpaaGreatDoorPF4
open Go.Proofs.Tryz
namespace Go.Proofs.YtgmkjcfdpiinpaaGreatDoor
open Go Go.RowKit
open Wb

theorem row_set {B : Nat} {w : World} {v : Value} {vs : List Value} (h : Row B w v vs) (g o : Nat) (xs : List Value) (hg : g < B) : Row B (w.setCells g o xs) v vs := row_kept2 h fun b hb => cells_other g xs o w b (by have := (World.ownsRow.lt h b hb).1; omega)
theorem Laid3.set {B : Nat} {w : World} {vm vw : Value} {ms ds es : List Value} {ls : List (List Nat)} (h : Laid3 B w vm vw ms ds es ls) (g o : Nat) (xs : List Value) (hg : g < B) : Laid3 B (w.setCells g o xs) vm vw ms ds es ls := ⟨row_set h.1 g o xs hg, row_set h.2.1 g o xs hg, h.2.2.1, h.2.2.2.1, h.2.2.2.2.1, fun j hj => by
 obtain ⟨a, n, c, h1, h2, h3⟩ := h.2.2.2.2.2.1 j hj
 exact ⟨a, n, c, h1, h2, Own.cells h3 g o xs hg⟩, fun e he => Own.cells (h.2.2.2.2.2.2 e he) g o xs hg⟩
theorem row_weakS {B B2 : Nat} {w : World} {v : Value} {vs : List Value} (h : Row B2 w v vs) (hB : B ≤ B2) : Row B w v vs := by
 refine ⟨h.1, ?_⟩
 rcases h.2 with h1 | ⟨g, cap, cur, e, hb, rest⟩
 ·exact .inl h1
 ·exact .inr ⟨g, cap, cur, e, Nat.le_trans hB hb, rest⟩
theorem Laid3.weak {B B2 : Nat} {w : World} {vm vw : Value} {ms ds es : List Value} {ls : List (List Nat)} (h : Laid3 B2 w vm vw ms ds es ls) (hB : B ≤ B2) : Laid3 B w vm vw ms ds es ls := ⟨row_weakS h.1 hB, row_weakS h.2.1 hB, h.2.2.1, h.2.2.2.1, h.2.2.2.2.1, fun j hj => by
 obtain ⟨a, n, c, h1, h2, h3⟩ := h.2.2.2.2.2.1 j hj
 exact ⟨a, n, c, h1, h2, own_weak h3 hB⟩, fun e he => own_weak (h.2.2.2.2.2.2 e he) hB⟩
theorem Laid3.shapeM {B : Nat} {w : World} {vm vw : Value} {ms ds es : List Value} {ls : List (List Nat)} (h : Laid3 B w vm vw ms ds es ls) (he : es.length = 20) : ∃ g, ∃ c : Nat, vm = .slice (some ⟨g, 0, none⟩) (ls.length + 20) c ∧ ls.length + 20 ≤ c ∧ c ≤ maxLen := by
 have hl : (ms ++ es).length = ls.length + 20 := by rw [List.length_append, h.2.2.2.1, he]
 rcases h.1.shape with ⟨_, e⟩ | ⟨g, cap, e, h1, h2, _⟩
 ·rw [e] at hl
  simp at hl
 ·rw [hl] at e h1
  exact ⟨g, cap, e, h1, h2⟩
theorem Laid3.prefix {B : Nat} {w : World} {g n c : Nat} {vw : Value} {ms ds es : List Value} {ls : List (List Nat)} (h : Laid3 B w (.slice (some ⟨g, 0, none⟩) n c) vw ms ds es ls) (he : es.length = 20) (hl : ls.length ≤ maxLen) : Ps w (.slice (some ⟨g, 0, none⟩) ls.length c) ls := by
 obtain ⟨a, cap, e, hm, hc⟩ := (h.cut he).shape
 simp only [Value.slice.injEq] at e
 obtain ⟨rfl, _, rfl⟩ := e
 obtain ⟨b, off, e2, hcell⟩ := hc (by unfold mark206; simp)
 refine ⟨some ⟨g, 0, none⟩, c, rfl, hl, fun _ => ⟨b, off, e2, fun j hj => ?_⟩⟩
 obtain ⟨vj, q1, q2⟩ := hcell j (by rw [List.length_append]; omega)
 rw [List.getElem_append_left hj] at q2
 exact ⟨vj, q1, q2⟩
theorem Laid3.behind {B : Nat} {w : World} {g n c : Nat} {vw : Value} {ms ds es : List Value} {ls : List (List Nat)} (h : Laid3 B w (.slice (some ⟨g, 0, none⟩) n c) vw ms ds es ls) (he : es.length = 20) (i : Nat) (hi : i < 20) : ∃ d, w.cell? ⟨g, ls.length + i, none⟩ = some d ∧ Bs w d [206] := by
 obtain ⟨a, cap, e, hm, hc⟩ := (h.cut he).shape
 simp only [Value.slice.injEq] at e
 obtain ⟨rfl, _, rfl⟩ := e
 obtain ⟨b, off, e2, hcell⟩ := hc (by unfold mark206; simp)
 simp only [Option.some.injEq, Addr.mk.injEq, and_true] at e2
 obtain ⟨rfl, rfl⟩ := e2
 have hlm : mark206.length = 20 := rfl
 obtain ⟨vj, q1, q2⟩ := hcell (ls.length + i) (by rw [List.length_append, hlm]; omega)
 rw [List.getElem_append_right (by omega)] at q2
 rw [Nat.zero_add] at q1
 have e6 : ∀ (k : Nat) (hk : k < mark206.length), mark206[k] = [206] := fun k hk => List.getElem_replicate _
 rw [e6] at q2
 exact ⟨vj, q1, q2⟩
theorem sgo_set {B : Nat} {w : World} {S : Sg} {h : SH} (k : SgO B w S h) (g o : Nat) (vs : List Value) (hg : g < B) : SgO B (w.setCells g o vs) S h := k.sets g o vs hg
structure PSt (w0 : World) (p3 p4 : Nat) (S : Sg) (h1 : SH) (r : Rec) (d1 vm1 vw1 vm2 vw2 vi vf vd : Value) (L : List Value) (w : World) : Prop where
 op : LB w w0.heap.size 40 L
 s : LB w p3 31 (scl S h1)
 rr : LB w p4 28 (rcE r.x r.nm d1)
 so : SgO (w0.heap.size + 1) w S h1
 ro : Own (w0.heap.size + 1) w d1 r.l
 lo : ∃ ms ds es, Laid3 (w0.heap.size + 1) w vm1 vw1 ms ds es S.outs ∧ es.length = 20
 lu : ∃ ms ds es, Laid3 (w0.heap.size + 1) w vm2 vw2 ms ds es S.und ∧ es.length = 20
 ri : Own (w0.heap.size + 1) w vi (roomL S.inp)
 rf : Own (w0.heap.size + 1) w vf (roomL S.fail)
 rd : Own (w0.heap.size + 1) w vd (roomL r.l)
 bel : Below w0.heap.size w0 w
section
variable {w0 w w' : World} {p3 p4 : Nat} {S : Sg} {h1 : SH} {r : Rec} {d1 vm1 vw1 vm2 vw2 vi vf vd : Value} {L : List Value}
theorem PSt.kept (k : PSt w0 p3 p4 S h1 r d1 vm1 vw1 vm2 vw2 vi vf vd L w) (hb : Below w.heap.size w w') : PSt w0 p3 p4 S h1 r d1 vm1 vw1 vm2 vw2 vi vf vd L w' := by
 obtain ⟨ms, ds, es, q1, q2⟩ := k.lo
 obtain ⟨ms2, ds2, es2, q3, q4⟩ := k.lu
 exact ⟨k.op.kept hb, k.s.kept hb, k.rr.kept hb, k.so.kept hb, k.ro.kept hb, ⟨ms, ds, es, q1.kept hb, q2⟩, ⟨ms2, ds2, es2, q3.kept hb, q4⟩, k.ri.kept hb, k.rf.kept hb, k.rd.kept hb, andThen k.bel hb⟩
theorem PSt.store (k : PSt w0 p3 p4 S h1 r d1 vm1 vw1 vm2 vw2 vi vf vd L w) (h3 : p3 ≠ w0.heap.size) (h4 : p4 ≠ w0.heap.size) (j : Nat) (v : Value) : PSt w0 p3 p4 S h1 r d1 vm1 vw1 vm2 vw2 vi vf vd (L.set j v) (w.setCell ⟨w0.heap.size, j, none⟩ v) := by
 obtain ⟨ms, ds, es, q1, q2⟩ := k.lo
 obtain ⟨ms2, ds2, es2, q3, q4⟩ := k.lu
 have hg : w0.heap.size < w0.heap.size + 1 := Nat.lt_succ_self _
 exact ⟨k.op.set j v, k.s.other _ _ h3, k.rr.other _ _ h4, sgo_set k.so _ j [v] hg, Own.cells k.ro _ j [v] hg, ⟨ms, ds, es, q1.set _ j [v] hg, q2⟩, ⟨ms2, ds2, es2, q3.set _ j [v] hg, q4⟩, Own.cells k.ri _ j [v] hg, Own.cells k.rf _ j [v] hg, Own.cells k.rd _ j [v] hg, below_cells (Nat.le_refl _) [v] j _ k.bel⟩
end
theorem own_cut {B : Nat} {w : World} {v : Value} {l : List Nat} (h : Own B w v (roomL l)) : ∃ a, ∃ n c : Nat, v = .slice a n c ∧ l.length ≤ n ∧ l.length ≤ c ∧ c ≤ maxLen ∧ Bs w (.slice a l.length c) l := by
 have hl : (roomL l).length = l.length + 75 := by unfold roomL; rw [List.length_append, tlK_len]
 obtain ⟨a, c, rfl, h1, h2, _, _⟩ := h.bs.shape
 exact ⟨a, _, c, rfl, by omega, by omega, h2, cut_bs h⟩
set_option maxRecDepth 100000 in
set_option maxHeartbeats 40000000 in
theorem plays_any (K : Int) (S : Sg) (h : SH) (r : Rec) (d : Value) (w : World) (k : SgAt w S h) (hb : Bs w d r.l) (hT : STabs w) (hR : Tabs w) (hF : Fits S) (hrl : r.l.length ≤ 1048576) (HAN0 : ∀ (h' : SH) (d' : Value) (w' : World), STabs w' → Tabs w' → SgAt w' S h' → Bs w' d' r.l → Calls prog 24 #[ov K S h' r.x r.nm d'] w' fun e w'' => e = .returned (.bool true) ∧ Below w'.heap.size w' w'') :
  Calls prog 14 #[ov K S h r.x r.nm d] w fun e w' => e = .returned (.bool true) ∧ Below w.heap.size w w' := by
 have HCL0 : ∀ w', Below w.heap.size w w' → Calls prog 20 #[sv S h] w' fun e w'' => ∃ h', e = .returned (sv S h') ∧ SgO w'.heap.size w'' S h' ∧ Below w'.heap.size w' w'' := fun w' hb' => (rxclone_any S h w' (k.kept hb') (by have := hF.inp; omega) (by have := hF.fail; omega) (fun x hx => by have := hF.outs x hx; omega) (fun x hx => by have := hF.und x hx; omega) (by have := hF.outsN; omega) (by have := hF.undN; omega)).mono fun e w'' ⟨h', e1, e2, e3⟩ => ⟨h', e1, own_o e2, e3⟩
 have HRC0 : ∀ w', Below w.heap.size w w' → Calls prog 21 #[rv r.x r.nm d] w' fun e w'' => ∃ d', e = .returned (rv r.x r.nm d') ∧ Own w'.heap.size w'' d' r.l ∧ Below w'.heap.size w' w'' := fun w' hb' => refclone_any r.x r.nm d r.l w' (hb.kept hb') (by omega)
 have HAN : Hid (∀ (h' : SH) (d' : Value) (w' : World), Below w.heap.size w w' → SgAt w' S h' → Bs w' d' r.l → Calls prog 24 #[ov K S h' r.x r.nm d'] w' fun e w'' => e = .returned (.bool true) ∧ Below w'.heap.size w' w'') := fun h' d' w' hb' k' q => HAN0 h' d' w' (hT.kept hb') (hR.kept hb') k' q
 have HLD : Hid (∀ (v : Value) (ls : List (List Nat)) (w' : World), Ps w' v ls → (∀ x ∈ ls, x.length ≤ 1048576) → ls.length ≤ 1048576 → Calls prog 22 #[v] w' fun e w'' => ∃ vm vw ms ds es, e = .returned (.tuple #[vm, vw]) ∧ Laid3 w'.heap.size w'' vm vw ms ds es ls ∧ es.length = 20 ∧ Below w'.heap.size w' w'') := fun v ls w' q1 q2 q3 => laidS_any v ls w' q1 q2 q3
 have HRM : Hid (∀ (v : Value) (l : List Nat) (w' : World), Bs w' v l → l.length ≤ 1048576 → Calls prog 23 #[v] w' fun e w'' => ∃ v', e = .returned v' ∧ Own w'.heap.size w'' v' (roomL l) ∧ Below w'.heap.size w' w'') := fun v l w' q1 q2 => roomy_any v l w' q1 q2
 have HFU : Hid (∀ (v : Value) (ls : List (List Nat)) (w' : World), Ps w' v ls → (∀ x ∈ ls, x.length ≤ 1048576) → ls.length ≤ 1048576 → Calls prog 26 #[v] w' fun e w'' => ∃ v', e = .returned v' ∧ Ps w'' v' (ls.map roomL) ∧ Below w'.heap.size w' w'') := fun v ls w' q1 q2 q3 => (full_any v ls w' q1 q2 (by omega)).mono fun e w'' ⟨a, c, e1, e2, e3⟩ => ⟨_, e1, e2.ps, e3⟩
 have HLS : Hid (∀ (v v2 : Value) (ls : List (List Nat)) (w' : World), Ps w' v ls → Ps w' v2 ls → Calls prog 17 #[v, v2] w' fun e w'' => e = .returned (.bool true) ∧ Below w'.heap.size w' w'') := fun v v2 ls w' q1 q2 => lists_yes v v2 ls w' q1 q2
 have HAL : Hid (∀ (v v2 : Value) (l : List Nat) (w' : World), Bs w' v l → Bs w' v2 l → Calls prog 16 #[v, v2] w' fun e w'' => e = .returned (.bool true) ∧ Below w'.heap.size w' w'') := fun v v2 l w' q1 q2 => by
  have e := ralike_any _ _ _ _ w' q1 q2
  rw [decide_eq_true rfl] at e
  exact e
 have HSM : Hid (∀ (h' h2 : SH) (w' : World), SgAt w' S h' → SgAt w' S h2 → Calls prog 12 #[sv S h', sv S h2] w' fun e w'' => e = .returned (.bool true) ∧ Below w'.heap.size w' w'') := fun h' h2 w' q1 q2 => same_any S h' h2 w' q1 q2
 have HRS : Hid (∀ (d' d2 : Value) (w' : World), Bs w' d' r.l → Bs w' d2 r.l → Calls prog 25 #[rv r.x r.nm d', rv r.x r.nm d2] w' fun e w'' => e = .returned (.bool true) ∧ Below w'.heap.size w' w'') := fun d' d2 w' q1 q2 => by
  have e := refsame_any r.x r.x r.nm r.nm d' d2 r.l r.l w' q1 q2
  rw [show recEq r.x r.x r.nm r.nm r.l r.l = true by simp [recEq]] at e
  exact e
 have HFI : Hid (Fits S) := hF
 have HON : Hid (S.outs.length ≤ 1048576 ∧ S.und.length ≤ 1048576 ∧ r.l.length ≤ 1048576) := ⟨hF.outsN, hF.undN, hrl⟩
 obtain ⟨Z, hZ⟩ : ∃ Z, Z = zcl := ⟨_, rfl⟩
 obtain ⟨ZR, hZR⟩ : ∃ ZR, ZR = zrl := ⟨_, rfl⟩
 have HZ : Hid (Z = zcl) := hZ
 have HZR : Hid (ZR = zrl) := hZR
 have HZL : Hid (Z.length = 16) := by show _ = _; rw [hZ]; rfl
 have HZRL : Hid (ZR.length = 12) := by show _ = _; rw [hZR]; rfl
 obtain ⟨D, hD, hL, hE⟩ := sv_letter S h
 obtain ⟨E, hD2, hL2, hE2⟩ := rv_letter r.x r.nm d
 have hov : ov K S h r.x r.nm d = .agg (.int .i64 K :: (D ++ E)).toArray := by unfold ov; rw [hE, hE2]
 rw [hov]
 have HL : Hid _ := hL
 have HL2 : Hid _ := hL2
 have hDl : D.length = 16 := by rw [hE]; rfl
 obtain ⟨L, hLL⟩ : ∃ L, (.int .i64 K :: (D ++ E) : List Value) = L := ⟨_, rfl⟩
 have HRD : Hid (∀ wx, LB wx w.heap.size 40 L → wx.rangeAt w.heap.size 1 D ∧ wx.rangeAt w.heap.size 17 E) := fun wx l => by
  rw [← hLL] at l
  exact ⟨mid_range l.range, end_range l.range hDl⟩
 have HLE : Hid (L = .int .i64 K :: (scl S h ++ rcE r.x r.nm d)) := by show _ = _; rw [← hLL, hE, hE2]
 rw [hLL]
 have HX : Hid (LB (w.alloc (.cells L.toArray 40)) w.heap.size 40 L ∧ Below w.heap.size w (w.alloc (.cells L.toArray 40))) := ⟨lb_new w L _, up0 _ _⟩
 rw [hD] at HCL0
 rw [hD2] at HRC0
 have HCL : Hid _ := HCL0
 have HRC : Hid _ := HRC0
 clear hov hLL hD hL hE hD2 hL2 hE2 HCL0 HRC0 HAN0 hZ hZR k hb hT hR hF hrl hDl
 go_enter func14, ntmps14
 go_wp2_with (first | (refine wpList_load_mid rfl 31 _ rfl w.heap.size 1 rfl D _ (HRD.out _ HX.out.1).1 underlying31 rfl HL.out ?_) | fail)
 refine (HCL.out _ HX.out.2).mono ?_
 rintro e w1 ⟨h1, rfl, o1, b1⟩
 obtain ⟨D1, hD1, hDL1, hDE1⟩ := sv_letter S h1
 rw [hD1]
 have HD1 : Hid (sv S h1 = .agg D1.toArray) := hD1
 have HDL1 : Hid _ := hDL1
 have HDE1 : Hid (D1 = scl S h1) := hDE1
 have HDO1 : Hid (∀ v ∈ D1, v.oneCell' = true) := by show ∀ v ∈ D1, _; rw [hDE1]; exact scl_one _ _
 have HDZ1 : Hid (D1.length = Z.length) := by show _ = _; rw [hDE1, HZL.out]; rfl
 have HT1 : Hid ((w1.alloc (.cells Z.toArray 31)).there w1.heap.size 0 D1.toArray.size) := there_of (lb_new w1 Z _) (by simpa using HDZ1.out)
 have E1 : Hid (∃ Y, Y = (w1.alloc (.cells Z.toArray 31)).setCells w1.heap.size 0 D1 ∧ LB Y w.heap.size 40 L ∧ LB Y w1.heap.size 31 D1 ∧ SgO (w.heap.size + 1) Y S h1 ∧ Below w.heap.size w Y ∧ w.heap.size < w1.heap.size) := by
  obtain ⟨q1, q2⟩ := one_boxR w1 31 Z D1 HDZ1.out
  exact ⟨_, rfl, (HX.out.1.kept b1).kept q2, q1, (o1.weak (by rw [heap_one]; exact Nat.le_refl _)).kept q2, andThen (andThen HX.out.2 b1) q2, (HX.out.1.kept b1).lt⟩
 clear hD1 hDL1 hDE1 o1 b1 HX HCL
 go_wp2_with (first | (refine wpList_alloc_Z HZ.out rfl rfl ?_) | (refine wpList_store_mid rfl 31 (.tmp 3) (.tmp 16) rfl w1.heap.size 0 D1.toArray rfl rfl HT1.out (by simpa using HDL1.out) (all_oneCell_toArray HDO1.out) ?_; (obtain ⟨Y1, hY1, hq⟩ := E1.out); (have H1 : Hid _ := hq); (rw [List.toList_toArray, ← hY1]); (clear hY1 hq E1 HT1)) | (refine wpList_load_mid rfl 28 _ rfl w.heap.size 17 rfl E _ (HRD.out _ H1.out.1).2 underlying28 rfl HL2.out ?_) | fail)
 generalize w1.heap.size = p3 at *
 refine (HRC.out _ H1.out.2.2.2.1).mono ?_
 rintro e w2 ⟨d1, rfl, o2, b2⟩
 obtain ⟨F1, hF1, hFL1, hFE1⟩ := rv_letter r.x r.nm d1
 rw [hF1]
 have HF1 : Hid (rv r.x r.nm d1 = .agg F1.toArray) := hF1
 have HFL1 : Hid _ := hFL1
 have HFE1 : Hid (F1 = rcE r.x r.nm d1) := hFE1
 have HFO1 : Hid (∀ v ∈ F1, v.oneCell' = true) := by
  obtain ⟨a, c, e9, _⟩ := o2.bs.shape
  show ∀ v ∈ F1, _
  rw [hFE1]
  exact rcE_one _ _ _ (by rw [e9]; rfl)
 have HFZ1 : Hid (F1.length = ZR.length) := by show _ = _; rw [hFE1, HZRL.out]; rfl
 have HT2 : Hid ((w2.alloc (.cells ZR.toArray 28)).there w2.heap.size 0 F1.toArray.size) := there_of (lb_new w2 ZR _) (by simpa using HFZ1.out)
 have E2 : Hid (∃ Y, Y = (w2.alloc (.cells ZR.toArray 28)).setCells w2.heap.size 0 F1 ∧ LB Y w.heap.size 40 L ∧ LB Y p3 31 D1 ∧ SgO (w.heap.size + 1) Y S h1 ∧ Below w.heap.size w Y ∧ w.heap.size < p3 ∧ LB Y w2.heap.size 28 F1 ∧ Own (w.heap.size + 1) Y d1 r.l ∧ w.heap.size < w2.heap.size) := by
  obtain ⟨q1, q2⟩ := one_boxR w2 28 ZR F1 HFZ1.out
  exact ⟨_, rfl, (H1.out.1.kept b2).kept q2, (H1.out.2.1.kept b2).kept q2, (H1.out.2.2.1.kept b2).kept q2, andThen (andThen H1.out.2.2.2.1 b2) q2, H1.out.2.2.2.2, q1, (own_weak o2 (Nat.succ_le_of_lt H1.out.1.lt)).kept q2, (H1.out.1.kept b2).lt⟩
 clear hF1 hFL1 hFE1 o2 b2 H1 HRC
 go_wp2_with (first | (refine wpList_alloc_R HZR.out rfl rfl ?_) | (refine wpList_store_mid rfl 28 (.tmp 4) (.tmp 19) rfl w2.heap.size 0 F1.toArray rfl rfl HT2.out (by simpa using HFL1.out) (all_oneCell_toArray HFO1.out) ?_; (obtain ⟨Y2, hY2, hq⟩ := E2.out); (have H2 : Hid _ := hq); (have c11 : Y2.cell? ⟨p3, 11, none⟩ = some (.slice h1.ao S.outs.length h1.co) := hq.2.1.cell 11 _ (by rw [HDE1.out]; rfl)); (rw [List.toList_toArray, ← hY2]); (clear hY2 hq E2 HT2)) | fail)
 generalize w2.heap.size = p4 at *
 refine (HLD.out _ S.outs _ H2.out.2.2.1.outs.ps HFI.out.outs HFI.out.outsN).mono ?_
 rintro e w3 ⟨vm1, vw1, ms1, ds1, es1, rfl, l1, ln1, b3⟩
 have H3 : Hid (LB w3 w.heap.size 40 L ∧ LB w3 p3 31 D1 ∧ SgO (w.heap.size + 1) w3 S h1 ∧ Below w.heap.size w w3 ∧ w.heap.size < p3 ∧ LB w3 p4 28 F1 ∧ Own (w.heap.size + 1) w3 d1 r.l ∧ w.heap.size < p4 ∧ (∃ ms ds es, Laid3 (w.heap.size + 1) w3 vm1 vw1 ms ds es S.outs ∧ es.length = 20)) := ⟨H2.out.1.kept b3, H2.out.2.1.kept b3, H2.out.2.2.1.kept b3, andThen H2.out.2.2.2.1 b3, H2.out.2.2.2.2.1, H2.out.2.2.2.2.2.1.kept b3, H2.out.2.2.2.2.2.2.1.kept b3, H2.out.2.2.2.2.2.2.2, ⟨ms1, ds1, es1, l1.weak (Nat.succ_le_of_lt H2.out.1.lt), ln1⟩⟩
 clear l1 ln1 b3 c11 H2
 have c12 : w3.cell? ⟨p3, 12, none⟩ = some (.slice h1.au S.und.length h1.cu) := H3.out.2.1.cell 12 _ (by rw [HDE1.out]; rfl)
 go_wp2_with fail
 refine (HLD.out _ S.und _ H3.out.2.2.1.und.ps HFI.out.und HFI.out.undN).mono ?_
 rintro e w4 ⟨vm2, vw2, ms2, ds2, es2, rfl, l2, ln2, b4⟩
 have H4 : Hid (LB w4 w.heap.size 40 L ∧ LB w4 p3 31 D1 ∧ SgO (w.heap.size + 1) w4 S h1 ∧ Below w.heap.size w w4 ∧ w.heap.size < p3 ∧ LB w4 p4 28 F1 ∧ Own (w.heap.size + 1) w4 d1 r.l ∧ w.heap.size < p4 ∧ (∃ ms ds es, Laid3 (w.heap.size + 1) w4 vm1 vw1 ms ds es S.outs ∧ es.length = 20) ∧ (∃ ms ds es, Laid3 (w.heap.size + 1) w4 vm2 vw2 ms ds es S.und ∧ es.length = 20)) := by
  obtain ⟨q1, q2, q3, q4, q5, q6, q7, q8, ms, ds, es, q9, q10⟩ := H3.out
  exact ⟨q1.kept b4, q2.kept b4, q3.kept b4, andThen q4 b4, q5, q6.kept b4, q7.kept b4, q8, ⟨ms, ds, es, q9.kept b4, q10⟩, ⟨ms2, ds2, es2, l2.weak (Nat.succ_le_of_lt q1.lt), ln2⟩⟩
 clear l2 ln2 b4 c12 H3
 have c6 : w4.cell? ⟨p3, 6, none⟩ = some (.slice h1.ai S.inp.length h1.ci) := H4.out.2.1.cell 6 _ (by rw [HDE1.out]; rfl)
 go_wp2_with fail
 refine (HRM.out _ S.inp _ H4.out.2.2.1.inp.bs HFI.out.inp).mono ?_
 rintro e w5 ⟨vi, rfl, o5, b5⟩
 have H5 : Hid (LB w5 w.heap.size 40 L ∧ LB w5 p3 31 D1 ∧ SgO (w.heap.size + 1) w5 S h1 ∧ Below w.heap.size w w5 ∧ w.heap.size < p3 ∧ LB w5 p4 28 F1 ∧ Own (w.heap.size + 1) w5 d1 r.l ∧ w.heap.size < p4 ∧ (∃ ms ds es, Laid3 (w.heap.size + 1) w5 vm1 vw1 ms ds es S.outs ∧ es.length = 20) ∧ (∃ ms ds es, Laid3 (w.heap.size + 1) w5 vm2 vw2 ms ds es S.und ∧ es.length = 20) ∧ Own (w.heap.size + 1) w5 vi (roomL S.inp)) := by
  obtain ⟨q1, q2, q3, q4, q5, q6, q7, q8, ⟨ms, ds, es, q9, q10⟩, ⟨ms3, ds3, es3, q11, q12⟩⟩ := H4.out
  exact ⟨q1.kept b5, q2.kept b5, q3.kept b5, andThen q4 b5, q5, q6.kept b5, q7.kept b5, q8, ⟨ms, ds, es, q9.kept b5, q10⟩, ⟨ms3, ds3, es3, q11.kept b5, q12⟩, own_weak o5 (Nat.succ_le_of_lt q1.lt)⟩
 clear o5 b5 c6 H4
 have c15 : w5.cell? ⟨p3, 15, none⟩ = some (.slice h1.af S.fail.length h1.cf) := H5.out.2.1.cell 15 _ (by rw [HDE1.out]; rfl)
 go_wp2_with fail
 refine (HRM.out _ S.fail _ H5.out.2.2.1.fail.bs HFI.out.fail).mono ?_
 rintro e w6 ⟨vf, rfl, o6, b6⟩
 obtain ⟨ad1, cd1, ed1, -⟩ := H5.out.2.2.2.2.2.2.1.bs.shape
 have HED : Hid (d1 = .slice ad1 r.l.length cd1) := ed1
 have H6 : Hid (LB w6 w.heap.size 40 L ∧ LB w6 p3 31 D1 ∧ SgO (w.heap.size + 1) w6 S h1 ∧ Below w.heap.size w w6 ∧ w.heap.size < p3 ∧ LB w6 p4 28 F1 ∧ Own (w.heap.size + 1) w6 d1 r.l ∧ w.heap.size < p4 ∧ (∃ ms ds es, Laid3 (w.heap.size + 1) w6 vm1 vw1 ms ds es S.outs ∧ es.length = 20) ∧ (∃ ms ds es, Laid3 (w.heap.size + 1) w6 vm2 vw2 ms ds es S.und ∧ es.length = 20) ∧ Own (w.heap.size + 1) w6 vi (roomL S.inp) ∧ Own (w.heap.size + 1) w6 vf (roomL S.fail)) := by
  obtain ⟨q1, q2, q3, q4, q5, q6, q7, q8, ⟨ms, ds, es, q9, q10⟩, ⟨ms3, ds3, es3, q11, q12⟩, q13⟩ := H5.out
  exact ⟨q1.kept b6, q2.kept b6, q3.kept b6, andThen q4 b6, q5, q6.kept b6, q7.kept b6, q8, ⟨ms, ds, es, q9.kept b6, q10⟩, ⟨ms3, ds3, es3, q11.kept b6, q12⟩, q13.kept b6, own_weak o6 (Nat.succ_le_of_lt q1.lt)⟩
 clear o6 b6 c15 H5 ed1
 have c4 : w6.cell? ⟨p4, 11, none⟩ = some (.slice ad1 r.l.length cd1) := H6.out.2.2.2.2.2.1.cell 11 _ (by rw [HFE1.out, HED.out]; rfl)
 go_wp2_with fail
 refine (HRM.out _ r.l _ (by have q := H6.out.2.2.2.2.2.2.1.bs; rw [HED.out] at q; exact q) HON.out.2.2).mono ?_
 rintro e w7 ⟨vd, rfl, o7, b7⟩
 have H7 : Hid (PSt w p3 p4 S h1 r d1 vm1 vw1 vm2 vw2 vi vf vd L w7) := by
  obtain ⟨q1, q2, q3, q4, q5, q6, q7, q8, ⟨ms, ds, es, q9, q10⟩, ⟨ms3, ds3, es3, q11, q12⟩, q13, q14⟩ := H6.out
  exact ⟨q1.kept b7, by rw [← HDE1.out]; exact q2.kept b7, by rw [← HFE1.out]; exact q6.kept b7, q3.kept b7, q7.kept b7, ⟨ms, ds, es, q9.kept b7, q10⟩, ⟨ms3, ds3, es3, q11.kept b7, q12⟩, q13.kept b7, q14.kept b7, own_weak o7 (Nat.succ_le_of_lt q1.lt), andThen q4 b7⟩
 have HPN : Hid (p3 ≠ w.heap.size ∧ p4 ≠ w.heap.size) := ⟨by have := H6.out.2.2.2.2.1; omega, by have := H6.out.2.2.2.2.2.2.2.1; omega⟩
 clear o7 b7 c4 H6
 obtain ⟨g1, c1, hv1, hc1a, hc1b⟩ : ∃ g, ∃ c : Nat, vm1 = .slice (some ⟨g, 0, none⟩) (S.outs.length + 20) c ∧ S.outs.length + 20 ≤ c ∧ c ≤ maxLen := by
  obtain ⟨ms, ds, es, q1, q2⟩ := H7.out.lo
  exact q1.shapeM q2
 obtain ⟨g2, c2, hv2, hc2a, hc2b⟩ : ∃ g, ∃ c : Nat, vm2 = .slice (some ⟨g, 0, none⟩) (S.und.length + 20) c ∧ S.und.length + 20 ≤ c ∧ c ≤ maxLen := by
  obtain ⟨ms, ds, es, q1, q2⟩ := H7.out.lu
  exact q1.shapeM q2
 obtain ⟨a3, n3, c3, hv3, hn3, hc3a, hc3b, -⟩ := own_cut H7.out.ri
 obtain ⟨a4, n4, c4, hv4, hn4, hc4a, hc4b, -⟩ := own_cut H7.out.rf
 obtain ⟨a5, n5, c5, hv5, hn5, hc5a, hc5b, -⟩ := own_cut H7.out.rd
 subst hv1 hv2 hv3 hv4 hv5
 unfold maxLen at hc1b hc2b hc3b hc4b hc5b
 have hoN := HON.out.1
 have huN := HON.out.2.1
 have s1 : w7.cell? ⟨p3, 11, none⟩ = some (.slice h1.ao S.outs.length h1.co) := H7.out.s.cell 11 _ rfl
 obtain ⟨old1, hold1⟩ : ∃ v, w7.cell? ⟨w.heap.size, 12, none⟩ = some v := ⟨_, H7.out.op.cell 12 _ (by rw [HLE.out]; rfl)⟩
 have fz1 : w7.frozen? ⟨w.heap.size, 12, none⟩ = false := H7.out.op.free 12
 obtain ⟨L1, hL1⟩ : ∃ X, L.set 12 (.slice (some ⟨g1, 0, none⟩) S.outs.length c1) = X := ⟨_, rfl⟩
 have HL1 : Hid (L1 = L.set 12 (.slice (some ⟨g1, 0, none⟩) S.outs.length c1)) := hL1.symm
 have HS1 : Hid (PSt w p3 p4 S h1 r d1 (.slice (some ⟨g1, 0, none⟩) (S.outs.length + 20) c1) vw1 (.slice (some ⟨g2, 0, none⟩) (S.und.length + 20) c2) vw2 (.slice a3 n3 c3) (.slice a4 n4 c4) (.slice a5 n5 c5) L1 (w7.setCell ⟨w.heap.size, 12, none⟩ (.slice (some ⟨g1, 0, none⟩) S.outs.length c1))) := by
  rw [HL1.out]
  exact H7.out.store HPN.out.1 HPN.out.2 12 _
 clear hL1
 go_upto_region 9 with fail
 generalize w7.setCell ⟨w.heap.size, 12, none⟩ (.slice (some ⟨g1, 0, none⟩) S.outs.length c1) = x1 at HS1 ⊢
 clear s1 hold1 fz1 H7
 have s2 : x1.cell? ⟨p3, 12, none⟩ = some (.slice h1.au S.und.length h1.cu) := HS1.out.s.cell 12 _ rfl
 obtain ⟨old2, hold2⟩ : ∃ v, x1.cell? ⟨w.heap.size, 13, none⟩ = some v := ⟨_, HS1.out.op.cell 13 _ (by rw [HL1.out, HLE.out]; rfl)⟩
 have fz2 : x1.frozen? ⟨w.heap.size, 13, none⟩ = false := HS1.out.op.free 13
 obtain ⟨L2, hL2⟩ : ∃ X, L1.set 13 (.slice (some ⟨g2, 0, none⟩) S.und.length c2) = X := ⟨_, rfl⟩
 have HL2s : Hid (L2 = L1.set 13 (.slice (some ⟨g2, 0, none⟩) S.und.length c2)) := hL2.symm
 have HS2 : Hid (PSt w p3 p4 S h1 r d1 (.slice (some ⟨g1, 0, none⟩) (S.outs.length + 20) c1) vw1 (.slice (some ⟨g2, 0, none⟩) (S.und.length + 20) c2) vw2 (.slice a3 n3 c3) (.slice a4 n4 c4) (.slice a5 n5 c5) L2 (x1.setCell ⟨w.heap.size, 13, none⟩ (.slice (some ⟨g2, 0, none⟩) S.und.length c2))) := by
  rw [HL2s.out]
  exact HS1.out.store HPN.out.1 HPN.out.2 13 _
 clear hL2
 go_upto_region 10 with fail
 generalize x1.setCell ⟨w.heap.size, 13, none⟩ (.slice (some ⟨g2, 0, none⟩) S.und.length c2) = x2 at HS2 ⊢
 clear s2 hold2 fz2 HS1
 have s3 : x2.cell? ⟨p3, 6, none⟩ = some (.slice h1.ai S.inp.length h1.ci) := HS2.out.s.cell 6 _ rfl
 obtain ⟨old3, hold3⟩ : ∃ v, x2.cell? ⟨w.heap.size, 7, none⟩ = some v := ⟨_, HS2.out.op.cell 7 _ (by rw [HL2s.out, HL1.out, HLE.out]; rfl)⟩
 have fz3 : x2.frozen? ⟨w.heap.size, 7, none⟩ = false := HS2.out.op.free 7
 obtain ⟨L3, hL3⟩ : ∃ X, L2.set 7 (.slice a3 S.inp.length c3) = X := ⟨_, rfl⟩
 have HL3 : Hid (L3 = L2.set 7 (.slice a3 S.inp.length c3)) := hL3.symm
 have HS3 : Hid (PSt w p3 p4 S h1 r d1 (.slice (some ⟨g1, 0, none⟩) (S.outs.length + 20) c1) vw1 (.slice (some ⟨g2, 0, none⟩) (S.und.length + 20) c2) vw2 (.slice a3 n3 c3) (.slice a4 n4 c4) (.slice a5 n5 c5) L3 (x2.setCell ⟨w.heap.size, 7, none⟩ (.slice a3 S.inp.length c3))) := by
  rw [HL3.out]
  exact HS2.out.store HPN.out.1 HPN.out.2 7 _
 clear hL3
 go_upto_region 11 with fail
 generalize x2.setCell ⟨w.heap.size, 7, none⟩ (.slice a3 S.inp.length c3) = x3 at HS3 ⊢
 clear s3 hold3 fz3 HS2
 have s4 : x3.cell? ⟨p3, 15, none⟩ = some (.slice h1.af S.fail.length h1.cf) := HS3.out.s.cell 15 _ rfl
 obtain ⟨old4, hold4⟩ : ∃ v, x3.cell? ⟨w.heap.size, 16, none⟩ = some v := ⟨_, HS3.out.op.cell 16 _ (by rw [HL3.out, HL2s.out, HL1.out, HLE.out]; rfl)⟩
 have fz4 : x3.frozen? ⟨w.heap.size, 16, none⟩ = false := HS3.out.op.free 16
 obtain ⟨L4, hL4⟩ : ∃ X, L3.set 16 (.slice a4 S.fail.length c4) = X := ⟨_, rfl⟩
 have HL4 : Hid (L4 = L3.set 16 (.slice a4 S.fail.length c4)) := hL4.symm
 have HS4 : Hid (PSt w p3 p4 S h1 r d1 (.slice (some ⟨g1, 0, none⟩) (S.outs.length + 20) c1) vw1 (.slice (some ⟨g2, 0, none⟩) (S.und.length + 20) c2) vw2 (.slice a3 n3 c3) (.slice a4 n4 c4) (.slice a5 n5 c5) L4 (x3.setCell ⟨w.heap.size, 16, none⟩ (.slice a4 S.fail.length c4))) := by
  rw [HL4.out]
  exact HS3.out.store HPN.out.1 HPN.out.2 16 _
 clear hL4
 go_upto_region 12 with fail
 generalize x3.setCell ⟨w.heap.size, 16, none⟩ (.slice a4 S.fail.length c4) = x4 at HS4 ⊢
 clear s4 hold4 fz4 HS3
 have s5 : x4.cell? ⟨p4, 11, none⟩ = some (.slice ad1 r.l.length cd1) := by have q := HS4.out.rr.cell 11 d1 rfl; rw [HED.out] at q; exact q
 obtain ⟨old5, hold5⟩ : ∃ v, x4.cell? ⟨w.heap.size, 28, none⟩ = some v := ⟨_, HS4.out.op.cell 28 _ (by rw [HL4.out, HL3.out, HL2s.out, HL1.out, HLE.out]; rfl)⟩
 have fz5 : x4.frozen? ⟨w.heap.size, 28, none⟩ = false := HS4.out.op.free 28
 obtain ⟨L5, hL5⟩ : ∃ X, L4.set 28 (.slice a5 r.l.length c5) = X := ⟨_, rfl⟩
 have HL5 : Hid (L5 = L4.set 28 (.slice a5 r.l.length c5)) := hL5.symm
 have HS5 : Hid (PSt w p3 p4 S h1 r d1 (.slice (some ⟨g1, 0, none⟩) (S.outs.length + 20) c1) vw1 (.slice (some ⟨g2, 0, none⟩) (S.und.length + 20) c2) vw2 (.slice a3 n3 c3) (.slice a4 n4 c4) (.slice a5 n5 c5) L5 (x4.setCell ⟨w.heap.size, 28, none⟩ (.slice a5 r.l.length c5))) := by
  rw [HL5.out]
  exact HS4.out.store HPN.out.1 HPN.out.2 28 _
 clear hL5
 go_upto_region 13 with fail
 generalize x4.setCell ⟨w.heap.size, 28, none⟩ (.slice a5 r.l.length c5) = x5 at HS5 ⊢
 clear s5 hold5 fz5 HS4
 have HLF : Hid (L5 = .int .i64 K :: (scl S ⟨a3, c3, some ⟨g1, 0, none⟩, c1, some ⟨g2, 0, none⟩, c2, a4, c4⟩ ++ rcE r.x r.nm (.slice a5 r.l.length c5))) := by
  show _ = _
  rw [HL5.out, HL4.out, HL3.out, HL2s.out, HL1.out, HLE.out]
  rfl
 clear HL1 HL2s HL3 HL4 HL5 HLE HRD HL HL2 hc1b hc2b hc3b hc4b hc5b
 have HSA : Hid (∀ wx, PSt w p3 p4 S h1 r d1 (.slice (some ⟨g1, 0, none⟩) (S.outs.length + 20) c1) vw1 (.slice (some ⟨g2, 0, none⟩) (S.und.length + 20) c2) vw2 (.slice a3 n3 c3) (.slice a4 n4 c4) (.slice a5 n5 c5) L5 wx → SgAt wx S ⟨a3, c3, some ⟨g1, 0, none⟩, c1, some ⟨g2, 0, none⟩, c2, a4, c4⟩ ∧ Bs wx (.slice a5 r.l.length c5) r.l) := fun wx q => by
  obtain ⟨ms, ds, es, q1, q2⟩ := q.lo
  obtain ⟨ms2, ds2, es2, q3, q4⟩ := q.lu
  exact ⟨⟨cut_bs q.ri, q1.prefix q2 (by unfold maxLen; have := HON.out.1; omega), q3.prefix q4 (by unfold maxLen; have := HON.out.2.1; omega), cut_bs q.rf⟩, cut_bs q.rd⟩
 obtain ⟨h2, hh2⟩ : ∃ h2 : SH, (⟨a3, c3, some ⟨g1, 0, none⟩, c1, some ⟨g2, 0, none⟩, c2, a4, c4⟩ : SH) = h2 := ⟨_, rfl⟩
 rw [hh2] at HLF HSA
 obtain ⟨d2, hd2⟩ : ∃ d2 : Value, Value.slice a5 r.l.length c5 = d2 := ⟨_, rfl⟩
 rw [hd2] at HLF HSA
 have hd2o : d2.oneCell' = true := by rw [← hd2]; rfl
 clear hh2 hd2
 obtain ⟨D2, hD2, hDL2, hDE2⟩ := sv_letter S h2
 obtain ⟨F2, hF2, hFL2, hFE2⟩ := rv_letter r.x r.nm d2
 have HDL2 : Hid _ := hDL2
 have HFL2 : Hid _ := hFL2
 have HL5I : Hid ((prog.info? 40).map (·.size) = some L5.length) := by show _ = _; rw [HLF.out]; kernel_rfl
 have hov2 : ov K S h2 r.x r.nm d2 = .agg L5.toArray := by rw [HLF.out]; rfl
 have HAN2 : Hid (∀ wx, PSt w p3 p4 S h1 r d1 (.slice (some ⟨g1, 0, none⟩) (S.outs.length + 20) c1) vw1 (.slice (some ⟨g2, 0, none⟩) (S.und.length + 20) c2) vw2 (.slice a3 n3 c3) (.slice a4 n4 c4) (.slice a5 n5 c5) L5 wx → Calls prog 24 #[.agg L5.toArray] wx fun e w'' => e = .returned (.bool true) ∧ Below wx.heap.size wx w'') := fun wx q => by
  have e := HAN.out h2 d2 wx q.bel (HSA.out wx q).1 (HSA.out wx q).2
  rw [hov2] at e
  exact e
 have HSM2 : Hid (∀ wx, PSt w p3 p4 S h1 r d1 (.slice (some ⟨g1, 0, none⟩) (S.outs.length + 20) c1) vw1 (.slice (some ⟨g2, 0, none⟩) (S.und.length + 20) c2) vw2 (.slice a3 n3 c3) (.slice a4 n4 c4) (.slice a5 n5 c5) L5 wx → Calls prog 12 #[.agg D1.toArray, .agg D2.toArray] wx fun e w'' => e = .returned (.bool true) ∧ Below wx.heap.size wx w'') := fun wx q => by
  have e := HSM.out h1 h2 wx q.so.at (HSA.out wx q).1
  rw [HD1.out, hD2] at e
  exact e
 have HRS2 : Hid (∀ wx, PSt w p3 p4 S h1 r d1 (.slice (some ⟨g1, 0, none⟩) (S.outs.length + 20) c1) vw1 (.slice (some ⟨g2, 0, none⟩) (S.und.length + 20) c2) vw2 (.slice a3 n3 c3) (.slice a4 n4 c4) (.slice a5 n5 c5) L5 wx → Calls prog 25 #[.agg F1.toArray, .agg F2.toArray] wx fun e w'' => e = .returned (.bool true) ∧ Below wx.heap.size wx w'') := fun wx q => by
  have e := HRS.out d1 d2 wx q.ro.bs (HSA.out wx q).2
  rw [HF1.out, hF2] at e
  exact e
 have HRN : Hid (∀ wx, PSt w p3 p4 S h1 r d1 (.slice (some ⟨g1, 0, none⟩) (S.outs.length + 20) c1) vw1 (.slice (some ⟨g2, 0, none⟩) (S.und.length + 20) c2) vw2 (.slice a3 n3 c3) (.slice a4 n4 c4) (.slice a5 n5 c5) L5 wx → wx.rangeAt w.heap.size 0 L5 ∧ wx.rangeAt p3 0 D1 ∧ wx.rangeAt p4 0 F1 ∧ wx.rangeAt w.heap.size 1 D2 ∧ wx.rangeAt w.heap.size 17 F2) := fun wx q => by
  have l := q.op
  rw [HLF.out, ← hDE2, ← hFE2] at l
  exact ⟨q.op.range, by rw [HDE1.out]; exact q.s.range, by rw [HFE1.out]; exact q.rr.range, mid_range l.range, end_range l.range (by rw [hDE2]; rfl)⟩
 clear hD2 hDL2 hDE2 hF2 hFL2 hFE2 hov2 HLF HAN HSM HRS HSA
 go_wp2_with (first | (refine zqS40 w.heap.size L5 (HRN.out _ HS5.out).1 HL5I.out ?_) | fail)
 refine (HAN2.out _ HS5.out).mono ?_
 rintro e y1 ⟨rfl, b1⟩
 have H8 : Hid (PSt w p3 p4 S h1 r d1 (.slice (some ⟨g1, 0, none⟩) (S.outs.length + 20) c1) vw1 (.slice (some ⟨g2, 0, none⟩) (S.und.length + 20) c2) vw2 (.slice a3 n3 c3) (.slice a4 n4 c4) (.slice a5 n5 c5) L5 y1) := HS5.out.kept b1
 clear b1 HS5 HAN2
 go_wp2_with (first | (refine zqG31 p3 D1 (HRN.out _ H8.out).2.1 HDL1.out ?_) | (refine wpList_load_midG rfl 31 _ rfl w.heap.size 1 rfl D2 _ (HRN.out _ H8.out).2.2.2.1 underlying31 rfl HDL2.out ?_) | fail)
 refine (HSM2.out _ H8.out).mono ?_
 rintro e y2 ⟨rfl, b2⟩
 have H9 : Hid (PSt w p3 p4 S h1 r d1 (.slice (some ⟨g1, 0, none⟩) (S.outs.length + 20) c1) vw1 (.slice (some ⟨g2, 0, none⟩) (S.und.length + 20) c2) vw2 (.slice a3 n3 c3) (.slice a4 n4 c4) (.slice a5 n5 c5) L5 y2) := H8.out.kept b2
 clear b2 H8 HSM2
 go_wp2_with (first | (refine wpList_load_midG rfl 28 _ rfl p4 0 rfl F1 _ (HRN.out _ H9.out).2.2.1 underlying28 rfl HFL1.out ?_) | (refine wpList_load_midG rfl 28 _ rfl w.heap.size 17 rfl F2 _ (HRN.out _ H9.out).2.2.2.2 underlying28 rfl HFL2.out ?_) | fail)
 refine (HRS2.out _ H9.out).mono ?_
 rintro e y3 ⟨rfl, b3⟩
 have HA : Hid (PSt w p3 p4 S h1 r d1 (.slice (some ⟨g1, 0, none⟩) (S.outs.length + 20) c1) vw1 (.slice (some ⟨g2, 0, none⟩) (S.und.length + 20) c2) vw2 (.slice a3 n3 c3) (.slice a4 n4 c4) (.slice a5 n5 c5) L5 y3) := H9.out.kept b3
 clear b3 H9 HRS2
 have c11 : y3.cell? ⟨p3, 11, none⟩ = some (.slice h1.ao S.outs.length h1.co) := HA.out.s.cell 11 _ rfl
 go_wp2_with fail
 refine (HFU.out _ S.outs _ HA.out.so.outs.ps HFI.out.outs HFI.out.outsN).mono ?_
 rintro e y4 ⟨v4, rfl, p4s, b4⟩
 have HB : Hid (PSt w p3 p4 S h1 r d1 (.slice (some ⟨g1, 0, none⟩) (S.outs.length + 20) c1) vw1 (.slice (some ⟨g2, 0, none⟩) (S.und.length + 20) c2) vw2 (.slice a3 n3 c3) (.slice a4 n4 c4) (.slice a5 n5 c5) L5 y4 ∧ Ps y4 v4 (S.outs.map roomL)) := ⟨HA.out.kept b4, p4s⟩
 clear b4 p4s HA c11
 go_wp2_with fail
 refine (HLS.out _ _ (S.outs.map roomL) _ (by obtain ⟨ms, ds, es, q1, q2⟩ := HB.out.1.lo; exact q1.arr) HB.out.2).mono ?_
 rintro e y5 ⟨rfl, b5⟩
 have HC : Hid (PSt w p3 p4 S h1 r d1 (.slice (some ⟨g1, 0, none⟩) (S.outs.length + 20) c1) vw1 (.slice (some ⟨g2, 0, none⟩) (S.und.length + 20) c2) vw2 (.slice a3 n3 c3) (.slice a4 n4 c4) (.slice a5 n5 c5) L5 y5) := HB.out.1.kept b5
 clear b5 HB
 have c12 : y5.cell? ⟨p3, 12, none⟩ = some (.slice h1.au S.und.length h1.cu) := HC.out.s.cell 12 _ rfl
 go_wp2_with fail
 refine (HFU.out _ S.und _ HC.out.so.und.ps HFI.out.und HFI.out.undN).mono ?_
 rintro e y6 ⟨v6, rfl, p6s, b6⟩
 have HB : Hid (PSt w p3 p4 S h1 r d1 (.slice (some ⟨g1, 0, none⟩) (S.outs.length + 20) c1) vw1 (.slice (some ⟨g2, 0, none⟩) (S.und.length + 20) c2) vw2 (.slice a3 n3 c3) (.slice a4 n4 c4) (.slice a5 n5 c5) L5 y6 ∧ Ps y6 v6 (S.und.map roomL)) := ⟨HC.out.kept b6, p6s⟩
 clear b6 p6s HC c12
 go_wp2_with fail
 refine (HLS.out _ _ (S.und.map roomL) _ (by obtain ⟨ms, ds, es, q1, q2⟩ := HB.out.1.lu; exact q1.arr) HB.out.2).mono ?_
 rintro e y7 ⟨rfl, b7⟩
 have HC : Hid (PSt w p3 p4 S h1 r d1 (.slice (some ⟨g1, 0, none⟩) (S.outs.length + 20) c1) vw1 (.slice (some ⟨g2, 0, none⟩) (S.und.length + 20) c2) vw2 (.slice a3 n3 c3) (.slice a4 n4 c4) (.slice a5 n5 c5) L5 y7) := HB.out.1.kept b7
 clear b7 HB HLS HFU
 go_wp2
 go_loopw [13] (fun i wq => ∃ q : Nat, q ≤ 20 ∧ i = .int .i64 (q : Int) ∧ PSt w p3 p4 S h1 r d1 (.slice (some ⟨g1, 0, none⟩) (S.outs.length + 20) c1) vw1 (.slice (some ⟨g2, 0, none⟩) (S.und.length + 20) c2) vw2 (.slice a3 n3 c3) (.slice a4 n4 c4) (.slice a5 n5 c5) L5 wq) (fun i _ => 20 - (intOf i).toNat)
 case atStart => exact ⟨0, Nat.zero_le _, rfl, HC.out⟩
 case round =>
  obtain ⟨q, hq, rfl, hst⟩ := hrel
  clear HC
  have HC : Hid (PSt w p3 p4 S h1 r d1 (.slice (some ⟨g1, 0, none⟩) (S.outs.length + 20) c1) vw1 (.slice (some ⟨g2, 0, none⟩) (S.und.length + 20) c2) vw2 (.slice a3 n3 c3) (.slice a4 n4 c4) (.slice a5 n5 c5) L5 wr) := hst
  clear hst
  by_cases hlt : q < 20
  ·have c11 : wr.cell? ⟨p3, 11, none⟩ = some (.slice h1.ao S.outs.length h1.co) := HC.out.s.cell 11 _ rfl
   obtain ⟨e1, x1, bs1⟩ : ∃ e1, wr.cell? ⟨g1, S.outs.length + q, none⟩ = some e1 ∧ Bs wr e1 [206] := by
    obtain ⟨ms, ds, es, q1, q2⟩ := HC.out.lo
    exact q1.behind q2 q hlt
   obtain ⟨ae, ce, rfl, -⟩ := bs1.shape
   have HE1 : Hid (Bs wr (.slice ae [206].length ce) [206]) := bs1
   clear bs1
   have hon : Hid (∀ wx : World, Bs (wx.alloc (.cells #[.int .u8 206] 5)) (.slice (some ⟨wx.heap.size, 0, none⟩) 1 1) [206]) := fun wx => Bs.one wx 206 (by decide) 206 rfl
   go_wp2_with fail
   refine (HAL.out _ _ [206] _ (HE1.out.kept (up0 _ _)) (hon.out wr)).mono ?_
   rintro e y1 ⟨rfl, b1⟩
   have HC1 : Hid (PSt w p3 p4 S h1 r d1 (.slice (some ⟨g1, 0, none⟩) (S.outs.length + 20) c1) vw1 (.slice (some ⟨g2, 0, none⟩) (S.und.length + 20) c2) vw2 (.slice a3 n3 c3) (.slice a4 n4 c4) (.slice a5 n5 c5) L5 y1) := HC.out.kept (andThen (up0 _ _) b1)
   clear b1 HC HE1 c11 x1
   have c12 : y1.cell? ⟨p3, 12, none⟩ = some (.slice h1.au S.und.length h1.cu) := HC1.out.s.cell 12 _ rfl
   obtain ⟨e2, x2, bs2⟩ : ∃ e2, y1.cell? ⟨g2, S.und.length + q, none⟩ = some e2 ∧ Bs y1 e2 [206] := by
    obtain ⟨ms, ds, es, q1, q2⟩ := HC1.out.lu
    exact q1.behind q2 q hlt
   obtain ⟨ae2, ce2, rfl, -⟩ := bs2.shape
   have HE2 : Hid (Bs y1 (.slice ae2 [206].length ce2) [206]) := bs2
   clear bs2
   go_wp2_with fail
   refine (HAL.out _ _ [206] _ (HE2.out.kept (up0 _ _)) (hon.out y1)).mono ?_
   rintro e y2 ⟨rfl, b2⟩
   have HC2 : Hid (PSt w p3 p4 S h1 r d1 (.slice (some ⟨g1, 0, none⟩) (S.outs.length + 20) c1) vw1 (.slice (some ⟨g2, 0, none⟩) (S.und.length + 20) c2) vw2 (.slice a3 n3 c3) (.slice a4 n4 c4) (.slice a5 n5 c5) L5 y2) := HC1.out.kept (andThen (up0 _ _) b2)
   clear b2 HC1 HE2 c12 x2
   go_wp2
   go_roundw
   case rel => exact ⟨q + 1, by omega, by go_num, HC2.out⟩
   case measure => simp [intOf]; omega
  ·obtain rfl : q = 20 := by omega
   rw [show ((20 : Nat) : Int) = 20 from rfl]
   have HRMi : Hid _ := HRM.out
   have c6 : wr.cell? ⟨p3, 6, none⟩ = some (.slice h1.ai S.inp.length h1.ci) := HC.out.s.cell 6 _ rfl
   go_wp2_with fail
   refine (HRM.out _ S.inp _ HC.out.so.inp.bs HFI.out.inp).mono ?_
   rintro e y1 ⟨v1, rfl, o1, b1⟩
   have HC1 : Hid (PSt w p3 p4 S h1 r d1 (.slice (some ⟨g1, 0, none⟩) (S.outs.length + 20) c1) vw1 (.slice (some ⟨g2, 0, none⟩) (S.und.length + 20) c2) vw2 (.slice a3 n3 c3) (.slice a4 n4 c4) (.slice a5 n5 c5) L5 y1 ∧ Bs y1 v1 (roomL S.inp)) := ⟨HC.out.kept b1, o1.bs⟩
   clear o1 b1 HC c6
   go_wp2_with fail
   refine (HAL.out _ _ (roomL S.inp) _ HC1.out.1.ri.bs HC1.out.2).mono ?_
   rintro e y2 ⟨rfl, b2⟩
   have HC : Hid (PSt w p3 p4 S h1 r d1 (.slice (some ⟨g1, 0, none⟩) (S.outs.length + 20) c1) vw1 (.slice (some ⟨g2, 0, none⟩) (S.und.length + 20) c2) vw2 (.slice a3 n3 c3) (.slice a4 n4 c4) (.slice a5 n5 c5) L5 y2) := HC1.out.1.kept b2
   clear b2 HC1
   have c15 : y2.cell? ⟨p3, 15, none⟩ = some (.slice h1.af S.fail.length h1.cf) := HC.out.s.cell 15 _ rfl
   go_wp2_with fail
   refine (HRM.out _ S.fail _ HC.out.so.fail.bs HFI.out.fail).mono ?_
   rintro e y3 ⟨v3, rfl, o3, b3⟩
   have HC1 : Hid (PSt w p3 p4 S h1 r d1 (.slice (some ⟨g1, 0, none⟩) (S.outs.length + 20) c1) vw1 (.slice (some ⟨g2, 0, none⟩) (S.und.length + 20) c2) vw2 (.slice a3 n3 c3) (.slice a4 n4 c4) (.slice a5 n5 c5) L5 y3 ∧ Bs y3 v3 (roomL S.fail)) := ⟨HC.out.kept b3, o3.bs⟩
   clear o3 b3 HC c15
   go_wp2_with fail
   refine (HAL.out _ _ (roomL S.fail) _ HC1.out.1.rf.bs HC1.out.2).mono ?_
   rintro e y4 ⟨rfl, b4⟩
   have HC : Hid (PSt w p3 p4 S h1 r d1 (.slice (some ⟨g1, 0, none⟩) (S.outs.length + 20) c1) vw1 (.slice (some ⟨g2, 0, none⟩) (S.und.length + 20) c2) vw2 (.slice a3 n3 c3) (.slice a4 n4 c4) (.slice a5 n5 c5) L5 y4) := HC1.out.1.kept b4
   clear b4 HC1
   have c4x : y4.cell? ⟨p4, 11, none⟩ = some (.slice ad1 r.l.length cd1) := by have q := HC.out.rr.cell 11 d1 rfl; rw [HED.out] at q; exact q
   go_wp2_with fail
   refine (HRM.out _ r.l _ (by have q := HC.out.ro.bs; rw [HED.out] at q; exact q) HON.out.2.2).mono ?_
   rintro e y5 ⟨v5, rfl, o5, b5⟩
   have HC1 : Hid (PSt w p3 p4 S h1 r d1 (.slice (some ⟨g1, 0, none⟩) (S.outs.length + 20) c1) vw1 (.slice (some ⟨g2, 0, none⟩) (S.und.length + 20) c2) vw2 (.slice a3 n3 c3) (.slice a4 n4 c4) (.slice a5 n5 c5) L5 y5 ∧ Bs y5 v5 (roomL r.l)) := ⟨HC.out.kept b5, o5.bs⟩
   clear o5 b5 HC c4x
   go_wp2_with fail
   refine (HAL.out _ _ (roomL r.l) _ HC1.out.1.rd.bs HC1.out.2).mono ?_
   rintro e y6 ⟨rfl, b6⟩
   have HC : Hid (Below w.heap.size w y6) := andThen HC1.out.1.bel b6
   clear b6 HC1
   go_wp2_with fail
   go_ret
   exact ⟨rfl, HC.out⟩
end Go.Proofs.YtgmkjcfdpiinpaaGreatDoor
