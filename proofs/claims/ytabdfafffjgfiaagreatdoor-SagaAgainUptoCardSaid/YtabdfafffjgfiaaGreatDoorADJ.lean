import Derived.Test.YtabdfafffjgfiaaGreatDoorADH
set_option maxRecDepth 100000
set_option maxHeartbeats 4000000
namespace Go.Proofs.YtabdfafffjgfiaaGreatDoor
open Go Go.RowKit
open Wb

theorem rxlists_any (v : Value) (ls : List (List Nat)) (w : World) (h : Ps w v ls) (hall : ∀ x ∈ ls, x.length ≤ 16777216) (hnl : ls.length ≤ 100000000) :
  Calls Tryz.prog 51 #[v] w fun e w' => ∃ a, ∃ c : Nat, e = .returned (.slice a ls.length c) ∧ OwnP w.heap.size w' (.slice a ls.length c) ls ∧ Below w.heap.size w w' := by
 have hin := info22
 obtain ⟨ao, cap, rfl, hmx, hc⟩ := h.shape
 unfold maxLen at hmx
 clear h
 go_enter Tryz.func51, Tryz.ntmps51
 go_wp2
 go_loopw [3, 4] (fun o i wr => ∃ k : Nat, k ≤ ls.length ∧ i = .int .i64 (k : Int) ∧ OwnP w.heap.size wr o (ls.take k) ∧ Below w.heap.size w wr) (fun _ i _ => ls.length - (intOf i).toNat)
 case atStart => exact ⟨0, Nat.zero_le _, rfl, ⟨[], Row.nil _ _, rfl, fun j h => absurd h (Nat.not_lt_zero _)⟩, Below.refl _ _⟩
 case round =>
  obtain ⟨k, hk, rfl, hown, hbel⟩ := hrel
  by_cases hlt : k < ls.length
  ·obtain ⟨b, off, rfl, hcell⟩ := hc (List.ne_nil_of_length_pos (by omega))
   obtain ⟨vk, hck, hbk⟩ := hcell k hlt
   have H1 : Hid (∀ w', Below w.heap.size w w' → Bs w' vk ls[k]) := fun w' hb => hbk.kept hb
   have q1 : wr.cell? ⟨b, off + k, none⟩ = some vk := (hbel.cell (p := ⟨b, off + k, none⟩) (World.block_lt_of_cell? _ _ hck)).trans hck
   obtain ⟨aok, capk, rfl, hlk, hmk, hx1, hx2⟩ := hbk.shape
   have hkl : ls[k].length ≤ 16777216 := hall _ (List.getElem_mem hlt)
   have HS : Hid (ls.take (k + 1) = ls.take k ++ [ls[k]]) := List.take_succ_eq_append_getElem hlt
   have hdl : (ls.take k).length = k := by simp; omega
   obtain ⟨vs, hrow, hvl, hel⟩ := hown
   have hvs : vs.length ≤ 5000000000 := by omega
   have HVL : Hid (vs.length = (ls.take k).length) := hvl
   have HR : Hid (Row w.heap.size wr u3 vs ∧ (∀ j (h : j < vs.length) (h2 : j < (ls.take k).length), Own w.heap.size wr vs[j] (ls.take k)[j]) ∧ Below w.heap.size w wr) := ⟨hrow, hel, hbel⟩
   clear hx1 hx2 hc hcell hbk hck hel hrow hbel hvl
   generalize ls[k] = x at *
   generalize ls.take k = done at *
   go_wp2_with fail
   refine (rxbytes_any _ x _ (H1.out _ HR.out.2.2) (Nat.le_trans hkl (by decide))).mono ?_
   rintro e w2 ⟨ao2, cap2, rfl, ho2, b2⟩
   have HRA : Hid (∀ o, Row w.heap.size (w2.alloc o) u3 vs) := fun o => HR.out.1.kept (up b2 _)
   have HC2 : Hid (∀ t, (w2.alloc (.cells #[.slice ao2 x.length cap2] t)).cell? ⟨w2.heap.size, 0, none⟩ = some (.slice ao2 x.length cap2)) := fun t => World.cell?_alloc_new w2 _ _ 0
   have hs2 : w.heap.size ≤ w2.heap.size := (andThen HR.out.2.2 b2).size
   have HB2 : Hid (Own w.heap.size w2 (.slice ao2 x.length cap2) x ∧ Below wr.heap.size wr w2) := ⟨own_weak ho2 HR.out.2.2.size, b2⟩
   clear ho2 b2
   go_wp2_with (at_builtin; refine wpList_push _ rfl (.tmp 17) (.tmp 19) 23 rfl w.heap.size hin Tryz.underlying23 _ vs rfl (HRA.out _) w2.heap.size (.slice ao2 x.length cap2) rfl (HC2.out _) rfl hvs (by simp; omega) ?_)
   intro v3 w3 hr3 b3 hg3
   have R : Hid (OwnP w.heap.size w3 v3 (ls.take (k + 1)) ∧ Below w.heap.size w w3) := by
    rw [HS.out]
    exact ⟨OwnP.push (HR.out.1.kept (up HB2.out.2 _)) HVL.out (fun j a b => (HR.out.2.1 j a b).kept (up HB2.out.2 _)) (HB2.out.1.kept (up0 _ _)) hr3 hg3, (up (andThen HR.out.2.2 HB2.out.2) _).trans b3⟩
   clear hr3 b3 hg3 HR H1 q1 HS HRA HC2 HB2
   go_wp2
   go_roundw
   case rel => exact ⟨k + 1, by omega, by go_num, R.out.1, R.out.2⟩
   case measure => simp [intOf]; omega
  ·rw [List.take_of_length_le (by omega)] at hown
   obtain ⟨a, c, e9⟩ := hown.shape
   obtain rfl : k = ls.length := by omega
   subst e9
   have HO : Hid (OwnP w.heap.size wr (.slice a ls.length c) ls ∧ Below w.heap.size w wr) := ⟨hown, hbel⟩
   clear hown hbel hc
   go_wp2
   go_ret
   exact ⟨a, c, rfl, HO.out.1, HO.out.2⟩
theorem rxclone_any (S : Sg) (h : SH) (w : World) (k : SgAt w S h) (hi : S.inp.length ≤ 16777216) (hf : S.fail.length ≤ 16777216) (ho : ∀ x ∈ S.outs, x.length ≤ 16777216) (hu : ∀ x ∈ S.und, x.length ≤ 16777216) (hol : S.outs.length ≤ 100000000) (hul : S.und.length ≤ 100000000) :
  Calls Tryz.prog 24 #[sv S h] w fun e w' => ∃ h', e = .returned (sv S h') ∧ SgOwn w.heap.size w' S h' ∧ Below w.heap.size w w' := by
 have HK : Hid (∀ w', Below w.heap.size w w' → SgAt w' S h) := fun w' hb => k.kept hb
 have HBY : Hid (∀ (v : Value) (l : List Nat) (w' : World), Bs w' v l → l.length ≤ 16777216 → Calls Tryz.prog 50 #[v] w' fun e w'' => ∃ a, ∃ c : Nat, e = .returned (.slice a l.length c) ∧ Own w'.heap.size w'' (.slice a l.length c) l ∧ Below w'.heap.size w' w'') := fun v l w' h1 h2 => rxbytes_any v l w' h1 (by omega)
 have HLO : Hid (∀ w', Below w.heap.size w w' → Calls Tryz.prog 51 #[.slice h.ao S.outs.length h.co] w' fun e w'' => ∃ a, ∃ c : Nat, e = .returned (.slice a S.outs.length c) ∧ OwnP w'.heap.size w'' (.slice a S.outs.length c) S.outs ∧ Below w'.heap.size w' w'') := fun w' hb => rxlists_any _ S.outs w' (k.kept hb).outs ho hol
 have HLU : Hid (∀ w', Below w.heap.size w w' → Calls Tryz.prog 51 #[.slice h.au S.und.length h.cu] w' fun e w'' => ∃ a, ∃ c : Nat, e = .returned (.slice a S.und.length c) ∧ OwnP w'.heap.size w'' (.slice a S.und.length c) S.und ∧ Below w'.heap.size w' w'') := fun w' hb => rxlists_any _ S.und w' (k.kept hb).und hu hul
 clear k ho hu hol hul
 obtain ⟨Z, hZ⟩ : ∃ Z, Z = zcl := ⟨_, rfl⟩
 have HZ : Hid (Z = zcl) := hZ
 have HZL : Hid (Z.length = 16) := by show _ = _; rw [hZ]; rfl
 obtain ⟨D, hD, hL, hE⟩ := sv_letter S h
 rw [hD]
 have HE : Hid (D = scl S h) := hE
 have HX : Hid (LB ((w.alloc (.cells D.toArray 25)).alloc (.cells Z.toArray 25)) w.heap.size 25 D ∧ LB ((w.alloc (.cells D.toArray 25)).alloc (.cells Z.toArray 25)) (w.heap.size + 1) 25 Z ∧ Below w.heap.size w ((w.alloc (.cells D.toArray 25)).alloc (.cells Z.toArray 25))) := lb_new2 w D Z _ _
 clear hD hL hE hZ
 go_enter Tryz.func24, Tryz.ntmps24
 go_wp2_with (first | (refine wpList_alloc_Z HZ.out rfl rfl ?_; (try simp only [heap_one]); (obtain ⟨W1, hW1⟩ : ∃ W1, (w.alloc (.cells D.toArray 25)).alloc (.cells Z.toArray 25) = W1 := ⟨_, rfl⟩); (rw [hW1] at HX ⊢); (clear hW1); (have c6 := HX.out.1.cell 6 (.slice h.ai S.inp.length h.ci) (by rw [HE.out]; rfl))) | fail)
 refine (HBY.out _ _ _ (HK.out _ HX.out.2.2).inp hi).mono ?_
 rintro e w1 ⟨a1, c1, rfl, o1, b1⟩
 have H1 : Hid (LB w1 w.heap.size 25 D ∧ LB w1 (w.heap.size + 1) 25 Z ∧ Below w.heap.size w w1 ∧ Own (w.heap.size + 2) w1 (.slice a1 S.inp.length c1) S.inp) := ⟨HX.out.1.kept b1, HX.out.2.1.kept b1, andThen HX.out.2.2 b1, own_weak o1 HX.out.2.1.lt⟩
 clear b1 o1 HX c6
 have c6 := H1.out.1.cell 6 (.slice h.ai S.inp.length h.ci) (by rw [HE.out]; rfl)
 have f6 := H1.out.1.free 6
 have HV2 : Hid (∃ W2, W2 = w1.setCell ⟨w.heap.size, 6, none⟩ (.slice a1 S.inp.length c1) ∧ LB W2 w.heap.size 25 (D.set 6 (.slice a1 S.inp.length c1)) ∧ LB W2 (w.heap.size + 1) 25 Z ∧ Below w.heap.size w W2 ∧ Own (w.heap.size + 2) W2 (.slice a1 S.inp.length c1) S.inp) := ⟨_, rfl, H1.out.1.set _ _, H1.out.2.1.other _ _ (show w.heap.size + 1 ≠ w.heap.size by omega), Below.setCell H1.out.2.2.1 (Nat.le_refl _) _, own_set H1.out.2.2.2 _ _ (show w.heap.size < w.heap.size + 2 by omega)⟩
 obtain ⟨W2, hW2, hq2⟩ := HV2.out
 have H2 : Hid _ := hq2
 have c11 := H2.out.1.cell 11 (.slice h.ao S.outs.length h.co) (by rw [HE.out]; rfl)
 rw [hW2] at c11
 go_wp2_with fail
 rw [← hW2]
 clear hW2 hq2 HV2 H1 c6 f6 c11
 refine (HLO.out _ H2.out.2.2.1).mono ?_
 rintro e w3 ⟨a3, c3, rfl, o3, b3⟩
 have H3 : Hid (LB w3 w.heap.size 25 (D.set 6 (.slice a1 S.inp.length c1)) ∧ LB w3 (w.heap.size + 1) 25 Z ∧ Below w.heap.size w w3 ∧ Own (w.heap.size + 2) w3 (.slice a1 S.inp.length c1) S.inp ∧ OwnP (w.heap.size + 2) w3 (.slice a3 S.outs.length c3) S.outs) := ⟨H2.out.1.kept b3, H2.out.2.1.kept b3, andThen H2.out.2.2.1 b3, H2.out.2.2.2.kept b3, o3.weak H2.out.2.1.lt⟩
 clear b3 o3 H2
 have c11 := H3.out.1.cell 11 (.slice h.ao S.outs.length h.co) (by rw [HE.out]; rfl)
 have f11 := H3.out.1.free 11
 have HV4 : Hid (∃ W4, W4 = w3.setCell ⟨w.heap.size, 11, none⟩ (.slice a3 S.outs.length c3) ∧ LB W4 w.heap.size 25 ((D.set 6 (.slice a1 S.inp.length c1)).set 11 (.slice a3 S.outs.length c3)) ∧ LB W4 (w.heap.size + 1) 25 Z ∧ Below w.heap.size w W4 ∧ Own (w.heap.size + 2) W4 (.slice a1 S.inp.length c1) S.inp ∧ OwnP (w.heap.size + 2) W4 (.slice a3 S.outs.length c3) S.outs) := ⟨_, rfl, H3.out.1.set _ _, H3.out.2.1.other _ _ (show w.heap.size + 1 ≠ w.heap.size by omega), Below.setCell H3.out.2.2.1 (Nat.le_refl _) _, own_set H3.out.2.2.2.1 _ _ (show w.heap.size < w.heap.size + 2 by omega), H3.out.2.2.2.2.setB _ _ (show w.heap.size < w.heap.size + 2 by omega)⟩
 obtain ⟨W4, hW4, hq4⟩ := HV4.out
 have H4 : Hid _ := hq4
 have c12 := H4.out.1.cell 12 (.slice h.au S.und.length h.cu) (by rw [HE.out]; rfl)
 rw [hW4] at c12
 go_wp2_with fail
 rw [← hW4]
 clear hW4 hq4 HV4 H3 c11 f11 c12
 refine (HLU.out _ H4.out.2.2.1).mono ?_
 rintro e w5 ⟨a5, c5, rfl, o5, b5⟩
 have HAP : Hid (∀ g, (Value.slice a3 S.outs.length c3).ownBlock = some g → (Value.slice a5 S.und.length c5).ownBlock ≠ some g) := fun g e1 e2 => by
  have q1 := (H4.out.2.2.2.2.block g e1).2
  have q2 := (o5.block g e2).1
  omega
 have H5 : Hid (LB w5 w.heap.size 25 ((D.set 6 (.slice a1 S.inp.length c1)).set 11 (.slice a3 S.outs.length c3)) ∧ LB w5 (w.heap.size + 1) 25 Z ∧ Below w.heap.size w w5 ∧ Own (w.heap.size + 2) w5 (.slice a1 S.inp.length c1) S.inp ∧ OwnP (w.heap.size + 2) w5 (.slice a3 S.outs.length c3) S.outs ∧ OwnP (w.heap.size + 2) w5 (.slice a5 S.und.length c5) S.und) := ⟨H4.out.1.kept b5, H4.out.2.1.kept b5, andThen H4.out.2.2.1 b5, H4.out.2.2.2.1.kept b5, H4.out.2.2.2.2.kept b5, o5.weak H4.out.2.1.lt⟩
 clear b5 o5 H4
 have c12 := H5.out.1.cell 12 (.slice h.au S.und.length h.cu) (by rw [HE.out]; rfl)
 have f12 := H5.out.1.free 12
 have HV6 : Hid (∃ W6, W6 = w5.setCell ⟨w.heap.size, 12, none⟩ (.slice a5 S.und.length c5) ∧ LB W6 w.heap.size 25 (((D.set 6 (.slice a1 S.inp.length c1)).set 11 (.slice a3 S.outs.length c3)).set 12 (.slice a5 S.und.length c5)) ∧ LB W6 (w.heap.size + 1) 25 Z ∧ Below w.heap.size w W6 ∧ Own (w.heap.size + 2) W6 (.slice a1 S.inp.length c1) S.inp ∧ OwnP (w.heap.size + 2) W6 (.slice a3 S.outs.length c3) S.outs ∧ OwnP (w.heap.size + 2) W6 (.slice a5 S.und.length c5) S.und) := ⟨_, rfl, H5.out.1.set _ _, H5.out.2.1.other _ _ (show w.heap.size + 1 ≠ w.heap.size by omega), Below.setCell H5.out.2.2.1 (Nat.le_refl _) _, own_set H5.out.2.2.2.1 _ _ (show w.heap.size < w.heap.size + 2 by omega), H5.out.2.2.2.2.1.setB _ _ (show w.heap.size < w.heap.size + 2 by omega), H5.out.2.2.2.2.2.setB _ _ (show w.heap.size < w.heap.size + 2 by omega)⟩
 obtain ⟨W6, hW6, hq6⟩ := HV6.out
 have H6 : Hid _ := hq6
 have c15 := H6.out.1.cell 15 (.slice h.af S.fail.length h.cf) (by rw [HE.out]; rfl)
 rw [hW6] at c15
 go_wp2_with fail
 rw [← hW6]
 clear hW6 hq6 HV6 H5 c12 f12 c15
 refine (HBY.out _ _ _ (HK.out _ H6.out.2.2.1).fail hf).mono ?_
 rintro e w7 ⟨a7, c7, rfl, o7, b7⟩
 have H7 : Hid (LB w7 w.heap.size 25 (((D.set 6 (.slice a1 S.inp.length c1)).set 11 (.slice a3 S.outs.length c3)).set 12 (.slice a5 S.und.length c5)) ∧ LB w7 (w.heap.size + 1) 25 Z ∧ Below w.heap.size w w7 ∧ Own (w.heap.size + 2) w7 (.slice a1 S.inp.length c1) S.inp ∧ OwnP (w.heap.size + 2) w7 (.slice a3 S.outs.length c3) S.outs ∧ OwnP (w.heap.size + 2) w7 (.slice a5 S.und.length c5) S.und ∧ Own (w.heap.size + 2) w7 (.slice a7 S.fail.length c7) S.fail) := ⟨H6.out.1.kept b7, H6.out.2.1.kept b7, andThen H6.out.2.2.1 b7, H6.out.2.2.2.1.kept b7, H6.out.2.2.2.2.1.kept b7, H6.out.2.2.2.2.2.kept b7, own_weak o7 H6.out.2.1.lt⟩
 clear b7 o7 H6 HBY HLO HLU HK
 have c15 := H7.out.1.cell 15 (.slice h.af S.fail.length h.cf) (by rw [HE.out]; rfl)
 have f15 := H7.out.1.free 15
 obtain ⟨M, hM, hML, hME⟩ := sv_letter S ⟨a1, c1, a3, c3, a5, c5, a7, c7⟩
 have HMV : Hid (sv S ⟨a1, c1, a3, c3, a5, c5, a7, c7⟩ = .agg M.toArray) := hM
 have HML : Hid _ := hML
 have HME : Hid ((((D.set 6 (.slice a1 S.inp.length c1)).set 11 (.slice a3 S.outs.length c3)).set 12 (.slice a5 S.und.length c5)).set 15 (.slice a7 S.fail.length c7) = M) := by show _ = _; rw [HE.out, hME]; rfl
 have HM1 : Hid (∀ v ∈ M, v.oneCell' = true) := by show ∀ v ∈ M, _; rw [hME]; exact scl_one _ _
 have HMZ : Hid (M.length = Z.length) := by show _ = _; rw [hME, HZL.out]; rfl
 clear hM hML hME
 go_wp2_with (first | (obtain ⟨W8, hW8⟩ : ∃ W8, w7.setCell ⟨w.heap.size, 15, none⟩ (.slice a7 S.fail.length c7) = W8 := ⟨_, rfl⟩; (have H8 : Hid (LB W8 w.heap.size 25 M ∧ LB W8 (w.heap.size + 1) 25 Z ∧ Below w.heap.size w W8 ∧ Own (w.heap.size + 2) W8 (.slice a1 S.inp.length c1) S.inp ∧ OwnP (w.heap.size + 2) W8 (.slice a3 S.outs.length c3) S.outs ∧ OwnP (w.heap.size + 2) W8 (.slice a5 S.und.length c5) S.und ∧ Own (w.heap.size + 2) W8 (.slice a7 S.fail.length c7) S.fail) := by rw [← hW8, ← HME.out]; exact ⟨H7.out.1.set _ _, H7.out.2.1.other _ _ (show w.heap.size + 1 ≠ w.heap.size by omega), Below.setCell H7.out.2.2.1 (Nat.le_refl _) _, own_set H7.out.2.2.2.1 _ _ (show w.heap.size < w.heap.size + 2 by omega), H7.out.2.2.2.2.1.setB _ _ (show w.heap.size < w.heap.size + 2 by omega), H7.out.2.2.2.2.2.1.setB _ _ (show w.heap.size < w.heap.size + 2 by omega), own_set H7.out.2.2.2.2.2.2 _ _ (show w.heap.size < w.heap.size + 2 by omega)⟩); (rw [hW8]); (clear hW8); (refine wpList_load_mid rfl 25 _ rfl w.heap.size 0 rfl M _ H8.out.1.range Tryz.underlying25 rfl HML.out ?_)) | (refine wpList_store_mid rfl 25 (.tmp 2) (.tmp 19) rfl (w.heap.size + 1) 0 M.toArray rfl rfl (there_of H8.out.2.1 (by simpa using HMZ.out)) (by simpa using HML.out) (all_oneCell_toArray HM1.out) ?_; (rw [List.toList_toArray])) | fail)
 have HR9 : Hid ((W8.setCells (w.heap.size + 1) 0 M).rangeAt (w.heap.size + 1) 0 M) := (H8.out.2.1.sets M HMZ.out).range
 refine bodyPost_ret (results_cell_mid rfl _ (W8.setCells (w.heap.size + 1) 0 M) (w.heap.size + 1) M _ rfl HR9.out Tryz.underlying25 rfl HML.out) rfl ?_
 exact ⟨⟨a1, c1, a3, c3, a5, c5, a7, c7⟩, by rw [HMV.out], ⟨own_weak (B2 := w.heap.size + 2) (Own.cells H8.out.2.2.2.1 (w.heap.size + 1) 0 M (by omega)) (by omega), (H8.out.2.2.2.2.1.setsB (w.heap.size + 1) 0 M (by omega)).weak (by omega), (H8.out.2.2.2.2.2.1.setsB (w.heap.size + 1) 0 M (by omega)).weak (by omega), own_weak (B2 := w.heap.size + 2) (Own.cells H8.out.2.2.2.2.2.2 (w.heap.size + 1) 0 M (by omega)) (by omega), HAP.out⟩, below_cells (by omega) _ 0 _ H8.out.2.2.1⟩
theorem short_each {ls : List (List Nat)} (h : shortP ls = true) : ∀ x ∈ ls, x.length ≤ 16777216 := fun x hx => by
 have := List.all_eq_true.1 h x hx
 simp at this
 omega
theorem rxmoved_any (S : Sg) (h : SH) (r : Rec) (d : Value) (w : World) (k : SgAt w S h) (hb : Bs w d r.l) (hc : chkS S = true) (hv : V3 r) (h0 : refP S.x r.x = 0) :
  Calls Tryz.prog 97 #[sv S h, rv r.x r.nm d] w fun e w' => ∃ h', e = .returned (sv (deedS S r) h') ∧ SgOwn w.heap.size w' (deedS S r) h' ∧ Below w.heap.size w w' := by
 obtain ⟨_, _, _, _, _, g6, g7, _⟩ := good_nums S hc
 obtain ⟨l1, l2, l3, l4, _⟩ := good_lists S hc
 have HCL0 : ∀ w', Below w.heap.size w w' → Calls Tryz.prog 24 #[sv S h] w' fun e w'' => ∃ h', e = .returned (sv S h') ∧ SgOwn w'.heap.size w'' S h' ∧ Below w'.heap.size w' w'' := fun w' hb' => rxclone_any S h w' (k.kept hb') (by omega) (by omega) (short_each l3) (short_each l4) (by omega) (by omega)
 have HLI0 : ∀ (h' : SH) (B : Nat) (w' : World), Below w.heap.size w w' → B ≤ w'.heap.size → SgOwn B w' S h' → Calls Tryz.prog 96 #[sv S h', rv r.x r.nm d] w' fun e w'' => LiPost B (deedS S r) w' e w'' := fun h' B w' hb' hB k' => rxlight_any S h' r d w' B k' hB (hb.kept hb') hc hv h0
 obtain ⟨Q, hQ⟩ : ∃ Q, deedS S r = Q := ⟨_, rfl⟩
 rw [hQ] at HLI0 ⊢
 clear k hb hc hv h0 hQ
 obtain ⟨Z, hZ⟩ : ∃ Z, Z = zcl := ⟨_, rfl⟩
 have HZ : Hid (Z = zcl) := hZ
 have HZL : Hid (Z.length = 16) := by show _ = _; rw [hZ]; rfl
 obtain ⟨D, hD, hL, hE⟩ := sv_letter S h
 obtain ⟨E, hD2, hL2, hE2⟩ := rv_letter r.x r.nm d
 rw [hD] at HCL0
 rw [hD2] at HLI0
 rw [hD, hD2]
 have HCL : Hid _ := HCL0
 have HLI : Hid _ := HLI0
 have HL : Hid _ := hL
 have HL2 : Hid _ := hL2
 have HX : Hid (LB (((w.alloc (.cells D.toArray 25)).alloc (.cells E.toArray 37)).alloc (.cells Z.toArray 25)) w.heap.size 25 D ∧ LB (((w.alloc (.cells D.toArray 25)).alloc (.cells E.toArray 37)).alloc (.cells Z.toArray 25)) (w.heap.size + 1) 37 E ∧ LB (((w.alloc (.cells D.toArray 25)).alloc (.cells E.toArray 37)).alloc (.cells Z.toArray 25)) (w.heap.size + 2) 25 Z ∧ Below w.heap.size w (((w.alloc (.cells D.toArray 25)).alloc (.cells E.toArray 37)).alloc (.cells Z.toArray 25))) := lb_new3 w D E Z _ _ _
 clear hD hL hE hD2 hL2 hE2 HCL0 HLI0 hZ
 go_enter Tryz.func97, Tryz.ntmps97
 go_wp2_with (first | (refine wpList_alloc_Z HZ.out rfl rfl ?_; (try simp only [heap_one]); (obtain ⟨W1, hW1⟩ : ∃ W1, ((w.alloc (.cells D.toArray 25)).alloc (.cells E.toArray 37)).alloc (.cells Z.toArray 25) = W1 := ⟨_, rfl⟩); (rw [hW1] at HX ⊢); (clear hW1)) | fail)
 have H1 : Hid (LB W1.drew w.heap.size 25 D ∧ LB W1.drew (w.heap.size + 1) 37 E ∧ LB W1.drew (w.heap.size + 2) 25 Z ∧ Below w.heap.size w W1.drew) := ⟨HX.out.1.kept (Below.drew (Below.refl _ _)), HX.out.2.1.kept (Below.drew (Below.refl _ _)), HX.out.2.2.1.kept (Below.drew (Below.refl _ _)), Below.drew HX.out.2.2.2⟩
 clear HX
 refine wp_region_held_drew (S := fun w' : World => w'.rangeAt w.heap.size 0 D ∧ w'.rangeAt (w.heap.size + 1) 0 E) (by kernel_rfl) ⟨H1.out.1.range, H1.out.2.1.range⟩ (fun hH => ?_)
 generalize W1.drew = V1 at *
 refine zql 0 rfl (yieldsIf_load_mid (by rfl) _ _ rfl _ _ rfl D _ (fun w' hSw => hSw.1) Tryz.underlying25 rfl HL.out) hH ?_
 simp only [zq]
 refine zql 2 rfl (yieldsIf_load_mid (by rfl) _ _ rfl _ _ rfl E _ (fun w' hSw => hSw.2) Tryz.underlying37 rfl HL2.out) hH ?_
 simp only [zq]
 refine zqr 1 rfl (fun K hK => ?_)
 go_simp
 refine (HCL.out _ H1.out.2.2.2).mono ?_
 rintro e w2 ⟨h2, rfl, o2, b2⟩
 have H2 : Hid (LB w2 w.heap.size 25 D ∧ LB w2 (w.heap.size + 1) 37 E ∧ LB w2 (w.heap.size + 2) 25 Z ∧ Below w.heap.size w w2 ∧ SgOwn V1.heap.size w2 S h2) := ⟨H1.out.1.kept b2, H1.out.2.1.kept b2, H1.out.2.2.1.kept b2, andThen H1.out.2.2.2 b2, o2⟩
 have HVL : Hid (w.heap.size + 2 < V1.heap.size ∧ V1.heap.size ≤ w2.heap.size) := ⟨H1.out.2.2.1.lt, b2.size⟩
 obtain ⟨D2, hD2, hL2, hE2⟩ := sv_letter S h2
 rw [hD2]
 have HLI2 : Hid (∀ w', Below w.heap.size w w' → V1.heap.size ≤ w'.heap.size → SgOwn V1.heap.size w' S h2 → Calls Tryz.prog 96 #[.agg D2.toArray, .agg E.toArray] w' fun e w'' => LiPost V1.heap.size Q w' e w'') := fun w' hb' hs k' => by have e := HLI.out h2 _ w' hb' hs k'; rw [hD2] at e; exact e
 clear hD2 hL2 hE2
 refine hK.out _ _ ⟨H2.out.1.range, H2.out.2.1.range⟩ (fun hH2 => ?_)
 clear hK K hH
 have hH := hH2
 clear hH2
 clear b2 o2 H1 HCL HLI
 refine zqr 3 rfl (fun K hK => ?_)
 go_simp
 refine (HLI2.out _ H2.out.2.2.2.1 HVL.out.2 H2.out.2.2.2.2).mono ?_
 rintro e w3 ⟨h3, rfl, o3, b3, f3⟩
 have H3 : Hid (LB w3 w.heap.size 25 D ∧ LB w3 (w.heap.size + 1) 37 E ∧ LB w3 (w.heap.size + 2) 25 Z ∧ Below w.heap.size w w3 ∧ SgOwn V1.heap.size w3 Q h3) := ⟨lb_frs H2.out.1 f3 (by decide), lb_frs H2.out.2.1 f3 (by decide), lb_frs H2.out.2.2.1 f3 (by decide), H2.out.2.2.2.1.trans (b3.mono (by have := HVL.out.1; omega)), o3⟩
 obtain ⟨M, hM, hML, hME⟩ := sv_letter Q h3
 rw [hM]
 have HMV : Hid (sv Q h3 = .agg M.toArray) := hM
 have HML : Hid _ := hML
 have HM1 : Hid (∀ v ∈ M, v.oneCell' = true) := by show ∀ v ∈ M, _; rw [hME]; exact scl_one _ _
 have HMZ : Hid (M.length = Z.length) := by show _ = _; rw [hME, HZL.out]; rfl
 clear hM hML hME
 refine hK.out _ _ ⟨H3.out.1.range, H3.out.2.1.range⟩ (fun hH2 => ?_)
 clear hK K hH
 have hH := hH2
 clear hH2
 clear b3 f3 o3 H2 HLI2
 refine zqr 4 rfl (fun K hK => ?_)
 refine step_storeX rfl 25 (.tmp 4) (.tmp 8) rfl (w.heap.size + 2) 0 M.toArray rfl rfl (there_of H3.out.2.2.1 (by simpa using HMZ.out)) (by simpa using HML.out) (all_oneCell_toArray HM1.out) ?_
 rw [List.toList_toArray]
 refine hK.out _ _ ⟨(H3.out.1.others _ _ _ (by omega)).range, (H3.out.2.1.others _ _ _ (by omega)).range⟩ (fun hH2 => ?_)
 clear hK K hH
 have hH := hH2
 clear hH2
 simp only [Act.put, zq4, zq5, zq6]
 refine wpAnyH_done (by kernel_rfl) ?_ _
 clear hH
 go_wp2
 have HR9 : Hid ((w3.setCells (w.heap.size + 2) 0 M).rangeAt (w.heap.size + 2) 0 M) := (H3.out.2.2.1.sets M HMZ.out).range
 refine bodyPost_ret (results_cell_mid rfl _ (w3.setCells (w.heap.size + 2) 0 M) (w.heap.size + 2) M _ rfl HR9.out Tryz.underlying25 rfl HML.out) rfl ?_
 exact ⟨h3, by rw [HMV.out], (sgown_oth H3.out.2.2.2.2 H3.out.2.2.1 (Oth.sets _ _ _ _)).weak (by have := HVL.out.1; omega), below_cells (by omega) _ 0 _ H3.out.2.2.2.1⟩
theorem up_err (r : Rec) : (upP 3 r).1 = chk r.x r.nm r.l := by
 unfold upP lckE
 by_cases h : chkR r = 0
 ·have hv := ((chk_exp r.x r.nm r.l).1 h)
  have hv3 : 1 ≤ r.x.v ∧ r.x.v ≤ 3 := by omega
  rw [if_neg (by simp [h]), if_neg (by omega)]
  exact h.symm
 ·rw [if_pos (by simp [h])]
  simp only [h, ne_eq, not_false_eq_true, if_true]
  rfl
theorem sgown_zero (B : Nat) (w : World) : SgOwn B w zSg ⟨none, 0, none, 0, none, 0, none, 0⟩ := ⟨Own.nil _ _, ownP_nil _ _, ownP_nil _ _, Own.nil _ _, fun g e => by simp [Value.ownBlock] at e⟩
def AxPost (w : World) (a : Int × Sg) (e : Ending) (w' : World) : Prop := ∃ h', e = .returned (.tuple #[sv a.2 h', .int .i64 a.1]) ∧ SgOwn w.heap.size w' a.2 h' ∧ Below w.heap.size w w'
theorem rxstep_any (S : Sg) (h : SH) (r : Rec) (d : Value) (w : World) (k : SgAt w S h) (hb : Bs w d r.l) (hT : Tabs w) (hc : chkS S = true) (hnm : r.nm.size ≤ 1048576) (hf : r.x.fit) : Calls Tryz.prog 78 #[sv S h, rv r.x r.nm d] w fun e w' => AxPost w (applyP S r) e w' := by
 have HCK0 : ∀ w', Below w.heap.size w w' → Calls Tryz.prog 75 #[rv r.x r.nm d] w' fun e w'' => e = .returned (.int .i64 (upP 3 r).1) ∧ Below w'.heap.size w' w'' := fun w' hb' => by
  have e := refcheck_any r.x r.nm d r.l w' (hb.kept hb') (hT.kept hb').rlets (hT.kept hb').rows hf.c (by omega)
  rw [← up_err] at e
  exact e
 have HTH0 : ∀ w', Below w.heap.size w w' → Calls Tryz.prog 76 #[rv r.x r.nm d] w' fun e w'' => ∃ ao, ∃ cap : Nat, e = .returned (rv (upP 3 r).2.x (upP 3 r).2.nm (.slice ao (upP 3 r).2.l.length cap)) ∧ Bs w'' (.slice ao (upP 3 r).2.l.length cap) (upP 3 r).2.l ∧ Below w'.heap.size w' w'' := fun w' hb' => rxthird_any r d w' (hb.kept hb') (hT.kept hb') hnm hf
 have HV : Hid ((upP 3 r).1 = 0 → V3 (upP 3 r).2) := fun h0 => (up3 r hb.good h0).1
 have HAP : Hid (applyP S r = if (upP 3 r).1 ≠ 0 then ((upP 3 r).1, zSg) else if refP S.x (upP 3 r).2.x ≠ 0 then (refP S.x (upP 3 r).2.x, zSg) else (0, deedS S (upP 3 r).2)) := by show _ = _; unfold applyP; rw [if_neg (by simp [hc])]
 obtain ⟨z, hz⟩ : ∃ z, (upP 3 r).1 = z := ⟨_, rfl⟩
 obtain ⟨u, hu⟩ : ∃ u, (upP 3 r).2 = u := ⟨_, rfl⟩
 rw [hz] at HCK0 HV HAP
 rw [hu] at HTH0 HV HAP
 obtain ⟨A, hA⟩ : ∃ A, applyP S r = A := ⟨_, rfl⟩
 rw [hA] at HAP ⊢
 clear hz hu hA
 obtain ⟨y, hy⟩ : ∃ y, refP S.x u.x = y := ⟨_, rfl⟩
 obtain ⟨Q, hQ⟩ : ∃ Q, deedS S u = Q := ⟨_, rfl⟩
 have HRF0 : z = 0 → ∀ (v : Value) (w' : World), Calls Tryz.prog 95 #[sv S h, rv u.x u.nm v] w' fun e w'' => e = .returned (.int .i64 y) ∧ Below w'.heap.size w' w'' := fun e0 v w' => by
  have e := rref_any S h u v w' hc (HV.out e0)
  rw [hy] at e
  exact e
 have HMV0 : z = 0 → y = 0 → ∀ (v : Value) (w' : World), Below w.heap.size w w' → Bs w' v u.l → Calls Tryz.prog 97 #[sv S h, rv u.x u.nm v] w' fun e w'' => ∃ h', e = .returned (sv Q h') ∧ SgOwn w'.heap.size w'' Q h' ∧ Below w'.heap.size w' w'' := fun e0 e1 v w' hb' hv => by
  have e := rxmoved_any S h u v w' (k.kept hb') hv hc (HV.out e0) (by rw [hy]; exact e1)
  rw [hQ] at e
  exact e
 rw [hy, hQ] at HAP
 clear hy hQ HV
 obtain ⟨ZR, hZR⟩ : ∃ ZR, ZR = zrl := ⟨_, rfl⟩
 have HZR : Hid (ZR = zrl) := hZR
 have HZRL : Hid (ZR.length = 12) := by show _ = _; rw [hZR]; rfl
 obtain ⟨Z, hZ⟩ : ∃ Z, Z = zcl := ⟨_, rfl⟩
 have HZ : Hid (Z = zcl) := hZ
 have HZL : Hid (Z.length = 16) := by show _ = _; rw [hZ]; rfl
 have HZI : Hid ((Tryz.prog.info? 25).map (·.size) = some Z.length) := by show _ = _; rw [hZ]; exact infoSaga
 have HZ1 : Hid (∀ v ∈ Z, v.oneCell' = true) := by show ∀ v ∈ Z, _; rw [hZ]; exact scl_one zSg ⟨none, 0, none, 0, none, 0, none, 0⟩
 obtain ⟨D, hD, hL, hE⟩ := sv_letter S h
 obtain ⟨E, hD2, hL2, hE2⟩ := rv_letter r.x r.nm d
 rw [hD] at HRF0 HMV0
 rw [hD2] at HCK0 HTH0
 rw [hD, hD2]
 have HCK : Hid _ := HCK0
 have HTH : Hid _ := HTH0
 have HRF : Hid _ := HRF0
 have HMV : Hid _ := HMV0
 have HL : Hid _ := hL
 have HL2 : Hid _ := hL2
 have HX : Hid (LB (((w.alloc (.cells D.toArray 25)).alloc (.cells E.toArray 37)).alloc (.cells Z.toArray 25)) w.heap.size 25 D ∧ LB (((w.alloc (.cells D.toArray 25)).alloc (.cells E.toArray 37)).alloc (.cells Z.toArray 25)) (w.heap.size + 1) 37 E ∧ LB (((w.alloc (.cells D.toArray 25)).alloc (.cells E.toArray 37)).alloc (.cells Z.toArray 25)) (w.heap.size + 2) 25 Z ∧ Below w.heap.size w (((w.alloc (.cells D.toArray 25)).alloc (.cells E.toArray 37)).alloc (.cells Z.toArray 25))) := lb_new3 w D E Z _ _ _
 clear hD hL hE hD2 hL2 hE2 HCK0 HTH0 HRF0 HMV0 hZ hZR hb hT hc hnm hf k
 go_enter Tryz.func78, Tryz.ntmps78
 go_wp2_with (first | (refine wpList_alloc_Z HZ.out rfl rfl ?_; (try simp only [heap_one])) | (refine wpList_load_mid rfl 37 _ rfl (w.heap.size + 1) 0 rfl E _ HX.out.2.1.range Tryz.underlying37 rfl HL2.out ?_) | fail)
 refine (HCK.out _ HX.out.2.2.2).mono ?_
 rintro e w1 ⟨rfl, b1⟩
 have H1 : Hid (LB w1 w.heap.size 25 D ∧ LB w1 (w.heap.size + 1) 37 E ∧ LB w1 (w.heap.size + 2) 25 Z ∧ Below w.heap.size w w1) := ⟨HX.out.1.kept b1, HX.out.2.1.kept b1, HX.out.2.2.1.kept b1, andThen HX.out.2.2.2 b1⟩
 clear b1 HX HCK
 cases hz0 : (z != 0) with
 | true =>
  have hAe : A = (z, zSg) := by rw [HAP.out, if_pos (by simpa using hz0)]
  subst hAe
  go_wp2_with (first | (refine wpList_build_Z HZ.out rfl rfl ?_) | (refine wpList_store_mid rfl 25 (.tmp 4) (.tmp 12) rfl (w.heap.size + 2) 0 Z.toArray rfl rfl (there_of H1.out.2.2.1 (by simp)) (by simpa using HZI.out) (all_oneCell_toArray HZ1.out) ?_; (rw [List.toList_toArray])) | fail)
  have HR9 : Hid ((w1.setCells (w.heap.size + 2) 0 Z).rangeAt (w.heap.size + 2) 0 Z) := (H1.out.2.2.1.sets Z rfl).range
  refine bodyPost_ret (results_cell_slot (p := 4) (s := 5) (ty := 25) rfl _ (w1.setCells (w.heap.size + 2) 0 Z) (w.heap.size + 2) Z _ rfl HR9.out Tryz.underlying25 rfl HZI.out) rfl ?_
  exact ⟨⟨none, 0, none, 0, none, 0, none, 0⟩, by rw [HZ.out]; rfl, sgown_zero _ _, below_cells (by omega) _ 0 _ H1.out.2.2.2⟩
 | false =>
  have e0 : z = 0 := by simpa using hz0
  go_wp2_with (first | (refine wpList_load_mid rfl 37 _ rfl (w.heap.size + 1) 0 rfl E _ H1.out.2.1.range Tryz.underlying37 rfl HL2.out ?_) | fail)
  refine (HTH.out _ H1.out.2.2.2).mono ?_
  rintro e w2 ⟨a3, c3, rfl, bs2, b2⟩
  obtain ⟨G, hG, hGL, hGE⟩ := rv_letter u.x u.nm (.slice a3 u.l.length c3)
  rw [hG]
  have HRG : Hid (∀ w', Calls Tryz.prog 95 #[.agg D.toArray, .agg G.toArray] w' fun e w'' => e = .returned (.int .i64 y) ∧ Below w'.heap.size w' w'') := fun w' => by
   have e := HRF.out e0 (.slice a3 u.l.length c3) w'
   rw [hG] at e
   exact e
  have HMG : Hid (y = 0 → ∀ w', Below w.heap.size w w' → Bs w' (.slice a3 u.l.length c3) u.l → Calls Tryz.prog 97 #[.agg D.toArray, .agg G.toArray] w' fun e w'' => ∃ h', e = .returned (sv Q h') ∧ SgOwn w'.heap.size w'' Q h' ∧ Below w'.heap.size w' w'') := fun e1 w' hb' hv => by
   have e := HMV.out e0 e1 (.slice a3 u.l.length c3) w' hb' hv
   rw [hG] at e
   exact e
  have HGL : Hid _ := hGL
  have HG1 : Hid (∀ v ∈ G, v.oneCell' = true) := by show ∀ v ∈ G, _; rw [hGE]; exact rcE_one _ _ _ rfl
  have HGZ : Hid (G.length = ZR.length) := by show _ = _; rw [hGE, HZRL.out]; rfl
  have HTZ : Hid ((w2.alloc (.cells ZR.toArray 37)).there w2.heap.size 0 G.toArray.size) := there_of (lb_new w2 ZR _) (by simpa using HGZ.out)
  have H3 : Hid (∃ W3, W3 = (w2.alloc (.cells ZR.toArray 37)).setCells w2.heap.size 0 G ∧ LB W3 w.heap.size 25 D ∧ LB W3 (w.heap.size + 2) 25 Z ∧ LB W3 w2.heap.size 37 G ∧ Below w.heap.size w W3 ∧ Bs W3 (.slice a3 u.l.length c3) u.l) := by
   obtain ⟨q1, q2⟩ := one_boxR w2 37 ZR G HGZ.out
   exact ⟨_, rfl, (H1.out.1.kept b2).kept q2, (H1.out.2.2.1.kept b2).kept q2, q1, andThen (andThen H1.out.2.2.2 b2) q2, bs2.kept q2⟩
  clear hG hGL hGE b2 bs2 H1 HTH HRF HMV HL2 hz0
  go_wp2_with (first | (refine wpList_alloc_R HZR.out rfl rfl ?_) | (refine wpList_store_mid rfl 37 (.tmp 7) (.tmp 15) rfl w2.heap.size 0 G.toArray rfl rfl HTZ.out (by simpa using HGL.out) (all_oneCell_toArray HG1.out) ?_; (obtain ⟨W3, hW3, hq⟩ := H3.out); (have H4 : Hid _ := hq); (rw [List.toList_toArray, ← hW3]); (clear hW3 hq H3 HTZ)) | (refine wpList_load_mid rfl 25 _ rfl w.heap.size 0 rfl D _ H4.out.1.range Tryz.underlying25 rfl HL.out ?_) | (refine wpList_load_mid rfl 37 _ rfl w2.heap.size 0 rfl G _ H4.out.2.2.1.range Tryz.underlying37 rfl HGL.out ?_) | fail)
  refine (HRG.out _).mono ?_
  rintro e w4 ⟨rfl, b4⟩
  have H5 : Hid (LB w4 w.heap.size 25 D ∧ LB w4 (w.heap.size + 2) 25 Z ∧ LB w4 w2.heap.size 37 G ∧ Below w.heap.size w w4 ∧ Bs w4 (.slice a3 u.l.length c3) u.l) := ⟨H4.out.1.kept b4, H4.out.2.1.kept b4, H4.out.2.2.1.kept b4, andThen H4.out.2.2.2.1 b4, H4.out.2.2.2.2.kept b4⟩
  clear b4 H4 HRG HG1 HGZ
  cases hy0 : (y != 0) with
  | true =>
   have hAe : A = (y, zSg) := by rw [HAP.out, if_neg (by simpa using e0), if_pos (by simpa using hy0)]
   subst hAe
   go_wp2_with (first | (refine wpList_build_Z HZ.out rfl rfl ?_) | (refine wpList_store_mid rfl 25 (.tmp 4) (.tmp 21) rfl (w.heap.size + 2) 0 Z.toArray rfl rfl (there_of H5.out.2.1 (by simp)) (by simpa using HZI.out) (all_oneCell_toArray HZ1.out) ?_; (rw [List.toList_toArray])) | fail)
   have HR9 : Hid ((w4.setCells (w.heap.size + 2) 0 Z).rangeAt (w.heap.size + 2) 0 Z) := (H5.out.2.1.sets Z rfl).range
   refine bodyPost_ret (results_cell_slot (p := 4) (s := 5) (ty := 25) rfl _ (w4.setCells (w.heap.size + 2) 0 Z) (w.heap.size + 2) Z _ rfl HR9.out Tryz.underlying25 rfl HZI.out) rfl ?_
   exact ⟨⟨none, 0, none, 0, none, 0, none, 0⟩, by rw [HZ.out]; rfl, sgown_zero _ _, below_cells (by omega) _ 0 _ H5.out.2.2.2.1⟩
  | false =>
   have e1 : y = 0 := by simpa using hy0
   have hAe : A = (0, Q) := by rw [HAP.out, if_neg (by simpa using e0), if_neg (by simpa using e1)]
   subst hAe
   have HMQ : Hid (∀ w', Below w.heap.size w w' → Bs w' (.slice a3 u.l.length c3) u.l → Calls Tryz.prog 97 #[.agg D.toArray, .agg G.toArray] w' fun e w'' => ∃ h', e = .returned (sv Q h') ∧ SgOwn w'.heap.size w'' Q h' ∧ Below w'.heap.size w' w'') := HMG.out e1
   clear HMG HAP
   go_wp2_with (first | (refine wpList_load_mid rfl 25 _ rfl w.heap.size 0 rfl D _ H5.out.1.range Tryz.underlying25 rfl HL.out ?_) | (refine wpList_load_mid rfl 37 _ rfl w2.heap.size 0 rfl G _ H5.out.2.2.1.range Tryz.underlying37 rfl HGL.out ?_) | fail)
   refine (HMQ.out _ H5.out.2.2.2.1 H5.out.2.2.2.2).mono ?_
   rintro e w6 ⟨h6, rfl, o6, b6⟩
   obtain ⟨M, hM, hML, hME⟩ := sv_letter Q h6
   rw [hM]
   have HMVx : Hid (sv Q h6 = .agg M.toArray) := hM
   have HML : Hid _ := hML
   have HM1 : Hid (∀ v ∈ M, v.oneCell' = true) := by show ∀ v ∈ M, _; rw [hME]; exact scl_one _ _
   have HMZ : Hid (M.length = Z.length) := by show _ = _; rw [hME, HZL.out]; rfl
   have H6 : Hid (LB w6 (w.heap.size + 2) 25 Z ∧ Below w.heap.size w w6 ∧ SgOwn w.heap.size w6 Q h6) := ⟨H5.out.2.1.kept b6, andThen H5.out.2.2.2.1 b6, o6.weak H5.out.2.2.2.1.size⟩
   clear hM hML hME b6 o6 H5 HMQ
   go_wp2_with (first | (refine wpList_store_mid rfl 25 (.tmp 4) (.tmp 25) rfl (w.heap.size + 2) 0 M.toArray rfl rfl (there_of H6.out.1 (by simpa using HMZ.out)) (by simpa using HML.out) (all_oneCell_toArray HM1.out) ?_; (rw [List.toList_toArray])) | fail)
   have HR9 : Hid ((w6.setCells (w.heap.size + 2) 0 M).rangeAt (w.heap.size + 2) 0 M) := (H6.out.1.sets M HMZ.out).range
   refine bodyPost_ret (results_cell_slot (p := 4) (s := 5) (ty := 25) rfl _ (w6.setCells (w.heap.size + 2) 0 M) (w.heap.size + 2) M _ rfl HR9.out Tryz.underlying25 rfl HML.out) rfl ?_
   exact ⟨h6, by rw [HMVx.out]; rfl, sgown_oth H6.out.2.2 H6.out.1 (Oth.sets _ _ _ _), below_cells (by omega) _ 0 _ H6.out.2.1⟩
theorem rxapply_any (S : Sg) (h : SH) (r : Rec) (d : Value) (w : World) (k : SgAt w S h) (hb : Bs w d r.l) (hT : Tabs w) (hc : chkS S = true) (hfc : -9223372036854775808 ≤ S.x.fc ∧ S.x.fc ≤ 9223372036854775807) (hns : S.nm.size ≤ 1048576) (hnm : r.nm.size ≤ 1048576) (hf : r.x.fit) : Calls Tryz.prog 56 #[sv S h, rv r.x r.nm d] w fun e w' => AxPost w (applyP S r) e w' := by
 have HST0 : ∀ w', Below w.heap.size w w' → Calls Tryz.prog 78 #[sv S h, rv r.x r.nm d] w' fun e w'' => ∃ h', e = .returned (.tuple #[sv (applyP S r).2 h', .int .i64 (applyP S r).1]) ∧ SgOwn w'.heap.size w'' (applyP S r).2 h' ∧ Below w'.heap.size w' w'' := fun w' hb' => rxstep_any S h r d w' (k.kept hb') (hb.kept hb') (hT.kept hb') hc hnm hf
 have HCK0 : ∀ w', Below w.heap.size w w' → Calls Tryz.prog 77 #[sv S h] w' fun e w'' => e = .returned (.int .i64 0) ∧ Below w'.heap.size w' w'' := fun w' hb' => rxcheck_ok S h w' (k.kept hb') (hT.kept hb') hns hc hfc
 unfold AxPost
 obtain ⟨A, hA⟩ : ∃ A, applyP S r = A := ⟨_, rfl⟩
 rw [hA] at HST0 ⊢
 obtain ⟨z, hz⟩ : ∃ z, A.1 = z := ⟨_, rfl⟩
 obtain ⟨Q, hQ⟩ : ∃ Q, A.2 = Q := ⟨_, rfl⟩
 rw [hz, hQ] at HST0 ⊢
 clear hA hz hQ
 obtain ⟨Z, hZ⟩ : ∃ Z, Z = zcl := ⟨_, rfl⟩
 have HZ : Hid (Z = zcl) := hZ
 have HZL : Hid (Z.length = 16) := by show _ = _; rw [hZ]; rfl
 have HZI : Hid ((Tryz.prog.info? 25).map (·.size) = some Z.length) := by show _ = _; rw [hZ]; exact infoSaga
 have HZ1 : Hid (∀ v ∈ Z, v.oneCell' = true) := by show ∀ v ∈ Z, _; rw [hZ]; exact scl_one zSg ⟨none, 0, none, 0, none, 0, none, 0⟩
 obtain ⟨D, hD, hL, hE⟩ := sv_letter S h
 obtain ⟨E, hD2, hL2, hE2⟩ := rv_letter r.x r.nm d
 rw [hD] at HCK0
 rw [hD, hD2] at HST0
 rw [hD, hD2]
 have HCK : Hid _ := HCK0
 have HST : Hid _ := HST0
 have HL : Hid _ := hL
 have HL2 : Hid _ := hL2
 have HX : Hid (LB (((w.alloc (.cells D.toArray 25)).alloc (.cells E.toArray 37)).alloc (.cells Z.toArray 25)) w.heap.size 25 D ∧ LB (((w.alloc (.cells D.toArray 25)).alloc (.cells E.toArray 37)).alloc (.cells Z.toArray 25)) (w.heap.size + 1) 37 E ∧ LB (((w.alloc (.cells D.toArray 25)).alloc (.cells E.toArray 37)).alloc (.cells Z.toArray 25)) (w.heap.size + 2) 25 Z ∧ Below w.heap.size w (((w.alloc (.cells D.toArray 25)).alloc (.cells E.toArray 37)).alloc (.cells Z.toArray 25))) := lb_new3 w D E Z _ _ _
 clear hD hL hE hD2 hL2 hE2 HCK0 HST0 hZ hb hT hc hnm hf k
 go_enter Tryz.func56, Tryz.ntmps56
 go_wp2_with (first | (refine wpList_alloc_Z HZ.out rfl rfl ?_; (try simp only [heap_one])) | (refine wpList_load_mid rfl 25 _ rfl w.heap.size 0 rfl D _ HX.out.1.range Tryz.underlying25 rfl HL.out ?_) | fail)
 refine (HCK.out _ HX.out.2.2.2).mono ?_
 rintro e w1 ⟨rfl, b1⟩
 have H1 : Hid (LB w1 w.heap.size 25 D ∧ LB w1 (w.heap.size + 1) 37 E ∧ LB w1 (w.heap.size + 2) 25 Z ∧ Below w.heap.size w w1) := ⟨HX.out.1.kept b1, HX.out.2.1.kept b1, HX.out.2.2.1.kept b1, andThen HX.out.2.2.2 b1⟩
 clear b1 HX HCK
 go_wp2_with (first | (refine wpList_load_mid rfl 25 _ rfl w.heap.size 0 rfl D _ H1.out.1.range Tryz.underlying25 rfl HL.out ?_) | (refine wpList_load_mid rfl 37 _ rfl (w.heap.size + 1) 0 rfl E _ H1.out.2.1.range Tryz.underlying37 rfl HL2.out ?_) | fail)
 refine (HST.out _ H1.out.2.2.2).mono ?_
 rintro e w2 ⟨h2, rfl, o2, b2⟩
 obtain ⟨G, hG, hGL, hGE⟩ := sv_letter Q h2
 rw [hG]
 have HGL : Hid _ := hGL
 have HG : Hid (sv Q h2 = .agg G.toArray) := hG
 have HG1 : Hid (∀ v ∈ G, v.oneCell' = true) := by show ∀ v ∈ G, _; rw [hGE]; exact scl_one _ _
 have HGZ : Hid (G.length = Z.length) := by show _ = _; rw [hGE, HZL.out]; rfl
 have H5 : Hid (LB w2 (w.heap.size + 2) 25 Z ∧ Below w.heap.size w w2 ∧ SgOwn w.heap.size w2 Q h2) := ⟨H1.out.2.2.1.kept b2, andThen H1.out.2.2.2 b2, o2.weak H1.out.2.2.2.size⟩
 clear hG hGL hGE b2 o2 H1 HST
 go_wp2_with (first | (refine wpList_store_mid rfl 25 (.tmp 4) (.tmp 16) rfl (w.heap.size + 2) 0 G.toArray rfl rfl (there_of H5.out.1 (by simpa using HGZ.out)) (by simpa using HGL.out) (all_oneCell_toArray HG1.out) ?_; (rw [List.toList_toArray])) | fail)
 have HR9 : Hid ((w2.setCells (w.heap.size + 2) 0 G).rangeAt (w.heap.size + 2) 0 G) := (H5.out.1.sets G HGZ.out).range
 refine bodyPost_ret (results_cell_slot (p := 4) (s := 5) (ty := 25) rfl _ (w2.setCells (w.heap.size + 2) 0 G) (w.heap.size + 2) G _ rfl HR9.out Tryz.underlying25 rfl HGL.out) rfl ?_
 exact ⟨h2, by rw [HG.out]; rfl, sgown_oth H5.out.2.2 H5.out.1 (Oth.sets _ _ _ _), below_cells (by omega) _ 0 _ H5.out.2.1⟩
theorem rxbegin_good (r u : Rec) (d : Value) (w : World) (hb : Bs w d r.l) (hT : Tabs w) (hnm : r.nm.size ≤ 1048576) (hf : r.x.fit) (h0 : upP 3 r = (0, u)) (hv : V3 u) (hk : r.x.k = 1) (hku : u.x.k = 1) : Calls Tryz.prog 55 #[rv r.x r.nm d] w fun e w' => ∃ h', e = .returned (.tuple #[sv ⟨⟨u.x.s, u.x.n, u.x.i, u.x.a, u.x.a, 1, 0, false, 0, 0, 0⟩, u.nm, u.l, [], [], []⟩ h', .int .i64 0]) ∧ SgOwn w.heap.size w' ⟨⟨u.x.s, u.x.n, u.x.i, u.x.a, u.x.a, 1, 0, false, 0, 0, 0⟩, u.nm, u.l, [], [], []⟩ h' ∧ Below w.heap.size w w' := by
 have HCK0 : ∀ w', Below w.heap.size w w' → Calls Tryz.prog 75 #[rv r.x r.nm d] w' fun e w'' => e = .returned (.int .i64 0) ∧ Below w'.heap.size w' w'' := fun w' hb' => by
  have e := refcheck_any r.x r.nm d r.l w' (hb.kept hb') (hT.kept hb').rlets (hT.kept hb').rows hf.c (by omega)
  rw [← up_err, h0] at e
  exact e
 have HTH0 : ∀ w', Below w.heap.size w w' → Calls Tryz.prog 76 #[rv r.x r.nm d] w' fun e w'' => ∃ ao, ∃ cap : Nat, e = .returned (rv u.x u.nm (.slice ao u.l.length cap)) ∧ Bs w'' (.slice ao u.l.length cap) u.l ∧ Below w'.heap.size w' w'' := fun w' hb' => by
  have e := rxthird_any r d w' (hb.kept hb') (hT.kept hb') hnm hf
  rw [h0] at e
  exact e
 have hlen : u.l.length ≤ 16384 := by
  obtain ⟨_, _, _, h1 | h1 | h1 | h1 | h1⟩ := hv
  ·exact h1.2.2.2.2.2.2.2.2.2.2
  all_goals omega
 have HBY : Hid (∀ (v : Value) (w' : World), Bs w' v u.l → Calls Tryz.prog 50 #[v] w' fun e w'' => ∃ a, ∃ c : Nat, e = .returned (.slice a u.l.length c) ∧ Own w'.heap.size w'' (.slice a u.l.length c) u.l ∧ Below w'.heap.size w' w'') := fun v w' h1 => rxbytes_any v u.l w' h1 (by omega)
 obtain ⟨Z, hZ⟩ : ∃ Z, Z = zcl := ⟨_, rfl⟩
 obtain ⟨ZR, hZR⟩ : ∃ ZR, ZR = zrl := ⟨_, rfl⟩
 have HZ : Hid (Z = zcl) := hZ
 have HZR : Hid (ZR = zrl) := hZR
 have HZL : Hid (Z.length = 16) := by show _ = _; rw [hZ]; rfl
 have HZRL : Hid (ZR.length = 12) := by show _ = _; rw [hZR]; rfl
 obtain ⟨E, hD2, hL2, hE2⟩ := rv_letter r.x r.nm d
 rw [hD2] at HCK0 HTH0 ⊢
 have HCK : Hid _ := HCK0
 have HTH : Hid _ := HTH0
 have HL2 : Hid _ := hL2
 have HE2 : Hid (E = rcE r.x r.nm d) := hE2
 have HX : Hid (LB ((w.alloc (.cells E.toArray 37)).alloc (.cells Z.toArray 25)) w.heap.size 37 E ∧ LB ((w.alloc (.cells E.toArray 37)).alloc (.cells Z.toArray 25)) (w.heap.size + 1) 25 Z ∧ Below w.heap.size w ((w.alloc (.cells E.toArray 37)).alloc (.cells Z.toArray 25))) := lb_new2 w E Z _ _
 clear hD2 hL2 hE2 HCK0 HTH0 hZ hZR hb hT hnm hf hv h0 hku hlen
 go_enter Tryz.func55, Tryz.ntmps55
 go_wp2_with (first | (refine wpList_alloc_Z HZ.out rfl rfl ?_; (try simp only [heap_one])) | (refine wpList_load_mid rfl 37 _ rfl w.heap.size 0 rfl E _ HX.out.1.range Tryz.underlying37 rfl HL2.out ?_) | fail)
 refine (HCK.out _ HX.out.2.2).mono ?_
 rintro e w1 ⟨rfl, b1⟩
 have H1 : Hid (LB w1 w.heap.size 37 E ∧ LB w1 (w.heap.size + 1) 25 Z ∧ Below w.heap.size w w1) := ⟨HX.out.1.kept b1, HX.out.2.1.kept b1, andThen HX.out.2.2 b1⟩
 clear b1 HX HCK
 have r1 := H1.out.1.cell 1 (.int .i64 1) (by rw [HE2.out, ← hk]; rfl)
 go_wp2_with (first | (refine wpList_load_mid rfl 37 _ rfl w.heap.size 0 rfl E _ H1.out.1.range Tryz.underlying37 rfl HL2.out ?_) | fail)
 refine (HTH.out _ H1.out.2.2).mono ?_
 rintro e w2 ⟨a3, c3, rfl, bs2, b2⟩
 have H2 : Hid (LB w2 (w.heap.size + 1) 25 Z ∧ Bs w2 (.slice a3 u.l.length c3) u.l ∧ Below w.heap.size w w2) := ⟨H1.out.2.1.kept b2, bs2, andThen H1.out.2.2 b2⟩
 clear b2 bs2 H1 HTH r1 HL2 HE2
 obtain ⟨G, hG, hGL, hGE⟩ := rv_letter u.x u.nm (.slice a3 u.l.length c3)
 rw [hG]
 have HGL : Hid _ := hGL
 have HGE : Hid (G = rcE u.x u.nm (.slice a3 u.l.length c3)) := hGE
 have HG1 : Hid (∀ v ∈ G, v.oneCell' = true) := by show ∀ v ∈ G, _; rw [hGE]; exact rcE_one _ _ _ rfl
 have HGZ : Hid (G.length = ZR.length) := by show _ = _; rw [hGE, HZRL.out]; rfl
 have HTZ : Hid ((w2.alloc (.cells ZR.toArray 37)).there w2.heap.size 0 G.toArray.size) := there_of (lb_new w2 ZR _) (by simpa using HGZ.out)
 have H3 : Hid (∃ W3, W3 = (w2.alloc (.cells ZR.toArray 37)).setCells w2.heap.size 0 G ∧ LB W3 (w.heap.size + 1) 25 Z ∧ Bs W3 (.slice a3 u.l.length c3) u.l ∧ LB W3 w2.heap.size 37 G ∧ Below w.heap.size w W3) := by
  obtain ⟨q1, q2⟩ := one_boxR w2 37 ZR G HGZ.out
  exact ⟨_, rfl, H2.out.1.kept q2, H2.out.2.1.kept q2, q1, andThen H2.out.2.2 q2⟩
 have HGT : Hid (w.heap.size + 1 < w2.heap.size) := H2.out.1.lt
 clear hG hGL hGE H2
 go_wp2_with (first | (refine wpList_alloc_R HZR.out rfl rfl ?_) | (refine wpList_store_mid rfl 37 (.tmp 5) (.tmp 17) rfl w2.heap.size 0 G.toArray rfl rfl HTZ.out (by simpa using HGL.out) (all_oneCell_toArray HG1.out) ?_; (obtain ⟨W3, hW3, hq⟩ := H3.out); (have H4 : Hid _ := hq); (rw [List.toList_toArray, ← hW3]); (clear hW3 hq H3 HTZ)) | fail)
 generalize w2.heap.size = g at *
 have HCF : Hid (∀ w' : World, LB w' g 37 G → w'.cell? ⟨g, 2, none⟩ = some (.int .i64 u.x.s) ∧ w'.cell? ⟨g, 10, none⟩ = some (.string u.nm) ∧ w'.cell? ⟨g, 8, none⟩ = some (.int .i64 u.x.n) ∧ w'.cell? ⟨g, 9, none⟩ = some (.int .i64 u.x.i) ∧ w'.cell? ⟨g, 5, none⟩ = some (.int .i64 u.x.a) ∧ w'.cell? ⟨g, 11, none⟩ = some (.slice a3 u.l.length c3)) := fun w' L => ⟨L.cell 2 _ (by rw [HGE.out]; rfl), L.cell 10 _ (by rw [HGE.out]; rfl), L.cell 8 _ (by rw [HGE.out]; rfl), L.cell 9 _ (by rw [HGE.out]; rfl), L.cell 5 _ (by rw [HGE.out]; rfl), L.cell 11 _ (by rw [HGE.out]; rfl)⟩
 have H5 : Hid (LB W3.drew (w.heap.size + 1) 25 Z ∧ Bs W3.drew (.slice a3 u.l.length c3) u.l ∧ LB W3.drew g 37 G ∧ Below w.heap.size w W3.drew) := ⟨H4.out.1.kept (Below.drew (Below.refl _ _)), H4.out.2.1.kept (Below.drew (Below.refl _ _)), H4.out.2.2.1.kept (Below.drew (Below.refl _ _)), Below.drew H4.out.2.2.2⟩
 clear H4
 refine wp_region_held_drew (S := fun w' : World => w'.cell? ⟨g, 2, none⟩ = some (.int .i64 u.x.s) ∧ w'.cell? ⟨g, 10, none⟩ = some (.string u.nm) ∧ w'.cell? ⟨g, 8, none⟩ = some (.int .i64 u.x.n) ∧ w'.cell? ⟨g, 9, none⟩ = some (.int .i64 u.x.i) ∧ w'.cell? ⟨g, 5, none⟩ = some (.int .i64 u.x.a) ∧ w'.cell? ⟨g, 11, none⟩ = some (.slice a3 u.l.length c3)) (by kernel_rfl) (HCF.out _ H5.out.2.2.1) (fun hH => ?_)
 generalize W3.drew = V1 at *
 refine zqk 0 rfl hH ?_
 simp only [zq]
 refine zqk 1 rfl hH ?_
 simp only [zq]
 refine zqk 2 rfl hH ?_
 simp only [zq]
 refine zqk 3 rfl hH ?_
 simp only [zq]
 refine zqk 4 rfl hH ?_
 simp only [zq]
 refine zqk 5 rfl hH ?_
 simp only [zq]
 refine zqk 6 rfl hH ?_
 simp only [zq]
 refine zqk 7 rfl hH ?_
 simp only [zq]
 refine zqk 8 rfl hH ?_
 simp only [zq]
 refine zqk 9 rfl hH ?_
 simp only [zq]
 refine zqk 10 rfl hH ?_
 simp only [zq]
 refine zqk 11 rfl hH ?_
 simp only [zq]
 refine zqk 12 rfl hH ?_
 simp only [zq]
 refine zqk 13 rfl hH ?_
 simp only [zq]
 refine zqr 14 rfl (fun K hK => ?_)
 go_simp
 refine (HBY.out _ _ H5.out.2.1).mono ?_
 rintro e w4 ⟨a4, c4, rfl, o4, b4⟩
 have H6 : Hid (LB w4 (w.heap.size + 1) 25 Z ∧ LB w4 g 37 G ∧ Own (w.heap.size + 2) w4 (.slice a4 u.l.length c4) u.l ∧ Below w.heap.size w w4) := ⟨H5.out.1.kept b4, H5.out.2.2.1.kept b4, own_weak o4 (by have := H5.out.1.lt; omega), andThen H5.out.2.2.2 b4⟩
 refine hK.out _ _ (HCF.out _ H6.out.2.1) (fun hH2 => ?_)
 clear hK K hH
 have hH := hH2
 clear hH2
 clear b4 o4 H5
 obtain ⟨M, hM⟩ : ∃ M : List Value, [.int .i64 u.x.s, .string u.nm, .int .i64 u.x.n, .int .i64 u.x.i, .int .i64 u.x.a, .int .i64 u.x.a, .slice a4 u.l.length c4, .int .i64 1, .int .i64 0, .bool false, .int .i64 0, .slice none 0 0, .slice none 0 0, .int .i64 0, .int .i64 0, .slice none 0 0] = M := ⟨_, rfl⟩
 have HM : Hid (M = scl ⟨⟨u.x.s, u.x.n, u.x.i, u.x.a, u.x.a, 1, 0, false, 0, 0, 0⟩, u.nm, u.l, [], [], []⟩ ⟨a4, c4, none, 0, none, 0, none, 0⟩) := hM.symm
 have HMI : Hid ((Tryz.prog.info? 25).map (·.size) = some M.length) := by show _ = _; rw [HM.out]; exact infoSaga
 have HM1 : Hid (∀ v ∈ M, v.oneCell' = true) := by show ∀ v ∈ M, _; rw [HM.out]; exact scl_one _ _
 have HMZ : Hid (M.length = Z.length) := by show _ = _; rw [HM.out, HZL.out]; rfl
 refine zqk 15 rfl hH ?_
 simp only [zq]
 refine zqr 16 rfl (fun K hK => ?_)
 refine step_storeX rfl 25 (.tmp 2) (.tmp 33) rfl (w.heap.size + 1) 0 M.toArray rfl rfl (there_of H6.out.1 (by simpa using HMZ.out)) (by simpa using HMI.out) (all_oneCell_toArray HM1.out) ?_
 rw [List.toList_toArray]
 have HLG : Hid (LB (w4.setCells (w.heap.size + 1) 0 M) g 37 G) := H6.out.2.1.others _ _ _ (by have := HGT.out; omega)
 refine hK.out _ _ (HCF.out _ HLG.out) (fun hH2 => ?_)
 clear hK K hH
 have hH := hH2
 clear hH2
 refine zqk 17 rfl hH ?_
 simp only [zq]
 refine wpAnyH_done (by kernel_rfl) ?_ _
 clear hH hM
 go_wp2
 have HR9 : Hid ((w4.setCells (w.heap.size + 1) 0 M).rangeAt (w.heap.size + 1) 0 M) := (H6.out.1.sets M HMZ.out).range
 refine bodyPost_ret (results_cell_slot (p := 2) (s := 3) (ty := 25) rfl _ (w4.setCells (w.heap.size + 1) 0 M) (w.heap.size + 1) M _ rfl HR9.out Tryz.underlying25 rfl HMI.out) rfl ?_
 exact ⟨⟨a4, c4, none, 0, none, 0, none, 0⟩, by rw [HM.out]; rfl, ⟨own_weak (own_at H6.out.2.2.1 (w.heap.size + 1) 0 M (by omega)) (by omega), ownP_nil _ _, ownP_nil _ _, Own.nil _ _, fun g e => by simp [Value.ownBlock] at e⟩, below_cells (by omega) _ 0 _ H6.out.2.2.2⟩
theorem rxbegin_bad (r : Rec) (d : Value) (w : World) (hb : Bs w d r.l) (hT : Tabs w) (hnm : r.nm.size ≤ 1048576) (hf : r.x.fit) (h0 : (upP 3 r).1 ≠ 0 ∨ r.x.k ≠ 1) : Calls Tryz.prog 55 #[rv r.x r.nm d] w fun e w' => AxPost w (if (upP 3 r).1 ≠ 0 then (upP 3 r).1 else 102, zSg) e w' := by
 have HCK0 : ∀ w', Below w.heap.size w w' → Calls Tryz.prog 75 #[rv r.x r.nm d] w' fun e w'' => e = .returned (.int .i64 (upP 3 r).1) ∧ Below w'.heap.size w' w'' := fun w' hb' => by
  have e := refcheck_any r.x r.nm d r.l w' (hb.kept hb') (hT.kept hb').rlets (hT.kept hb').rows hf.c (by omega)
  rw [← up_err] at e
  exact e
 obtain ⟨z, hz⟩ : ∃ z, (upP 3 r).1 = z := ⟨_, rfl⟩
 rw [hz] at HCK0 h0 ⊢
 obtain ⟨y, hy⟩ : ∃ y : Int, (if z ≠ 0 then z else 102) = y := ⟨_, rfl⟩
 have HY : Hid ((if z ≠ 0 then z else 102) = y) := hy
 rw [hy]
 obtain ⟨Z, hZ⟩ : ∃ Z, Z = zcl := ⟨_, rfl⟩
 have HZ : Hid (Z = zcl) := hZ
 have HZI : Hid ((Tryz.prog.info? 25).map (·.size) = some Z.length) := by show _ = _; rw [hZ]; exact infoSaga
 have HZ1 : Hid (∀ v ∈ Z, v.oneCell' = true) := by show ∀ v ∈ Z, _; rw [hZ]; exact scl_one zSg ⟨none, 0, none, 0, none, 0, none, 0⟩
 obtain ⟨E, hD2, hL2, hE2⟩ := rv_letter r.x r.nm d
 rw [hD2] at HCK0 ⊢
 have HCK : Hid _ := HCK0
 have HL2 : Hid _ := hL2
 have HE2 : Hid (E = rcE r.x r.nm d) := hE2
 have HX : Hid (LB ((w.alloc (.cells E.toArray 37)).alloc (.cells Z.toArray 25)) w.heap.size 37 E ∧ LB ((w.alloc (.cells E.toArray 37)).alloc (.cells Z.toArray 25)) (w.heap.size + 1) 25 Z ∧ Below w.heap.size w ((w.alloc (.cells E.toArray 37)).alloc (.cells Z.toArray 25))) := lb_new2 w E Z _ _
 have H0 : Hid (z ≠ 0 ∨ r.x.k ≠ 1) := h0
 clear hD2 hL2 hE2 HCK0 hZ hb hT hnm hf hz hy h0
 go_enter Tryz.func55, Tryz.ntmps55
 go_wp2_with (first | (refine wpList_alloc_Z HZ.out rfl rfl ?_; (try simp only [heap_one])) | (refine wpList_load_mid rfl 37 _ rfl w.heap.size 0 rfl E _ HX.out.1.range Tryz.underlying37 rfl HL2.out ?_) | fail)
 refine (HCK.out _ HX.out.2.2).mono ?_
 rintro e w1 ⟨rfl, b1⟩
 have H1 : Hid (LB w1 w.heap.size 37 E ∧ LB w1 (w.heap.size + 1) 25 Z ∧ Below w.heap.size w w1) := ⟨HX.out.1.kept b1, HX.out.2.1.kept b1, andThen HX.out.2.2 b1⟩
 clear b1 HX HCK
 have r1 := H1.out.1.cell 1 (.int .i64 r.x.k) (by rw [HE2.out]; rfl)
 cases hz0 : (z != 0) with
 | true =>
  have hAe : y = z := by rw [← HY.out, if_pos (by simpa using hz0)]
  subst hAe
  go_wp2_with (first | (refine wpList_build_Z HZ.out rfl rfl ?_) | (refine wpList_store_mid rfl 25 (.tmp 2) (.tmp 10) rfl (w.heap.size + 1) 0 Z.toArray rfl rfl (there_of H1.out.2.1 (by simp)) (by simpa using HZI.out) (all_oneCell_toArray HZ1.out) ?_; (rw [List.toList_toArray])) | fail)
  have HR9 : Hid ((w1.setCells (w.heap.size + 1) 0 Z).rangeAt (w.heap.size + 1) 0 Z) := (H1.out.2.1.sets Z rfl).range
  refine bodyPost_ret (results_cell_slot (p := 2) (s := 3) (ty := 25) rfl _ (w1.setCells (w.heap.size + 1) 0 Z) (w.heap.size + 1) Z _ rfl HR9.out Tryz.underlying25 rfl HZI.out) rfl ?_
  exact ⟨⟨none, 0, none, 0, none, 0, none, 0⟩, by rw [HZ.out]; rfl, sgown_zero _ _, below_cells (by omega) _ 0 _ H1.out.2.2⟩
 | false =>
  have e0 : z = 0 := by simpa using hz0
  have hAe : 102 = y := by rw [← HY.out, if_neg (by simpa using e0)]
  subst hAe
  have hk : (r.x.k != 1) = true := by rw [bne_iff_ne]; exact H0.out.resolve_left (fun h => h e0)
  go_wp2_with (first | (refine wpList_build_Z HZ.out rfl rfl ?_) | (refine wpList_store_mid rfl 25 (.tmp 2) (.tmp 15) rfl (w.heap.size + 1) 0 Z.toArray rfl rfl (there_of H1.out.2.1 (by simp)) (by simpa using HZI.out) (all_oneCell_toArray HZ1.out) ?_; (rw [List.toList_toArray])) | fail)
  have HR9 : Hid ((w1.setCells (w.heap.size + 1) 0 Z).rangeAt (w.heap.size + 1) 0 Z) := (H1.out.2.1.sets Z rfl).range
  refine bodyPost_ret (results_cell_slot (p := 2) (s := 3) (ty := 25) rfl _ (w1.setCells (w.heap.size + 1) 0 Z) (w.heap.size + 1) Z _ rfl HR9.out Tryz.underlying25 rfl HZI.out) rfl ?_
  exact ⟨⟨none, 0, none, 0, none, 0, none, 0⟩, by rw [HZ.out]; rfl, sgown_zero _ _, below_cells (by omega) _ 0 _ H1.out.2.2⟩
theorem rxbegin_any (r : Rec) (d : Value) (w : World) (hb : Bs w d r.l) (hT : Tabs w) (hnm : r.nm.size ≤ 1048576) (hf : r.x.fit) : Calls Tryz.prog 55 #[rv r.x r.nm d] w fun e w' => AxPost w (beginP r) e w' := by
 by_cases h0 : (upP 3 r).1 = 0
 ·obtain ⟨hv, _, hk, _⟩ := up3 r hb.good h0
  by_cases h1 : r.x.k = 1
  ·have e : beginP r = (0, ⟨⟨(upP 3 r).2.x.s, (upP 3 r).2.x.n, (upP 3 r).2.x.i, (upP 3 r).2.x.a, (upP 3 r).2.x.a, 1, 0, false, 0, 0, 0⟩, (upP 3 r).2.nm, (upP 3 r).2.l, [], [], []⟩) := by
    unfold beginP
    rw [if_neg (by simpa using h0), if_neg (by rw [hk]; simpa using h1)]
   rw [e]
   exact rxbegin_good r (upP 3 r).2 d w hb hT hnm hf (by rw [← h0]) hv h1 (by rw [hk]; exact h1)
  ·have e : beginP r = (if (upP 3 r).1 ≠ 0 then (upP 3 r).1 else 102, zSg) := by
    unfold beginP
    rw [if_neg (by simpa using h0), if_pos (by rw [hk]; exact h1), if_neg (by simpa using h0)]
   rw [e]
   exact rxbegin_bad r d w hb hT hnm hf (Or.inr h1)
 ·have e : beginP r = (if (upP 3 r).1 ≠ 0 then (upP 3 r).1 else 102, zSg) := by
   unfold beginP
   rw [if_pos h0, if_pos h0]
  rw [e]
  exact rxbegin_bad r d w hb hT hnm hf (Or.inl h0)
end Go.Proofs.YtabdfafffjgfiaaGreatDoor
