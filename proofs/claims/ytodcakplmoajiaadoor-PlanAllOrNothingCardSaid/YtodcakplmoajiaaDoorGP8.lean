import Derived.Test.YtodcakplmoajiaaDoorGP7
set_option maxRecDepth 100000
set_option maxHeartbeats 4000000
namespace Go.Proofs.YtodcakplmoajiaaDoor
open Go Go.RowKit
open Wb

theorem pnext_no (p : Pln) (v : Value) (S : Sg) (h : SH) (w : World) (a : PA w p v S h) (hf : fitP p S ≠ 0) : Calls Tryd.prog 6 #[plv p v, sv S h] w fun e w' => e = .returned (.tuple #[.agg #[.int .i64 0, .int .i64 0, .int .i64 0, .int .i64 0, .string ⟨#[]⟩], .int .i64 (fitP p S)]) ∧ Below w.heap.size w w' := by
 have HFI0 : ∀ w', Below w.heap.size w w' → Calls Tryd.prog 16 #[plv p v, sv S h] w' fun e w'' => e = .returned (.int .i64 (fitP p S)) ∧ Below w'.heap.size w' w'' := fun w' hb => pfit_any p v S h w' (a.kept hb)
 have hE2 : (fitP p S != 0) = true := by simpa using hf
 generalize fitP p S = E at *
 clear a hf
 obtain ⟨C, hC, hM, hG⟩ := plv_letter p v
 obtain ⟨D, hD, hL, hE⟩ := sv_letter S h
 rw [hC, hD]
 try rw [hC] at HFI0
 try rw [hD] at HFI0
 have HFI : Hid _ := HFI0
 have HM : Hid _ := hM
 have HG : Hid (C = plvl p v) := hG
 have HL : Hid _ := hL
 have HE : Hid (D = scl S h) := hE
 clear hC hM hG hD hL hE HFI0
 have HXW : Hid (∀ W, W = (((w.alloc (.cells C.toArray 24)).alloc (.cells D.toArray 28)).alloc (.cells #[.int .i64 0, .int .i64 0, .int .i64 0, .int .i64 0, .string ⟨#[]⟩] 31)) → LB W w.heap.size 24 C ∧ LB W (w.heap.size + 1) 28 D ∧ Below w.heap.size w W ∧ LB W (w.heap.size + 1 + 1) 31 [.int .i64 0, .int .i64 0, .int .i64 0, .int .i64 0, .string ⟨#[]⟩]) := fun W hW => by
  obtain ⟨q1, q2, q3, q4⟩ := lb_new3 w C D [.int .i64 0, .int .i64 0, .int .i64 0, .int .i64 0, .string ⟨#[]⟩] 24 28 31
  subst hW
  exact ⟨q1, q2, q4, q3⟩
 go_enter Tryd.func6, Tryd.ntmps6
 go_upto_region 1 with fail
 obtain ⟨W, eW⟩ : ∃ W, W = (((w.alloc (.cells C.toArray 24)).alloc (.cells D.toArray 28)).alloc (.cells #[.int .i64 0, .int .i64 0, .int .i64 0, .int .i64 0, .string ⟨#[]⟩] 31)) := ⟨_, rfl⟩
 rw [← eW]
 have H0 : Hid (LB W w.heap.size 24 C ∧ LB W (w.heap.size + 1) 28 D ∧ Below w.heap.size w W ∧ LB W (w.heap.size + 1 + 1) 31 [.int .i64 0, .int .i64 0, .int .i64 0, .int .i64 0, .string ⟨#[]⟩]) := HXW.out W eW
 clear eW HXW
 generalize hg3 : w.heap.size + 1 + 1 = g3 at *
 have HG3 : Hid (w.heap.size ≤ g3) := by show _ ≤ _; omega
 clear hg3
 go_wp2_with (first | (refine wpList_load_mid rfl 24 _ rfl w.heap.size 0 rfl C _ H0.out.1.range Tryd.underlying24 rfl HM.out ?_) | (refine wpList_load_mid rfl 28 _ rfl (w.heap.size + 1) 0 rfl D _ H0.out.2.1.range Tryd.underlying28 rfl HL.out ?_) | (refine wpList_load_midG rfl 24 _ rfl w.heap.size 0 rfl C _ H0.out.1.range Tryd.underlying24 rfl HM.out ?_) | (refine wpList_load_midG rfl 28 _ rfl (w.heap.size + 1) 0 rfl D _ H0.out.2.1.range Tryd.underlying28 rfl HL.out ?_) | fail)
 refine (HFI.out _ H0.out.2.2.1).mono ?_
 rintro e w1 ⟨rfl, b1⟩
 have H1 : Hid (Below w.heap.size w w1 ∧ LB w1 g3 31 [.int .i64 0, .int .i64 0, .int .i64 0, .int .i64 0, .string ⟨#[]⟩]) := ⟨andThen H0.out.2.2.1 b1, H0.out.2.2.2.kept b1⟩
 clear b1 H0 HFI
 have x0 := H1.out.2.cell 0 _ rfl
 have x1 := H1.out.2.cell 1 _ rfl
 have x2 := H1.out.2.cell 2 _ rfl
 have x3 := H1.out.2.cell 3 _ rfl
 have x4 := H1.out.2.cell 4 _ rfl
 have xf : ∀ j : Nat, w1.frozen? ⟨g3, j, none⟩ = false := fun j => H1.out.2.free j
 have HR : Hid (∀ Y, Y = ((((w1.setCell ⟨g3, 0, none⟩ (.int .i64 0)).setCell ⟨g3, 1, none⟩ (.int .i64 0)).setCell ⟨g3, 2, none⟩ (.int .i64 0)).setCell ⟨g3, 3, none⟩ (.int .i64 0)).setCell ⟨g3, 4, none⟩ (.string ⟨#[]⟩) → LB Y g3 31 [.int .i64 0, .int .i64 0, .int .i64 0, .int .i64 0, .string ⟨#[]⟩] ∧ Below w.heap.size w Y) := fun Y hY => by rw [hY]; exact ⟨lb_five H1.out.2 _ _ _ _ _, below_five H1.out.1 HG3.out _ _ _ _ _⟩
 go_wp2_with fail
 refine bodyPost_ret (results_cell_slot (p := 4) (s := 5) (ty := 31) rfl _ _ g3 [.int .i64 0, .int .i64 0, .int .i64 0, .int .i64 0, .string ⟨#[]⟩] _ rfl (HR.out _ rfl).1.range Tryd.underlying31 rfl infoAct) rfl ?_
 exact ⟨rfl, (HR.out _ rfl).2⟩
def handL (S : Sg) : List Nat := if S.x.nx = 0 then S.inp else (S.outs[(S.x.nx - 1).toNat]?).getD []
theorem hand_len {S : Sg} (hc : chkS S = true) : (handL S).length ≤ 16384 ∧ (S.x.nx ≠ 0 → 0 ≤ S.x.nx - 1 ∧ (S.x.nx - 1).toNat < S.outs.length ∧ S.x.nx ≤ 32) := by
 obtain ⟨⟨_, _, b3, _, _, _, _, b8, _, b10, _⟩, hG⟩ := (chkS_iff S).1 hc
 have hi : S.x.nx ≠ 0 → 0 ≤ S.x.nx - 1 ∧ (S.x.nx - 1).toNat < S.outs.length ∧ S.x.nx ≤ 32 := by
  intro hn
  rcases hG with ⟨g, _, _, _, _, c5, c6, c7, _⟩ | ⟨g, _, _, _, _, c5, c6, _⟩ | ⟨g, c1, c2, _, c4, c5, _⟩ | ⟨g, c0, c1, c2, _, c4, c5, _⟩
  all_goals omega
 refine ⟨?_, hi⟩
 unfold handL
 split
 ·exact b8
 ·rename_i hn
  rw [List.getElem?_eq_getElem (hi hn).2.1]
  simp [shortP] at b10
  exact b10 _ (List.getElem_mem _)
theorem phanded_any (S : Sg) (h : SH) (w : World) (k : SgAt w S h) (hc : chkS S = true) : Calls Tryd.prog 30 #[sv S h] w fun e w' => ∃ d, e = .returned d ∧ Bs w' d (handL S) ∧ Below w.heap.size w w' := by
 obtain ⟨-, hi⟩ := hand_len hc
 obtain ⟨D, hD, -, hE⟩ := sv_letter S h
 rw [hD]
 have HX : Hid (Below w.heap.size w (w.alloc (.cells D.toArray 28))) := up0 _ _
 have HK : Hid (SgAt (w.alloc (.cells D.toArray 28)) S h) := k.kept (up0 _ _)
 have c6 := (lb_new w D 28).cell 6 (.slice h.ai S.inp.length h.ci) (by rw [hE]; rfl)
 have c8 := (lb_new w D 28).cell 8 (.int .i64 S.x.nx) (by rw [hE]; rfl)
 have c11 := (lb_new w D 28).cell 11 (.slice h.ao S.outs.length h.co) (by rw [hE]; rfl)
 clear hD hE k hc
 by_cases h0 : S.x.nx = 0
 ·have e0 : (S.x.nx == 0) = true := by rw [h0]; rfl
  have HR : Hid (handL S = S.inp) := by show _ = _; unfold handL; rw [if_pos h0]
  rw [HR.out]
  clear hi h0
  go_enter Tryd.func30, Tryd.ntmps30
  go_wp2_with fail
  go_ret
  exact ⟨_, rfl, HK.out.inp, HX.out⟩
 ·obtain ⟨q1, q2, q3⟩ := hi h0
  have e0 : (S.x.nx == 0) = false := by rw [beq_eq_false_iff_ne]; exact h0
  obtain ⟨i, hin⟩ : ∃ i : Nat, S.x.nx - 1 = (i : Int) := ⟨(S.x.nx - 1).toNat, by omega⟩
  have hil : i < S.outs.length := by omega
  have HR : Hid (handL S = S.outs[i]) := by show _ = _; unfold handL; rw [if_neg h0, hin]; simp [hil]
  rw [HR.out]
  have hw1 : IntKind.wrap .i64 (S.x.nx - 1) = (i : Int) := by rw [hin]; exact IntWalk.i64_in _ (by omega)
  obtain ⟨ao, cap, e1, hm, hps⟩ := HK.out.outs.shape
  simp only [Value.slice.injEq, true_and] at e1
  obtain ⟨e1, e2⟩ := e1
  obtain ⟨b, off, hb, hcell⟩ := hps (List.ne_nil_of_length_pos (by omega))
  obtain ⟨vj, hvj, hbs⟩ := hcell i hil
  rw [e1, hb] at c11
  obtain ⟨aj, cj, ej, -⟩ := hbs.shape
  rw [ej] at hvj hbs
  have HB : Hid (Bs (w.alloc (.cells D.toArray 28)) (.slice aj S.outs[i].length cj) S.outs[i]) := hbs
  have hi1 : (0 : Int) ≤ (i : Int) := by omega
  have hi2 : (i : Int) < (S.outs.length : Int) := by omega
  have hmx : S.outs.length ≤ 9223372036854775807 := hm
  clear hi h0 q1 q2 hin hps hcell hbs hb e1 e2 ej hm
  generalize S.x.nx = nx at *
  go_enter Tryd.func30, Tryd.ntmps30
  go_wp2_with fail
  go_ret
  exact ⟨_, rfl, HB.out, HX.out⟩
theorem flight_deed {S : Sg} (hc : chkS S = true) (hl : S.x.fl = true) : (deedK S.x = 2 ∧ S.x.ph = 1) ∨ (deedK S.x = 4 ∧ S.x.ph = 2) := by
 obtain ⟨_, hG⟩ := (chkS_iff S).1 hc
 rcases hG with ⟨g, _⟩ | ⟨g, _, _, _, _, _, _, c7, _⟩ | ⟨g, _⟩ | ⟨g, c0, _, _, _, _, _, _, c7, _⟩
 ·exact .inl ⟨by simp [deedK, g, hl], g⟩
 ·rw [hl] at c7; cases c7
 ·exact .inr ⟨by simp [deedK, g, hl], g⟩
 ·have := (c7 c0).1; rw [hl] at this; cases this
theorem flightP_ok {p : Pln} {S : Sg} (hf : fitP p S = 0) (hl : S.x.fl = true) : flightP p S = 0 := by
 unfold flightP
 rw [if_neg (by simpa using hf), if_neg (by rw [hl]; decide)]
theorem infoCall : (Tryd.prog.info? 64).map (·.size) = some 6 := by kernel_rfl
theorem lb_six {w : World} {g : Nat} {t : TypeId} {b0 b1 b2 b3 b4 b5 : Value} (h : LB w g t [b0, b1, b2, b3, b4, b5]) (a0 a1 a2 a3 a4 a5 : Value) : LB ((((((w.setCell ⟨g, 0, none⟩ a0).setCell ⟨g, 1, none⟩ a1).setCell ⟨g, 2, none⟩ a2).setCell ⟨g, 3, none⟩ a3).setCell ⟨g, 4, none⟩ a4).setCell ⟨g, 5, none⟩ a5) g t [a0, a1, a2, a3, a4, a5] := (((((h.set 0 a0).set 1 a1).set 2 a2).set 3 a3).set 4 a4).set 5 a5
def askl (S : Sg) (N : ByteArray) (d : Value) : List Value := [.int .i64 S.x.id, .int .i64 S.x.turn, .bool (S.x.ph == 2), .int .i64 S.x.tr, .string N, d]
theorem pask_any (p : Pln) (v : Value) (S : Sg) (h : SH) (w : World) (a : PA w p v S h) (hf : fitP p S = 0) (hl : S.x.fl = true) : Calls Tryd.prog 21 #[plv p v, sv S h] w fun e w' => ∃ d, e = .returned (.tuple #[.agg (askl S (nameT p S) d).toArray, .int .i64 0]) ∧ d.oneCell' = true ∧ Below w.heap.size w w' := by
 have hc := (pfits_iff hf).2.1
 have HFI0 : ∀ w', Below w.heap.size w w' → Calls Tryd.prog 28 #[plv p v, sv S h] w' fun e w'' => e = .returned (.int .i64 0) ∧ Below w'.heap.size w' w'' := fun w' hb => by have e := pflight_any p v S h w' (a.kept hb); rw [flightP_ok hf hl] at e; exact e
 have HOT0 : ∀ w', Below w.heap.size w w' → Calls Tryd.prog 18 #[plv p v, sv S h] w' fun e w'' => e = .returned (.tuple #[.int .i64 S.x.turn, .string (nameT p S)]) ∧ Below w'.heap.size w' w'' := fun w' hb => ponturn_any p v S h w' (a.s.kept hb) hf (by rcases flight_deed hc hl with ⟨e, _⟩ | ⟨e, _⟩ <;> rw [e] <;> decide)
 have HHA0 : ∀ w', Below w.heap.size w w' → Calls Tryd.prog 30 #[sv S h] w' fun e w'' => ∃ d, e = .returned d ∧ Bs w'' d (handL S) ∧ Below w'.heap.size w' w'' := fun w' hb => phanded_any S h w' (a.kept hb).k hc
 have HCL : Hid (∀ (d : Value) w', Bs w' d (handL S) → Calls Tryd.prog 29 #[d] w' fun e w'' => ∃ d', e = .returned d' ∧ Own w'.heap.size w'' d' (handL S) ∧ Below w'.heap.size w' w'') := fun d w' hb => bclone_any d _ w' hb (by have := (hand_len hc).1; omega)
 have HAK : Hid (∀ d, askl S (nameT p S) d = [.int .i64 S.x.id, .int .i64 S.x.turn, .bool (S.x.ph == 2), .int .i64 S.x.tr, .string (nameT p S), d]) := fun d => rfl
 generalize nameT p S = N at *
 generalize S.x.turn = U at *
 clear a hf hc hl
 obtain ⟨C, hC, hM, hG⟩ := plv_letter p v
 obtain ⟨D, hD, hL, hE⟩ := sv_letter S h
 rw [hC, hD]
 try rw [hC] at HFI0
 try rw [hD] at HFI0
 try rw [hC] at HOT0
 try rw [hD] at HOT0
 try rw [hC] at HHA0
 try rw [hD] at HHA0
 have HFI : Hid _ := HFI0
 have HOT : Hid _ := HOT0
 have HHA : Hid _ := HHA0
 have HM : Hid _ := hM
 have HG : Hid (C = plvl p v) := hG
 have HL : Hid _ := hL
 have HE : Hid (D = scl S h) := hE
 clear hC hM hG hD hL hE HFI0 HOT0 HHA0
 have HXW : Hid (∀ W, W = (((w.alloc (.cells C.toArray 24)).alloc (.cells D.toArray 28)).alloc (.cells #[.int .i64 0, .int .i64 0, .bool false, .int .i64 0, .string ⟨#[]⟩, .slice none 0 0] 64)) → LB W w.heap.size 24 C ∧ LB W (w.heap.size + 1) 28 D ∧ Below w.heap.size w W ∧ LB W (w.heap.size + 1 + 1) 64 [.int .i64 0, .int .i64 0, .bool false, .int .i64 0, .string ⟨#[]⟩, .slice none 0 0]) := fun W hW => by
  obtain ⟨q1, q2, q3, q4⟩ := lb_new3 w C D [.int .i64 0, .int .i64 0, .bool false, .int .i64 0, .string ⟨#[]⟩, .slice none 0 0] 24 28 64
  subst hW
  exact ⟨q1, q2, q4, q3⟩
 go_enter Tryd.func21, Tryd.ntmps21
 go_upto_region 1 with fail
 obtain ⟨W, eW⟩ : ∃ W, W = (((w.alloc (.cells C.toArray 24)).alloc (.cells D.toArray 28)).alloc (.cells #[.int .i64 0, .int .i64 0, .bool false, .int .i64 0, .string ⟨#[]⟩, .slice none 0 0] 64)) := ⟨_, rfl⟩
 rw [← eW]
 have H0 : Hid (LB W w.heap.size 24 C ∧ LB W (w.heap.size + 1) 28 D ∧ Below w.heap.size w W ∧ LB W (w.heap.size + 1 + 1) 64 [.int .i64 0, .int .i64 0, .bool false, .int .i64 0, .string ⟨#[]⟩, .slice none 0 0]) := HXW.out W eW
 clear eW HXW
 generalize hg3 : w.heap.size + 1 + 1 = g3 at *
 have HG3 : Hid (w.heap.size ≤ g3) := by show _ ≤ _; omega
 clear hg3
 go_wp2_with (first | (refine wpList_load_mid rfl 24 _ rfl w.heap.size 0 rfl C _ H0.out.1.range Tryd.underlying24 rfl HM.out ?_) | (refine wpList_load_mid rfl 28 _ rfl (w.heap.size + 1) 0 rfl D _ H0.out.2.1.range Tryd.underlying28 rfl HL.out ?_) | (refine wpList_load_midG rfl 24 _ rfl w.heap.size 0 rfl C _ H0.out.1.range Tryd.underlying24 rfl HM.out ?_) | (refine wpList_load_midG rfl 28 _ rfl (w.heap.size + 1) 0 rfl D _ H0.out.2.1.range Tryd.underlying28 rfl HL.out ?_) | fail)
 refine (HFI.out _ H0.out.2.2.1).mono ?_
 rintro e w1 ⟨rfl, b1⟩
 have H1 : Hid (LB w1 w.heap.size 24 C ∧ LB w1 (w.heap.size + 1) 28 D ∧ Below w.heap.size w w1 ∧ LB w1 g3 64 [.int .i64 0, .int .i64 0, .bool false, .int .i64 0, .string ⟨#[]⟩, .slice none 0 0]) := ⟨H0.out.1.kept b1, H0.out.2.1.kept b1, andThen H0.out.2.2.1 b1, H0.out.2.2.2.kept b1⟩
 clear b1 H0 HFI
 go_wp2_with (first | (refine wpList_load_mid rfl 24 _ rfl w.heap.size 0 rfl C _ H1.out.1.range Tryd.underlying24 rfl HM.out ?_) | (refine wpList_load_mid rfl 28 _ rfl (w.heap.size + 1) 0 rfl D _ H1.out.2.1.range Tryd.underlying28 rfl HL.out ?_) | (refine wpList_load_midG rfl 24 _ rfl w.heap.size 0 rfl C _ H1.out.1.range Tryd.underlying24 rfl HM.out ?_) | (refine wpList_load_midG rfl 28 _ rfl (w.heap.size + 1) 0 rfl D _ H1.out.2.1.range Tryd.underlying28 rfl HL.out ?_) | fail)
 refine (HOT.out _ H1.out.2.2.1).mono ?_
 rintro e w2 ⟨rfl, b2⟩
 have H2 : Hid (LB w2 w.heap.size 24 C ∧ LB w2 (w.heap.size + 1) 28 D ∧ Below w.heap.size w w2 ∧ LB w2 g3 64 [.int .i64 0, .int .i64 0, .bool false, .int .i64 0, .string ⟨#[]⟩, .slice none 0 0]) := ⟨H1.out.1.kept b2, H1.out.2.1.kept b2, andThen H1.out.2.2.1 b2, H1.out.2.2.2.kept b2⟩
 clear b2 H1 HOT
 go_upto_region 5 with fail
 have HSW : Hid (∀ W, LB W (w.heap.size + 1) 28 D → W.rangeAt (w.heap.size + 1) 0 D ∧ W.cell? ⟨w.heap.size + 1, 0, none⟩ = some (.int .i64 S.x.id) ∧ W.cell? ⟨w.heap.size + 1, 7, none⟩ = some (.int .i64 S.x.ph) ∧ W.cell? ⟨w.heap.size + 1, 10, none⟩ = some (.int .i64 S.x.tr)) := fun W l => ⟨l.range, l.cell 0 _ (by rw [HE.out]; rfl), l.cell 7 _ (by rw [HE.out]; rfl), l.cell 10 _ (by rw [HE.out]; rfl)⟩
 refine wp_region_held_drew (S := (fun w' => w'.rangeAt (w.heap.size + 1) 0 D ∧ w'.cell? ⟨w.heap.size + 1, 0, none⟩ = some (.int .i64 S.x.id) ∧ w'.cell? ⟨w.heap.size + 1, 7, none⟩ = some (.int .i64 S.x.ph) ∧ w'.cell? ⟨w.heap.size + 1, 10, none⟩ = some (.int .i64 S.x.tr))) (by kernel_rfl) ?_ (fun hH => ?_)
 ·exact HSW.out _ H2.out.2.1
 refine zqk 0 rfl hH ?_
 simp only [zq]
 refine zqk 1 rfl hH ?_
 simp only [zq]
 refine zqk 2 rfl hH ?_
 simp only [zq]
 refine zqk 3 rfl hH ?_
 simp only [zq]
 refine zqk 4 rfl hH ?_
 simp only [zq]
 refine zqk 5 rfl hH ?_
 simp only [zq]
 refine zqk 6 rfl hH ?_
 simp only [zq]
 refine zqk 7 rfl hH ?_
 simp only [zq]
 refine zqk 8 rfl hH ?_
 simp only [zq]
 refine zql 9 rfl (yieldsIf_load_mid (by rfl) _ _ rfl _ _ rfl D _ (fun w' hSw => hSw.1) Tryd.underlying28 rfl HL.out) hH ?_
 simp only [zq]
 refine zqr 10 rfl (fun K hK => ?_)
 go_simp
 refine (HHA.out _ H2.out.2.2.1.drew).mono ?_
 rintro e w3 ⟨d3, rfl, o3, b3⟩
 have H3 : Hid ((LB w3 w.heap.size 24 C ∧ LB w3 (w.heap.size + 1) 28 D ∧ Below w.heap.size w w3 ∧ LB w3 g3 64 [.int .i64 0, .int .i64 0, .bool false, .int .i64 0, .string ⟨#[]⟩, .slice none 0 0]) ∧ Bs w3 d3 (handL S)) := ⟨⟨LB.kept (w := w2.drew) H2.out.1 b3, LB.kept (w := w2.drew) H2.out.2.1 b3, andThen H2.out.2.2.1.drew b3, LB.kept (w := w2.drew) H2.out.2.2.2 b3⟩, o3⟩
 clear b3 o3 H2 HHA
 refine hK.out _ _ ?_ (fun hH2 => ?_)
 ·exact HSW.out _ H3.out.1.2.1
 clear hK K hH
 have hH := hH2
 clear hH2
 refine zqr 11 rfl (fun K hK => ?_)
 go_simp
 refine (HCL.out d3 _ H3.out.2).mono ?_
 rintro e w4 ⟨d4, rfl, o4, b4⟩
 obtain ⟨a4, c4, e4, -⟩ := o4.bs.shape
 subst e4
 have H4 : Hid (LB w4 w.heap.size 24 C ∧ LB w4 (w.heap.size + 1) 28 D ∧ Below w.heap.size w w4 ∧ LB w4 g3 64 [.int .i64 0, .int .i64 0, .bool false, .int .i64 0, .string ⟨#[]⟩, .slice none 0 0]) := ⟨H3.out.1.1.kept b4, H3.out.1.2.1.kept b4, andThen H3.out.1.2.2.1 b4, H3.out.1.2.2.2.kept b4⟩
 clear b4 o4 H3 HCL
 generalize (handL S).length = n4 at *
 refine hK.out _ _ ?_ (fun hH2 => ?_)
 ·exact HSW.out _ H4.out.2.1
 clear hK K hH
 have hH := hH2
 clear hH2
 refine zqk 12 rfl hH ?_
 simp only [zq]
 have x0 := H4.out.2.2.2.cell 0 _ rfl
 have x1 := H4.out.2.2.2.cell 1 _ rfl
 have x2 := H4.out.2.2.2.cell 2 _ rfl
 have x3 := H4.out.2.2.2.cell 3 _ rfl
 have x4 := H4.out.2.2.2.cell 4 _ rfl
 have x5 := H4.out.2.2.2.cell 5 _ rfl
 have xf : ∀ j : Nat, w4.frozen? ⟨g3, j, none⟩ = false := fun j => H4.out.2.2.2.free j
 refine wpAnyH_ready (rs := [13]) (by kernel_rfl) (by simp) ?_
 refine AllReadyH.cons rfl (fun K' hK => ?_) AllReadyH.nil
 go_simp
 clear x0 x1 x2 x3 x4 x5 xf
 have HR : Hid (∀ Y, Y = (((((w4.setCell ⟨g3, 0, none⟩ (.int .i64 S.x.id)).setCell ⟨g3, 1, none⟩ (.int .i64 U)).setCell ⟨g3, 2, none⟩ (.bool (S.x.ph == 2))).setCell ⟨g3, 3, none⟩ (.int .i64 S.x.tr)).setCell ⟨g3, 4, none⟩ (.string N)).setCell ⟨g3, 5, none⟩ (.slice a4 n4 c4) → LB Y g3 64 (askl S N (.slice a4 n4 c4)) ∧ Below w.heap.size w Y ∧ LB Y (w.heap.size + 1) 28 D) := fun Y hY => by
  rw [hY, HAK.out]
  have n2 := lb_ne H4.out.2.1 H4.out.2.2.2 (by decide)
  exact ⟨lb_six H4.out.2.2.2 _ _ _ _ _ _, (((((H4.out.2.2.1.setCell HG3.out _).setCell HG3.out _).setCell HG3.out _).setCell HG3.out _).setCell HG3.out _).setCell HG3.out _, (((((H4.out.2.1.other _ _ n2).other _ _ n2).other _ _ n2).other _ _ n2).other _ _ n2).other _ _ n2⟩
 refine hK.out _ _ ?_ (fun hH2 => ?_)
 ·exact HSW.out _ (HR.out _ rfl).2.2
 clear hK K' hH
 have hH := hH2
 clear hH2
 refine zqk 14 rfl hH ?_
 simp only [zq]
 refine wpAnyH_done (by kernel_rfl) ?_ _
 go_wp2_with fail
 refine bodyPost_ret (results_cell_slot (p := 4) (s := 5) (ty := 64) rfl _ _ g3 (askl S N (.slice a4 n4 c4)) _ rfl (HR.out _ rfl).1.range Tryd.underlying64 rfl infoCall) rfl ?_
 exact ⟨_, rfl, rfl, (HR.out _ rfl).2.1⟩
end Go.Proofs.YtodcakplmoajiaaDoor
