import Derived.Test.YtodcakplmoajiaaDoorGP5
import Derived.Test.YtodcakplmoajiaaDoorGSX
namespace Go.Proofs.YtodcakplmoajiaaDoor
open Go Go.RowKit
open Wb

def nameT (p : Pln) (S : Sg) : ByteArray := if S.x.ph = 1 then ((p.ss[S.x.nx.toNat]?).map (·.d)).getD ⟨#[]⟩ else ((p.ss[(S.x.nx - 1).toNat]?).map (·.u)).getD ⟨#[]⟩
theorem pfits_iff {p : Pln} {S : Sg} (h : fitP p S = 0) : (fErr p).1 = 0 ∧ chkS S = true ∧ S.nm.toList = p.nm.toList ∧ S.x.cnt = (p.ss.length : Int) ∧ S.x.piv = p.piv := by
 unfold fitP at h
 split at h
 ·rename_i h1; exact absurd h h1
 ·rename_i h1
  split at h
  ·cases h
  ·rename_i h2
   split at h
   ·cases h
   ·rename_i h3
    split at h
    ·cases h
    ·rename_i h4
     split at h
     ·cases h
     ·rename_i h5
      simp at h1 h2 h3 h4 h5
      exact ⟨h1, h2, h3, h4, h5⟩
theorem turn_idx {p : Pln} {S : Sg} (h : fitP p S = 0) (hk : 1 ≤ deedK S.x ∧ deedK S.x ≤ 4) : ∃ (i : Nat) (s : Stp), p.ss[i]? = some s ∧ i < 32 ∧ S.x.turn = (i : Int) ∧ ((S.x.ph = 1 ∧ S.x.nx = (i : Int) ∧ nameT p S = s.d) ∨ (S.x.ph = 2 ∧ S.x.nx = ((i + 1 : Nat) : Int) ∧ nameT p S = s.u)) := by
 obtain ⟨_, h2, _, h4, _⟩ := pfits_iff h
 obtain ⟨⟨_, _, b3, _⟩, hG⟩ := (chkS_iff S).1 h2
 rcases hG with ⟨g, _, _, _, _, c5, c6, _, c8, _⟩ | ⟨g, _⟩ | ⟨g, _, c2, _, c4, c5, _, c7, _⟩ | ⟨g, _⟩
 ·have hlt : S.x.nx < S.x.cnt := by
   by_cases e : S.x.nx = S.x.cnt
   ·have := (c8 e).1
    rw [deedK, if_pos g, this, if_neg (by decide), if_neg (by omega)] at hk
    omega
   ·omega
  have hl : S.x.nx.toNat < p.ss.length := by omega
  refine ⟨S.x.nx.toNat, p.ss[S.x.nx.toNat], List.getElem?_eq_getElem hl, by omega, ?_, .inl ⟨g, by omega, ?_⟩⟩
  ·simp [SN.turn, SN.fwd, g]; omega
  ·unfold nameT; rw [if_pos g, List.getElem?_eq_getElem hl]; rfl
 ·simp [deedK, g] at hk
 ·have hlt : 0 < S.x.nx := by
   by_cases e : S.x.nx = 0
   ·have := (c7 e).1
    rw [deedK, if_neg (by omega), if_pos g, this, if_neg (by decide), if_neg (by omega)] at hk
    omega
   ·omega
  have hl : (S.x.nx - 1).toNat < p.ss.length := by omega
  refine ⟨(S.x.nx - 1).toNat, p.ss[(S.x.nx - 1).toNat], List.getElem?_eq_getElem hl, by omega, ?_, .inr ⟨g, by omega, ?_⟩⟩
  ·simp [SN.turn, SN.fwd, g]; omega
  ·unfold nameT; rw [if_neg (by omega), List.getElem?_eq_getElem hl]; rfl
 ·simp [deedK, g] at hk
theorem ponturn_any (p : Pln) (v : Value) (S : Sg) (h : SH) (w : World) (a : StsAt w v p.ss) (hf : fitP p S = 0) (hk : 1 ≤ deedK S.x ∧ deedK S.x ≤ 4) : Calls Tryd.prog 18 #[plv p v, sv S h] w fun e w' => e = .returned (.tuple #[.int .i64 S.x.turn, .string (nameT p S)]) ∧ Below w.heap.size w w' := by
 obtain ⟨i, s, q1, q2, q3, q4 | q4⟩ := turn_idx hf hk
 ·rw [q3, q4.2.2]; exact ponturn_1 p v S h w i s q1 a q4.1 q4.2.1
 ·rw [q3, q4.2.2]; exact ponturn_2 p v S h w i s q1 (by omega) a (by omega) q4.2.1
theorem infoAct : (Tryd.prog.info? 31).map (·.size) = some 5 := by kernel_rfl
theorem lb_five {w : World} {g : Nat} {t : TypeId} {b0 b1 b2 b3 b4 : Value} (h : LB w g t [b0, b1, b2, b3, b4]) (a0 a1 a2 a3 a4 : Value) : LB (((((w.setCell ⟨g, 0, none⟩ a0).setCell ⟨g, 1, none⟩ a1).setCell ⟨g, 2, none⟩ a2).setCell ⟨g, 3, none⟩ a3).setCell ⟨g, 4, none⟩ a4) g t [a0, a1, a2, a3, a4] := ((((h.set 0 a0).set 1 a1).set 2 a2).set 3 a3).set 4 a4
theorem below_five {w0 w : World} {g : Nat} (h : Below w0.heap.size w0 w) (hg : w0.heap.size ≤ g) (a0 a1 a2 a3 a4 : Value) : Below w0.heap.size w0 (((((w.setCell ⟨g, 0, none⟩ a0).setCell ⟨g, 1, none⟩ a1).setCell ⟨g, 2, none⟩ a2).setCell ⟨g, 3, none⟩ a3).setCell ⟨g, 4, none⟩ a4) := ((((h.setCell hg a0).setCell hg a1).setCell hg a2).setCell hg a3).setCell hg a4
def actl (K id st tr : Int) (nm : ByteArray) : List Value := [.int .i64 K, .int .i64 id, .int .i64 st, .int .i64 tr, .string nm]
def nextV (p : Pln) (S : Sg) : Value := .agg (actl (deedK S.x) S.x.id (if 1 ≤ deedK S.x ∧ deedK S.x ≤ 4 then S.x.turn else 0) (if deedK S.x = 1 ∨ deedK S.x = 3 then S.x.nextTry else if deedK S.x = 2 ∨ deedK S.x = 4 then S.x.tr else 0) (if 1 ≤ deedK S.x ∧ deedK S.x ≤ 4 then nameT p S else ⟨#[]⟩)).toArray
set_option maxRecDepth 100000 in
set_option maxHeartbeats 4000000 in
theorem pnext_any (p : Pln) (v : Value) (S : Sg) (h : SH) (w : World) (a : PA w p v S h) (hf : fitP p S = 0) : Calls Tryd.prog 6 #[plv p v, sv S h] w fun e w' => e = .returned (.tuple #[nextV p S, .int .i64 0]) ∧ Below w.heap.size w w' := by
 have HFI0 : ∀ w', Below w.heap.size w w' → Calls Tryd.prog 16 #[plv p v, sv S h] w' fun e w'' => e = .returned (.int .i64 0) ∧ Below w'.heap.size w' w'' := fun w' hb => by have e := pfit_any p v S h w' (a.kept hb); rw [hf] at e; exact e
 have HDE0 : ∀ w', Calls Tryd.prog 17 #[sv S h] w' fun e w'' => e = .returned (.int .i64 (deedK S.x)) ∧ Below w'.heap.size w' w'' := fun w' => pdeed_any S h w'
 have HOT0 : 1 ≤ deedK S.x ∧ deedK S.x ≤ 4 → ∀ w', Below w.heap.size w w' → Calls Tryd.prog 18 #[plv p v, sv S h] w' fun e w'' => e = .returned (.tuple #[.int .i64 S.x.turn, .string (nameT p S)]) ∧ Below w'.heap.size w' w'' := fun hk w' hb => ponturn_any p v S h w' (a.s.kept hb) hf hk
 have hKK : 0 ≤ deedK S.x ∧ deedK S.x ≤ 6 := by unfold deedK; split <;> (try split) <;> (try split) <;> (try split) <;> omega
 have HTR : Hid (0 ≤ S.x.tr ∧ S.x.tr ≤ 1000) := (bnd_of S (pfits_iff hf).2.1).2
 have HNV : Hid (nextV p S = .agg (actl (deedK S.x) S.x.id (if 1 ≤ deedK S.x ∧ deedK S.x ≤ 4 then S.x.turn else 0) (if deedK S.x = 1 ∨ deedK S.x = 3 then S.x.nextTry else if deedK S.x = 2 ∨ deedK S.x = 4 then S.x.tr else 0) (if 1 ≤ deedK S.x ∧ deedK S.x ≤ 4 then nameT p S else ⟨#[]⟩)).toArray) := rfl
 generalize nextV p S = R at *
 generalize deedK S.x = K at *
 generalize nameT p S = N at *
 generalize S.x.turn = U at *
 clear a hf
 obtain ⟨C, hC, hM, hG⟩ := plv_letter p v
 obtain ⟨D, hD, hL, hE⟩ := sv_letter S h
 rw [hC, hD]
 try rw [hC] at HFI0
 try rw [hD] at HFI0
 try rw [hC] at HDE0
 try rw [hD] at HDE0
 try rw [hC] at HOT0
 try rw [hD] at HOT0
 have HFI : Hid _ := HFI0
 have HDE : Hid _ := HDE0
 have HOT : Hid _ := HOT0
 have HM : Hid _ := hM
 have HG : Hid (C = plvl p v) := hG
 have HL : Hid _ := hL
 have HE : Hid (D = scl S h) := hE
 clear hC hM hG hD hL hE HFI0 HDE0 HOT0
 have HXW : Hid (∀ W, W = (((w.alloc (.cells C.toArray 24)).alloc (.cells D.toArray 28)).alloc (.cells #[.int .i64 0, .int .i64 0, .int .i64 0, .int .i64 0, .string ⟨#[]⟩] 31)) → LB W w.heap.size 24 C ∧ LB W (w.heap.size + 1) 28 D ∧ Below w.heap.size w W ∧ LB W (w.heap.size + 1 + 1) 31 [.int .i64 0, .int .i64 0, .int .i64 0, .int .i64 0, .string ⟨#[]⟩]) := fun W hW => by
  obtain ⟨q1, q2, q3, q4⟩ := lb_new3 w C D [.int .i64 0, .int .i64 0, .int .i64 0, .int .i64 0, .string ⟨#[]⟩] 24 28 31
  subst hW
  exact ⟨q1, q2, q4, q3⟩
 go_enter Tryd.func6, Tryd.ntmps6
 go_upto_region 1 with fail
 obtain ⟨W, eW⟩ : ∃ W, W = (((w.alloc (.cells C.toArray 24)).alloc (.cells D.toArray 28)).alloc (.cells #[.int .i64 0, .int .i64 0, .int .i64 0, .int .i64 0, .string ⟨#[]⟩] 31)) := ⟨_, rfl⟩
 rw [← eW]
 have H0 : Hid (LB W w.heap.size 24 C ∧ LB W (w.heap.size + 1) 28 D ∧ Below w.heap.size w W ∧ LB W (w.heap.size + 1 + 1) 31 [.int .i64 0, .int .i64 0, .int .i64 0, .int .i64 0, .string ⟨#[]⟩]) := HXW.out W eW
 clear eW HXW
 generalize hg3 : w.heap.size + 1 + 1 = g3 at *
 have HG3 : Hid (w.heap.size + 1 + 1 = g3) := hg3
 clear hg3
 go_wp2_with (first | (refine wpList_load_mid rfl 24 _ rfl w.heap.size 0 rfl C _ H0.out.1.range Tryd.underlying24 rfl HM.out ?_) | (refine wpList_load_mid rfl 28 _ rfl (w.heap.size + 1) 0 rfl D _ H0.out.2.1.range Tryd.underlying28 rfl HL.out ?_) | (refine wpList_load_midG rfl 24 _ rfl w.heap.size 0 rfl C _ H0.out.1.range Tryd.underlying24 rfl HM.out ?_) | (refine wpList_load_midG rfl 28 _ rfl (w.heap.size + 1) 0 rfl D _ H0.out.2.1.range Tryd.underlying28 rfl HL.out ?_) | fail)
 refine (HFI.out _ H0.out.2.2.1).mono ?_
 rintro e w1 ⟨rfl, b1⟩
 have H1 : Hid (LB w1 w.heap.size 24 C ∧ LB w1 (w.heap.size + 1) 28 D ∧ Below w.heap.size w w1 ∧ LB w1 g3 31 [.int .i64 0, .int .i64 0, .int .i64 0, .int .i64 0, .string ⟨#[]⟩]) := ⟨H0.out.1.kept b1, H0.out.2.1.kept b1, andThen H0.out.2.2.1 b1, H0.out.2.2.2.kept b1⟩
 clear b1 H0 HFI
 go_upto_region 4 with fail
 have c0 := H1.out.2.1.cell 0 (.int .i64 S.x.id) (by rw [HE.out]; rfl)
 go_cut [7] from 15 to 19 (fun s wx => ∃ g7, s = .pointer (some ⟨g7, 0, none⟩) ∧ LB wx w.heap.size 24 C ∧ LB wx (w.heap.size + 1) 28 D ∧ Below w.heap.size w wx ∧ LB wx g3 31 [.int .i64 0, .int .i64 0, .int .i64 0, .int .i64 0, .string ⟨#[]⟩] ∧ LB wx g7 31 [.int .i64 K, .int .i64 S.x.id, .int .i64 0, .int .i64 0, .string ⟨#[]⟩] ∧ g7 ≠ g3 ∧ w.heap.size ≤ g7)
 case first =>
  have r0 : w1.rangeAt (w.heap.size + 1) 0 D := H1.out.2.1.range
  refine wp_region_held_drew (S := (fun w' => w'.rangeAt (w.heap.size + 1) 0 D ∧ w'.cell? ⟨w.heap.size + 1, 0, none⟩ = some (.int .i64 S.x.id))) (by kernel_rfl) ?_ (fun hH => ?_)
  ·exact ⟨r0, c0⟩
  refine zql 0 rfl (yieldsIf_load_mid (by rfl) _ _ rfl _ _ rfl D _ (fun w' hSw => hSw.1) Tryd.underlying28 rfl HL.out) hH ?_
  simp only [zq]
  refine zqk 2 rfl hH ?_
  simp only [zq]
  refine zqk 3 rfl hH ?_
  simp only [zq]
  refine wpAnyH_ready (rs := [1, 5]) (by kernel_rfl) (by simp) ?_
  refine AllReadyH.cons rfl (fun K' hK => ?_) (AllReadyH.cons rfl (fun K' hK => ?_) AllReadyH.nil)
  ·go_simp
   refine (HDE.out _).mono ?_
   rintro e w2 ⟨rfl, b2⟩
   refine hK.out _ _ ?_ (fun hH2 => ?_)
   ·exact ⟨(LB.kept (w := w1.drew) H1.out.2.1 b2).range, (LB.kept (w := w1.drew) H1.out.2.1 b2).cell 0 _ (by rw [HE.out]; rfl)⟩
   clear hK K' hH
   have hH := hH2
   clear hH2
   refine zqk 4 rfl hH ?_
   simp only [zq]
   refine wpAnyH_ready (rs := [5]) (by kernel_rfl) (by simp) ?_
   refine AllReadyH.cons rfl (fun K' hK => ?_) AllReadyH.nil
   go_simp
   have HA0 : Hid (LB w2 w.heap.size 24 C ∧ LB w2 (w.heap.size + 1) 28 D ∧ Below w.heap.size w w2 ∧ LB w2 g3 31 [.int .i64 0, .int .i64 0, .int .i64 0, .int .i64 0, .string ⟨#[]⟩]) := ⟨LB.kept (w := w1.drew) H1.out.1 b2, LB.kept (w := w1.drew) H1.out.2.1 b2, andThen H1.out.2.2.1.drew b2, LB.kept (w := w1.drew) H1.out.2.2.2 b2⟩
   obtain ⟨X, eX⟩ : ∃ X, X = w2.alloc (.cells #[.int .i64 0, .int .i64 0, .int .i64 0, .int .i64 0, .string ⟨#[]⟩] 31) := ⟨_, rfl⟩
   have HA : Hid (w.heap.size ≤ w2.heap.size ∧ LB X w.heap.size 24 C ∧ LB X (w.heap.size + 1) 28 D ∧ Below w.heap.size w X ∧ LB X g3 31 [.int .i64 0, .int .i64 0, .int .i64 0, .int .i64 0, .string ⟨#[]⟩] ∧ LB X w2.heap.size 31 [.int .i64 0, .int .i64 0, .int .i64 0, .int .i64 0, .string ⟨#[]⟩] ∧ w2.heap.size ≠ g3) := by
    obtain ⟨z1, z2, z3, z4⟩ := HA0.out
    have u0 := up0 w2 (.cells #[.int .i64 0, .int .i64 0, .int .i64 0, .int .i64 0, .string ⟨#[]⟩] 31)
    rw [eX]
    exact ⟨z3.size, z1.kept u0, z2.kept u0, andThen z3 u0, z4.kept u0, lb_new w2 _ _, by have := z4.lt; omega⟩
   rw [← eX]
   generalize w2.heap.size = g7 at *
   clear b2 HA0 eX
   refine hK.out _ _ ?_ (fun hH2 => ?_)
   ·exact ⟨HA.out.2.2.1.range, HA.out.2.2.1.cell 0 _ (by rw [HE.out]; rfl)⟩
   clear hK K' hH
   have hH := hH2
   clear hH2
   have y0 := HA.out.2.2.2.2.2.1.cell 0 _ rfl
   have y1 := HA.out.2.2.2.2.2.1.cell 1 _ rfl
   have y2 := HA.out.2.2.2.2.2.1.cell 2 _ rfl
   have y3 := HA.out.2.2.2.2.2.1.cell 3 _ rfl
   have y4 := HA.out.2.2.2.2.2.1.cell 4 _ rfl
   have yf : ∀ j : Nat, X.frozen? ⟨g7, j, none⟩ = false := fun j => HA.out.2.2.2.2.2.1.free j
   refine wpAnyH_ready (rs := [6]) (by kernel_rfl) (by simp) ?_
   refine AllReadyH.cons rfl (fun K' hK => ?_) AllReadyH.nil
   go_simp
   clear y0 y1 y2 y3 y4 yf
   have HQ : Hid (∀ Y, Y = ((((X.setCell ⟨g7, 0, none⟩ (.int .i64 K)).setCell ⟨g7, 1, none⟩ (.int .i64 S.x.id)).setCell ⟨g7, 2, none⟩ (.int .i64 0)).setCell ⟨g7, 3, none⟩ (.int .i64 0)).setCell ⟨g7, 4, none⟩ (.string ⟨#[]⟩) → LB Y w.heap.size 24 C ∧ LB Y (w.heap.size + 1) 28 D ∧ Below w.heap.size w Y ∧ LB Y g3 31 [.int .i64 0, .int .i64 0, .int .i64 0, .int .i64 0, .string ⟨#[]⟩] ∧ LB Y g7 31 [.int .i64 K, .int .i64 S.x.id, .int .i64 0, .int .i64 0, .string ⟨#[]⟩] ∧ g7 ≠ g3) := fun Y hY => by
    obtain ⟨z0, z1, z2, z3, z4, z5, z6⟩ := HA.out
    have n1 := lb_ne z1 z5 (by decide)
    have n2 := lb_ne z2 z5 (by decide)
    rw [hY]
    exact ⟨((((z1.other _ _ n1).other _ _ n1).other _ _ n1).other _ _ n1).other _ _ n1, ((((z2.other _ _ n2).other _ _ n2).other _ _ n2).other _ _ n2).other _ _ n2, ((((z3.setCell z0 _).setCell z0 _).setCell z0 _).setCell z0 _).setCell z0 _, ((((z4.other _ _ (Ne.symm z6)).other _ _ (Ne.symm z6)).other _ _ (Ne.symm z6)).other _ _ (Ne.symm z6)).other _ _ (Ne.symm z6), ((((z5.set 0 _).set 1 _).set 2 _).set 3 _).set 4 _, z6⟩
   refine hK.out _ _ ?_ (fun hH2 => ?_)
   ·exact ⟨(HQ.out _ rfl).2.1.range, (HQ.out _ rfl).2.1.cell 0 _ (by rw [HE.out]; rfl)⟩
   clear hK K' hH hH2
   refine wpAnyH_done (by kernel_rfl) ?_ _
   go_wp2_with fail
   go_meet
   have hq7 := HQ.out _ rfl; exact ⟨g7, rfl, hq7.1, hq7.2.1, hq7.2.2.1, hq7.2.2.2.1, hq7.2.2.2.2.1, hq7.2.2.2.2.2, HA.out.1⟩
  ·go_simp
   obtain ⟨X, eX⟩ : ∃ X, X = (w1.alloc (.cells #[.int .i64 0, .int .i64 0, .int .i64 0, .int .i64 0, .string ⟨#[]⟩] 31)).drew := ⟨_, rfl⟩
   have HA : Hid (w.heap.size ≤ w1.heap.size ∧ LB X w.heap.size 24 C ∧ LB X (w.heap.size + 1) 28 D ∧ Below w.heap.size w X ∧ LB X g3 31 [.int .i64 0, .int .i64 0, .int .i64 0, .int .i64 0, .string ⟨#[]⟩] ∧ LB X w1.heap.size 31 [.int .i64 0, .int .i64 0, .int .i64 0, .int .i64 0, .string ⟨#[]⟩] ∧ w1.heap.size ≠ g3) := by
    obtain ⟨z1, z2, z3, z4⟩ := H1.out
    have u0 := (up0 w1 (.cells #[.int .i64 0, .int .i64 0, .int .i64 0, .int .i64 0, .string ⟨#[]⟩] 31)).drew
    rw [eX]
    exact ⟨z3.size, z1.kept u0, z2.kept u0, andThen z3 u0, z4.kept u0, lb_new w1 _ _, by have := z4.lt; omega⟩
   rw [← eX]
   clear c0 r0 H1 eX
   generalize w1.heap.size = g7 at *
   refine hK.out _ _ ?_ (fun hH2 => ?_)
   ·exact ⟨HA.out.2.2.1.range, HA.out.2.2.1.cell 0 _ (by rw [HE.out]; rfl)⟩
   clear hK K' hH
   have hH := hH2
   clear hH2
   refine wpAnyH_ready (rs := [1]) (by kernel_rfl) (by simp) ?_
   refine AllReadyH.cons rfl (fun K' hK => ?_) AllReadyH.nil
   go_simp
   refine (HDE.out _).mono ?_
   rintro e w2 ⟨rfl, b2⟩
   have HA2 : Hid (w.heap.size ≤ g7 ∧ LB w2 w.heap.size 24 C ∧ LB w2 (w.heap.size + 1) 28 D ∧ Below w.heap.size w w2 ∧ LB w2 g3 31 [.int .i64 0, .int .i64 0, .int .i64 0, .int .i64 0, .string ⟨#[]⟩] ∧ LB w2 g7 31 [.int .i64 0, .int .i64 0, .int .i64 0, .int .i64 0, .string ⟨#[]⟩] ∧ g7 ≠ g3) := by
    obtain ⟨z0, z1, z2, z3, z4, z5, z6⟩ := HA.out
    exact ⟨z0, z1.kept b2, z2.kept b2, andThen z3 b2, z4.kept b2, z5.kept b2, z6⟩
   clear b2 HA
   refine hK.out _ _ ?_ (fun hH2 => ?_)
   ·exact ⟨HA2.out.2.2.1.range, HA2.out.2.2.1.cell 0 _ (by rw [HE.out]; rfl)⟩
   clear hK K' hH
   have hH := hH2
   clear hH2
   refine zqk 4 rfl hH ?_
   simp only [zq]
   have y0 := HA2.out.2.2.2.2.2.1.cell 0 _ rfl
   have y1 := HA2.out.2.2.2.2.2.1.cell 1 _ rfl
   have y2 := HA2.out.2.2.2.2.2.1.cell 2 _ rfl
   have y3 := HA2.out.2.2.2.2.2.1.cell 3 _ rfl
   have y4 := HA2.out.2.2.2.2.2.1.cell 4 _ rfl
   have yf : ∀ j : Nat, w2.frozen? ⟨g7, j, none⟩ = false := fun j => HA2.out.2.2.2.2.2.1.free j
   refine wpAnyH_ready (rs := [6]) (by kernel_rfl) (by simp) ?_
   refine AllReadyH.cons rfl (fun K' hK => ?_) AllReadyH.nil
   go_simp
   clear y0 y1 y2 y3 y4 yf
   have HQ : Hid (∀ Y, Y = ((((w2.setCell ⟨g7, 0, none⟩ (.int .i64 K)).setCell ⟨g7, 1, none⟩ (.int .i64 S.x.id)).setCell ⟨g7, 2, none⟩ (.int .i64 0)).setCell ⟨g7, 3, none⟩ (.int .i64 0)).setCell ⟨g7, 4, none⟩ (.string ⟨#[]⟩) → LB Y w.heap.size 24 C ∧ LB Y (w.heap.size + 1) 28 D ∧ Below w.heap.size w Y ∧ LB Y g3 31 [.int .i64 0, .int .i64 0, .int .i64 0, .int .i64 0, .string ⟨#[]⟩] ∧ LB Y g7 31 [.int .i64 K, .int .i64 S.x.id, .int .i64 0, .int .i64 0, .string ⟨#[]⟩] ∧ g7 ≠ g3) := fun Y hY => by
    obtain ⟨z0, z1, z2, z3, z4, z5, z6⟩ := HA2.out
    have n1 := lb_ne z1 z5 (by decide)
    have n2 := lb_ne z2 z5 (by decide)
    rw [hY]
    exact ⟨((((z1.other _ _ n1).other _ _ n1).other _ _ n1).other _ _ n1).other _ _ n1, ((((z2.other _ _ n2).other _ _ n2).other _ _ n2).other _ _ n2).other _ _ n2, ((((z3.setCell z0 _).setCell z0 _).setCell z0 _).setCell z0 _).setCell z0 _, ((((z4.other _ _ (Ne.symm z6)).other _ _ (Ne.symm z6)).other _ _ (Ne.symm z6)).other _ _ (Ne.symm z6)).other _ _ (Ne.symm z6), ((((z5.set 0 _).set 1 _).set 2 _).set 3 _).set 4 _, z6⟩
   refine hK.out _ _ ?_ (fun hH2 => ?_)
   ·exact ⟨(HQ.out _ rfl).2.1.range, (HQ.out _ rfl).2.1.cell 0 _ (by rw [HE.out]; rfl)⟩
   clear hK K' hH hH2
   refine wpAnyH_done (by kernel_rfl) ?_ _
   go_wp2_with fail
   go_meet
   have hq7 := HQ.out _ rfl; exact ⟨g7, rfl, hq7.1, hq7.2.1, hq7.2.2.1, hq7.2.2.2.1, hq7.2.2.2.2.1, hq7.2.2.2.2.2, HA2.out.1⟩
 case rest =>
  obtain ⟨g7, rfl, hq⟩ := hcut
  have H2 : Hid (LB wc w.heap.size 24 C ∧ LB wc (w.heap.size + 1) 28 D ∧ Below w.heap.size w wc ∧ LB wc g3 31 [.int .i64 0, .int .i64 0, .int .i64 0, .int .i64 0, .string ⟨#[]⟩] ∧ LB wc g7 31 [.int .i64 K, .int .i64 S.x.id, .int .i64 0, .int .i64 0, .string ⟨#[]⟩] ∧ g7 ≠ g3) := ⟨hq.1, hq.2.1, hq.2.2.1, hq.2.2.2.1, hq.2.2.2.2.1, hq.2.2.2.2.2.1⟩
  have HGE7 : Hid (w.heap.size ≤ g7) := hq.2.2.2.2.2.2
  clear hq H1 c0 HDE
  have c10 := H2.out.2.1.cell 10 (.int .i64 S.x.tr) (by rw [HE.out]; rfl)
  have y0 := H2.out.2.2.2.2.1.cell 0 _ rfl
  have y1 := H2.out.2.2.2.2.1.cell 1 _ rfl
  have y2 := H2.out.2.2.2.2.1.cell 2 _ rfl
  have y3 := H2.out.2.2.2.2.1.cell 3 _ rfl
  have y4 := H2.out.2.2.2.2.1.cell 4 _ rfl
  have x0 := H2.out.2.2.2.1.cell 0 _ rfl
  have x1 := H2.out.2.2.2.1.cell 1 _ rfl
  have x2 := H2.out.2.2.2.1.cell 2 _ rfl
  have x3 := H2.out.2.2.2.1.cell 3 _ rfl
  have x4 := H2.out.2.2.2.1.cell 4 _ rfl
  have yf : ∀ j : Nat, wc.frozen? ⟨g7, j, none⟩ = false := fun j => H2.out.2.2.2.2.1.free j
  have xf : ∀ j : Nat, wc.frozen? ⟨g3, j, none⟩ = false := fun j => H2.out.2.2.2.1.free j
  have hne := H2.out.2.2.2.2.2
  have hne2 : g3 ≠ g7 := Ne.symm hne
  by_cases hk : 1 ≤ K ∧ K ≤ 4
  ·have HGE : Hid (w.heap.size ≤ g3 ∧ w.heap.size ≤ g7) := ⟨by have := HG3.out; omega, HGE7.out⟩
   have hw1 : IntKind.wrap .i64 (S.x.tr + 1) = S.x.tr + 1 := IntWalk.i64_in _ (by have := HTR.out; omega)
   have HV : Hid (S.x.nextTry = min (S.x.tr + 1) 1000) := rfl
   have HOT1 : Hid (∀ w', Below w.heap.size w w' → Calls Tryd.prog 18 #[.agg C.toArray, .agg D.toArray] w' fun e w'' => e = .returned (.tuple #[.int .i64 U, .string N]) ∧ Below w'.heap.size w' w'') := HOT.out hk
   clear HOT
   obtain rfl | rfl | rfl | rfl : K = 1 ∨ K = 2 ∨ K = 3 ∨ K = 4 := by omega
   ·have HRK : Hid (R = .agg (actl 1 S.x.id U (min (S.x.tr + 1) 1000) N).toArray) := by show _ = _; rw [HNV.out]; rfl
    go_upto_region 13 with fail
    obtain ⟨X, eX⟩ : ∃ X, X = wc.setCell ⟨g7, 3, none⟩ (.int .i64 (min (S.x.tr + 1) 1000)) := ⟨_, rfl⟩
    have H6 : Hid (LB X w.heap.size 24 C ∧ LB X (w.heap.size + 1) 28 D ∧ Below w.heap.size w X ∧ LB X g3 31 [.int .i64 0, .int .i64 0, .int .i64 0, .int .i64 0, .string ⟨#[]⟩] ∧ LB X g7 31 [.int .i64 1, .int .i64 S.x.id, .int .i64 0, .int .i64 (min (S.x.tr + 1) 1000), .string ⟨#[]⟩]) := by
     obtain ⟨z1, z2, z3, z4, z5, z6⟩ := H2.out
     rw [eX]
     exact ⟨z1.other _ _ (lb_ne z1 z5 (by decide)), z2.other _ _ (lb_ne z2 z5 (by decide)), z3.setCell HGE.out.2 _, z4.other _ _ (Ne.symm z6), z5.set 3 _⟩
    rw [← eX]
    clear eX H2 y0 y1 y2 y3 y4 x0 x1 x2 x3 x4 xf yf c10 hw1
    go_wp2_with (first | (refine wpList_load_mid rfl 24 _ rfl w.heap.size 0 rfl C _ H6.out.1.range Tryd.underlying24 rfl HM.out ?_) | (refine wpList_load_mid rfl 28 _ rfl (w.heap.size + 1) 0 rfl D _ H6.out.2.1.range Tryd.underlying28 rfl HL.out ?_) | (refine wpList_load_midG rfl 24 _ rfl w.heap.size 0 rfl C _ H6.out.1.range Tryd.underlying24 rfl HM.out ?_) | (refine wpList_load_midG rfl 28 _ rfl (w.heap.size + 1) 0 rfl D _ H6.out.2.1.range Tryd.underlying28 rfl HL.out ?_) | fail)
    refine (HOT1.out _ H6.out.2.2.1).mono ?_
    rintro e w5 ⟨rfl, b5⟩
    have H7 : Hid (LB w5 w.heap.size 24 C ∧ LB w5 (w.heap.size + 1) 28 D ∧ Below w.heap.size w w5 ∧ LB w5 g3 31 [.int .i64 0, .int .i64 0, .int .i64 0, .int .i64 0, .string ⟨#[]⟩] ∧ LB w5 g7 31 [.int .i64 1, .int .i64 S.x.id, .int .i64 0, .int .i64 (min (S.x.tr + 1) 1000), .string ⟨#[]⟩]) := ⟨H6.out.1.kept b5, H6.out.2.1.kept b5, andThen H6.out.2.2.1 b5, H6.out.2.2.2.1.kept b5, H6.out.2.2.2.2.kept b5⟩
    clear b5 H6 HOT1
    have y0 := H7.out.2.2.2.2.cell 0 _ rfl
    have y1 := H7.out.2.2.2.2.cell 1 _ rfl
    have y2 := H7.out.2.2.2.2.cell 2 _ rfl
    have y3 := H7.out.2.2.2.2.cell 3 _ rfl
    have y4 := H7.out.2.2.2.2.cell 4 _ rfl
    have x0 := H7.out.2.2.2.1.cell 0 _ rfl
    have x1 := H7.out.2.2.2.1.cell 1 _ rfl
    have x2 := H7.out.2.2.2.1.cell 2 _ rfl
    have x3 := H7.out.2.2.2.1.cell 3 _ rfl
    have x4 := H7.out.2.2.2.1.cell 4 _ rfl
    have yf : ∀ j : Nat, w5.frozen? ⟨g7, j, none⟩ = false := fun j => H7.out.2.2.2.2.free j
    have xf : ∀ j : Nat, w5.frozen? ⟨g3, j, none⟩ = false := fun j => H7.out.2.2.2.1.free j
    have HR : Hid (∀ Y, Y = ((((((w5.setCell ⟨g7, 2, none⟩ (.int .i64 U)).setCell ⟨g7, 4, none⟩ (.string N)).setCell ⟨g3, 0, none⟩ (.int .i64 1)).setCell ⟨g3, 1, none⟩ (.int .i64 S.x.id)).setCell ⟨g3, 2, none⟩ (.int .i64 U)).setCell ⟨g3, 3, none⟩ (.int .i64 (min (S.x.tr + 1) 1000))).setCell ⟨g3, 4, none⟩ (.string N) → LB Y g3 31 (actl 1 S.x.id U (min (S.x.tr + 1) 1000) N) ∧ Below w.heap.size w Y) := fun Y hY => by
     rw [hY]
     exact ⟨lb_five ((H7.out.2.2.2.1.other _ _ hne2).other _ _ hne2) _ _ _ _ _, below_five ((H7.out.2.2.1.setCell HGE.out.2 _).setCell HGE.out.2 _) HGE.out.1 _ _ _ _ _⟩
    go_wp2_with fail
    refine bodyPost_ret (results_cell_slot (p := 4) (s := 5) (ty := 31) rfl _ _ g3 (actl 1 S.x.id U (min (S.x.tr + 1) 1000) N) _ rfl (HR.out _ rfl).1.range Tryd.underlying31 rfl infoAct) rfl ?_
    exact ⟨by rw [HRK.out]; rfl, (HR.out _ rfl).2⟩
   ·have HRK : Hid (R = .agg (actl 2 S.x.id U S.x.tr N).toArray) := by show _ = _; rw [HNV.out]; rfl
    go_upto_region 13 with fail
    obtain ⟨X, eX⟩ : ∃ X, X = wc.setCell ⟨g7, 3, none⟩ (.int .i64 S.x.tr) := ⟨_, rfl⟩
    have H6 : Hid (LB X w.heap.size 24 C ∧ LB X (w.heap.size + 1) 28 D ∧ Below w.heap.size w X ∧ LB X g3 31 [.int .i64 0, .int .i64 0, .int .i64 0, .int .i64 0, .string ⟨#[]⟩] ∧ LB X g7 31 [.int .i64 2, .int .i64 S.x.id, .int .i64 0, .int .i64 S.x.tr, .string ⟨#[]⟩]) := by
     obtain ⟨z1, z2, z3, z4, z5, z6⟩ := H2.out
     rw [eX]
     exact ⟨z1.other _ _ (lb_ne z1 z5 (by decide)), z2.other _ _ (lb_ne z2 z5 (by decide)), z3.setCell HGE.out.2 _, z4.other _ _ (Ne.symm z6), z5.set 3 _⟩
    rw [← eX]
    clear eX H2 y0 y1 y2 y3 y4 x0 x1 x2 x3 x4 xf yf c10 hw1
    go_wp2_with (first | (refine wpList_load_mid rfl 24 _ rfl w.heap.size 0 rfl C _ H6.out.1.range Tryd.underlying24 rfl HM.out ?_) | (refine wpList_load_mid rfl 28 _ rfl (w.heap.size + 1) 0 rfl D _ H6.out.2.1.range Tryd.underlying28 rfl HL.out ?_) | (refine wpList_load_midG rfl 24 _ rfl w.heap.size 0 rfl C _ H6.out.1.range Tryd.underlying24 rfl HM.out ?_) | (refine wpList_load_midG rfl 28 _ rfl (w.heap.size + 1) 0 rfl D _ H6.out.2.1.range Tryd.underlying28 rfl HL.out ?_) | fail)
    refine (HOT1.out _ H6.out.2.2.1).mono ?_
    rintro e w5 ⟨rfl, b5⟩
    have H7 : Hid (LB w5 w.heap.size 24 C ∧ LB w5 (w.heap.size + 1) 28 D ∧ Below w.heap.size w w5 ∧ LB w5 g3 31 [.int .i64 0, .int .i64 0, .int .i64 0, .int .i64 0, .string ⟨#[]⟩] ∧ LB w5 g7 31 [.int .i64 2, .int .i64 S.x.id, .int .i64 0, .int .i64 S.x.tr, .string ⟨#[]⟩]) := ⟨H6.out.1.kept b5, H6.out.2.1.kept b5, andThen H6.out.2.2.1 b5, H6.out.2.2.2.1.kept b5, H6.out.2.2.2.2.kept b5⟩
    clear b5 H6 HOT1
    have y0 := H7.out.2.2.2.2.cell 0 _ rfl
    have y1 := H7.out.2.2.2.2.cell 1 _ rfl
    have y2 := H7.out.2.2.2.2.cell 2 _ rfl
    have y3 := H7.out.2.2.2.2.cell 3 _ rfl
    have y4 := H7.out.2.2.2.2.cell 4 _ rfl
    have x0 := H7.out.2.2.2.1.cell 0 _ rfl
    have x1 := H7.out.2.2.2.1.cell 1 _ rfl
    have x2 := H7.out.2.2.2.1.cell 2 _ rfl
    have x3 := H7.out.2.2.2.1.cell 3 _ rfl
    have x4 := H7.out.2.2.2.1.cell 4 _ rfl
    have yf : ∀ j : Nat, w5.frozen? ⟨g7, j, none⟩ = false := fun j => H7.out.2.2.2.2.free j
    have xf : ∀ j : Nat, w5.frozen? ⟨g3, j, none⟩ = false := fun j => H7.out.2.2.2.1.free j
    have HR : Hid (∀ Y, Y = ((((((w5.setCell ⟨g7, 2, none⟩ (.int .i64 U)).setCell ⟨g7, 4, none⟩ (.string N)).setCell ⟨g3, 0, none⟩ (.int .i64 2)).setCell ⟨g3, 1, none⟩ (.int .i64 S.x.id)).setCell ⟨g3, 2, none⟩ (.int .i64 U)).setCell ⟨g3, 3, none⟩ (.int .i64 S.x.tr)).setCell ⟨g3, 4, none⟩ (.string N) → LB Y g3 31 (actl 2 S.x.id U S.x.tr N) ∧ Below w.heap.size w Y) := fun Y hY => by
     rw [hY]
     exact ⟨lb_five ((H7.out.2.2.2.1.other _ _ hne2).other _ _ hne2) _ _ _ _ _, below_five ((H7.out.2.2.1.setCell HGE.out.2 _).setCell HGE.out.2 _) HGE.out.1 _ _ _ _ _⟩
    go_wp2_with fail
    refine bodyPost_ret (results_cell_slot (p := 4) (s := 5) (ty := 31) rfl _ _ g3 (actl 2 S.x.id U S.x.tr N) _ rfl (HR.out _ rfl).1.range Tryd.underlying31 rfl infoAct) rfl ?_
    exact ⟨by rw [HRK.out]; rfl, (HR.out _ rfl).2⟩
   ·have HRK : Hid (R = .agg (actl 3 S.x.id U (min (S.x.tr + 1) 1000) N).toArray) := by show _ = _; rw [HNV.out]; rfl
    go_upto_region 13 with fail
    obtain ⟨X, eX⟩ : ∃ X, X = wc.setCell ⟨g7, 3, none⟩ (.int .i64 (min (S.x.tr + 1) 1000)) := ⟨_, rfl⟩
    have H6 : Hid (LB X w.heap.size 24 C ∧ LB X (w.heap.size + 1) 28 D ∧ Below w.heap.size w X ∧ LB X g3 31 [.int .i64 0, .int .i64 0, .int .i64 0, .int .i64 0, .string ⟨#[]⟩] ∧ LB X g7 31 [.int .i64 3, .int .i64 S.x.id, .int .i64 0, .int .i64 (min (S.x.tr + 1) 1000), .string ⟨#[]⟩]) := by
     obtain ⟨z1, z2, z3, z4, z5, z6⟩ := H2.out
     rw [eX]
     exact ⟨z1.other _ _ (lb_ne z1 z5 (by decide)), z2.other _ _ (lb_ne z2 z5 (by decide)), z3.setCell HGE.out.2 _, z4.other _ _ (Ne.symm z6), z5.set 3 _⟩
    rw [← eX]
    clear eX H2 y0 y1 y2 y3 y4 x0 x1 x2 x3 x4 xf yf c10 hw1
    go_wp2_with (first | (refine wpList_load_mid rfl 24 _ rfl w.heap.size 0 rfl C _ H6.out.1.range Tryd.underlying24 rfl HM.out ?_) | (refine wpList_load_mid rfl 28 _ rfl (w.heap.size + 1) 0 rfl D _ H6.out.2.1.range Tryd.underlying28 rfl HL.out ?_) | (refine wpList_load_midG rfl 24 _ rfl w.heap.size 0 rfl C _ H6.out.1.range Tryd.underlying24 rfl HM.out ?_) | (refine wpList_load_midG rfl 28 _ rfl (w.heap.size + 1) 0 rfl D _ H6.out.2.1.range Tryd.underlying28 rfl HL.out ?_) | fail)
    refine (HOT1.out _ H6.out.2.2.1).mono ?_
    rintro e w5 ⟨rfl, b5⟩
    have H7 : Hid (LB w5 w.heap.size 24 C ∧ LB w5 (w.heap.size + 1) 28 D ∧ Below w.heap.size w w5 ∧ LB w5 g3 31 [.int .i64 0, .int .i64 0, .int .i64 0, .int .i64 0, .string ⟨#[]⟩] ∧ LB w5 g7 31 [.int .i64 3, .int .i64 S.x.id, .int .i64 0, .int .i64 (min (S.x.tr + 1) 1000), .string ⟨#[]⟩]) := ⟨H6.out.1.kept b5, H6.out.2.1.kept b5, andThen H6.out.2.2.1 b5, H6.out.2.2.2.1.kept b5, H6.out.2.2.2.2.kept b5⟩
    clear b5 H6 HOT1
    have y0 := H7.out.2.2.2.2.cell 0 _ rfl
    have y1 := H7.out.2.2.2.2.cell 1 _ rfl
    have y2 := H7.out.2.2.2.2.cell 2 _ rfl
    have y3 := H7.out.2.2.2.2.cell 3 _ rfl
    have y4 := H7.out.2.2.2.2.cell 4 _ rfl
    have x0 := H7.out.2.2.2.1.cell 0 _ rfl
    have x1 := H7.out.2.2.2.1.cell 1 _ rfl
    have x2 := H7.out.2.2.2.1.cell 2 _ rfl
    have x3 := H7.out.2.2.2.1.cell 3 _ rfl
    have x4 := H7.out.2.2.2.1.cell 4 _ rfl
    have yf : ∀ j : Nat, w5.frozen? ⟨g7, j, none⟩ = false := fun j => H7.out.2.2.2.2.free j
    have xf : ∀ j : Nat, w5.frozen? ⟨g3, j, none⟩ = false := fun j => H7.out.2.2.2.1.free j
    have HR : Hid (∀ Y, Y = ((((((w5.setCell ⟨g7, 2, none⟩ (.int .i64 U)).setCell ⟨g7, 4, none⟩ (.string N)).setCell ⟨g3, 0, none⟩ (.int .i64 3)).setCell ⟨g3, 1, none⟩ (.int .i64 S.x.id)).setCell ⟨g3, 2, none⟩ (.int .i64 U)).setCell ⟨g3, 3, none⟩ (.int .i64 (min (S.x.tr + 1) 1000))).setCell ⟨g3, 4, none⟩ (.string N) → LB Y g3 31 (actl 3 S.x.id U (min (S.x.tr + 1) 1000) N) ∧ Below w.heap.size w Y) := fun Y hY => by
     rw [hY]
     exact ⟨lb_five ((H7.out.2.2.2.1.other _ _ hne2).other _ _ hne2) _ _ _ _ _, below_five ((H7.out.2.2.1.setCell HGE.out.2 _).setCell HGE.out.2 _) HGE.out.1 _ _ _ _ _⟩
    go_wp2_with fail
    refine bodyPost_ret (results_cell_slot (p := 4) (s := 5) (ty := 31) rfl _ _ g3 (actl 3 S.x.id U (min (S.x.tr + 1) 1000) N) _ rfl (HR.out _ rfl).1.range Tryd.underlying31 rfl infoAct) rfl ?_
    exact ⟨by rw [HRK.out]; rfl, (HR.out _ rfl).2⟩
   ·have HRK : Hid (R = .agg (actl 4 S.x.id U S.x.tr N).toArray) := by show _ = _; rw [HNV.out]; rfl
    go_upto_region 13 with fail
    obtain ⟨X, eX⟩ : ∃ X, X = wc.setCell ⟨g7, 3, none⟩ (.int .i64 S.x.tr) := ⟨_, rfl⟩
    have H6 : Hid (LB X w.heap.size 24 C ∧ LB X (w.heap.size + 1) 28 D ∧ Below w.heap.size w X ∧ LB X g3 31 [.int .i64 0, .int .i64 0, .int .i64 0, .int .i64 0, .string ⟨#[]⟩] ∧ LB X g7 31 [.int .i64 4, .int .i64 S.x.id, .int .i64 0, .int .i64 S.x.tr, .string ⟨#[]⟩]) := by
     obtain ⟨z1, z2, z3, z4, z5, z6⟩ := H2.out
     rw [eX]
     exact ⟨z1.other _ _ (lb_ne z1 z5 (by decide)), z2.other _ _ (lb_ne z2 z5 (by decide)), z3.setCell HGE.out.2 _, z4.other _ _ (Ne.symm z6), z5.set 3 _⟩
    rw [← eX]
    clear eX H2 y0 y1 y2 y3 y4 x0 x1 x2 x3 x4 xf yf c10 hw1
    go_wp2_with (first | (refine wpList_load_mid rfl 24 _ rfl w.heap.size 0 rfl C _ H6.out.1.range Tryd.underlying24 rfl HM.out ?_) | (refine wpList_load_mid rfl 28 _ rfl (w.heap.size + 1) 0 rfl D _ H6.out.2.1.range Tryd.underlying28 rfl HL.out ?_) | (refine wpList_load_midG rfl 24 _ rfl w.heap.size 0 rfl C _ H6.out.1.range Tryd.underlying24 rfl HM.out ?_) | (refine wpList_load_midG rfl 28 _ rfl (w.heap.size + 1) 0 rfl D _ H6.out.2.1.range Tryd.underlying28 rfl HL.out ?_) | fail)
    refine (HOT1.out _ H6.out.2.2.1).mono ?_
    rintro e w5 ⟨rfl, b5⟩
    have H7 : Hid (LB w5 w.heap.size 24 C ∧ LB w5 (w.heap.size + 1) 28 D ∧ Below w.heap.size w w5 ∧ LB w5 g3 31 [.int .i64 0, .int .i64 0, .int .i64 0, .int .i64 0, .string ⟨#[]⟩] ∧ LB w5 g7 31 [.int .i64 4, .int .i64 S.x.id, .int .i64 0, .int .i64 S.x.tr, .string ⟨#[]⟩]) := ⟨H6.out.1.kept b5, H6.out.2.1.kept b5, andThen H6.out.2.2.1 b5, H6.out.2.2.2.1.kept b5, H6.out.2.2.2.2.kept b5⟩
    clear b5 H6 HOT1
    have y0 := H7.out.2.2.2.2.cell 0 _ rfl
    have y1 := H7.out.2.2.2.2.cell 1 _ rfl
    have y2 := H7.out.2.2.2.2.cell 2 _ rfl
    have y3 := H7.out.2.2.2.2.cell 3 _ rfl
    have y4 := H7.out.2.2.2.2.cell 4 _ rfl
    have x0 := H7.out.2.2.2.1.cell 0 _ rfl
    have x1 := H7.out.2.2.2.1.cell 1 _ rfl
    have x2 := H7.out.2.2.2.1.cell 2 _ rfl
    have x3 := H7.out.2.2.2.1.cell 3 _ rfl
    have x4 := H7.out.2.2.2.1.cell 4 _ rfl
    have yf : ∀ j : Nat, w5.frozen? ⟨g7, j, none⟩ = false := fun j => H7.out.2.2.2.2.free j
    have xf : ∀ j : Nat, w5.frozen? ⟨g3, j, none⟩ = false := fun j => H7.out.2.2.2.1.free j
    have HR : Hid (∀ Y, Y = ((((((w5.setCell ⟨g7, 2, none⟩ (.int .i64 U)).setCell ⟨g7, 4, none⟩ (.string N)).setCell ⟨g3, 0, none⟩ (.int .i64 4)).setCell ⟨g3, 1, none⟩ (.int .i64 S.x.id)).setCell ⟨g3, 2, none⟩ (.int .i64 U)).setCell ⟨g3, 3, none⟩ (.int .i64 S.x.tr)).setCell ⟨g3, 4, none⟩ (.string N) → LB Y g3 31 (actl 4 S.x.id U S.x.tr N) ∧ Below w.heap.size w Y) := fun Y hY => by
     rw [hY]
     exact ⟨lb_five ((H7.out.2.2.2.1.other _ _ hne2).other _ _ hne2) _ _ _ _ _, below_five ((H7.out.2.2.1.setCell HGE.out.2 _).setCell HGE.out.2 _) HGE.out.1 _ _ _ _ _⟩
    go_wp2_with fail
    refine bodyPost_ret (results_cell_slot (p := 4) (s := 5) (ty := 31) rfl _ _ g3 (actl 4 S.x.id U S.x.tr N) _ rfl (HR.out _ rfl).1.range Tryd.underlying31 rfl infoAct) rfl ?_
    exact ⟨by rw [HRK.out]; rfl, (HR.out _ rfl).2⟩
  ·have e1 : (K == 1) = false := by rw [beq_eq_false_iff_ne]; omega
   have e2 : (K == 2) = false := by rw [beq_eq_false_iff_ne]; omega
   have e3 : (K == 3) = false := by rw [beq_eq_false_iff_ne]; omega
   have e4 : (K == 4) = false := by rw [beq_eq_false_iff_ne]; omega
   have hk3 : w.heap.size ≤ g3 := by have := HG3.out; omega
   have HR : Hid (∀ Y, Y = ((((wc.setCell ⟨g3, 0, none⟩ (.int .i64 K)).setCell ⟨g3, 1, none⟩ (.int .i64 S.x.id)).setCell ⟨g3, 2, none⟩ (.int .i64 0)).setCell ⟨g3, 3, none⟩ (.int .i64 0)).setCell ⟨g3, 4, none⟩ (.string ⟨#[]⟩) → LB Y g3 31 (actl K S.x.id 0 0 ⟨#[]⟩) ∧ Below w.heap.size w Y) := fun Y hY => by rw [hY]; exact ⟨lb_five H2.out.2.2.2.1 _ _ _ _ _, below_five H2.out.2.2.1 hk3 _ _ _ _ _⟩
   have h13 : ¬(K = 1 ∨ K = 3) := by omega
   have h24 : ¬(K = 2 ∨ K = 4) := by omega
   have HRK : Hid (R = .agg (actl K S.x.id 0 0 ⟨#[]⟩).toArray) := by show _ = _; rw [HNV.out, if_neg hk, if_neg hk, if_neg h13, if_neg h24]
   go_wp2_with fail
   refine bodyPost_ret (results_cell_slot (p := 4) (s := 5) (ty := 31) rfl _ _ g3 (actl K S.x.id 0 0 ⟨#[]⟩) _ rfl (HR.out _ rfl).1.range Tryd.underlying31 rfl infoAct) rfl ?_
   exact ⟨by rw [HRK.out]; rfl, (HR.out _ rfl).2⟩
end Go.Proofs.YtodcakplmoajiaaDoor
