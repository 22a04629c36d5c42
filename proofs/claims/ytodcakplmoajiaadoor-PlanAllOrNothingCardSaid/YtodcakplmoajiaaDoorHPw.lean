/-
  PlanAllOrNothing: the walk.
-/
import Derived.Test.YtodcakplmoajiaaDoorHPv
namespace Go.Proofs.YtodcakplmoajiaaDoor
open Go Go.RowKit
open Wb

/-- an answer -/
structure An where
  o : Int
  c : Int
  d : Value
  l : List Nat
def AnsAt (w : World) (v : Value) (an : List An) : Prop := ∃ ao, ∃ cap : Nat, v = .slice ao an.length cap ∧ an.length ≤ cap ∧ an.length ≤ 140737488355328 ∧ ∀ k a, an[k]? = some a → (∃ b off, ao = some ⟨b, off, none⟩ ∧ w.rangeAt b (off + k * 3) (anl a.o a.c a.d)) ∧ Bs w a.d a.l ∧ -9223372036854775808 ≤ a.c ∧ a.c ≤ 9223372036854775807
theorem and3 (o : Int) : 0 ≤ bits .and .i64 o 3 ∧ bits .and .i64 o 3 ≤ 3 := by
  have e : bits .and .i64 o 3 = IntKind.i64.wrap ((BitVec.ofInt 64 o &&& BitVec.ofInt 64 3).toNat : Int) := rfl
  have h : (BitVec.ofInt 64 o &&& BitVec.ofInt 64 3).toNat ≤ 3 := by
    rw [BitVec.toNat_and]
    exact Nat.le_trans Nat.and_le_right (by decide)
  rw [e, IntWalk.i64_in _ (by omega)]
  omega
theorem fErr_bound (p : Pln) : 0 ≤ (fErr p).1 ∧ (fErr p).1 ≤ 1000 := by
  unfold fErr
  repeat' split
  all_goals first | decide | exact firstErr_bound p 0 p.ss
theorem talN_len (N : List Int) (x : Nums) : (talN N x).length = N.length := by
  unfold talN
  repeat' split
  all_goals simp
theorem outs_le {S : Sg} (hc : chkS S = true) : S.outs.length ≤ 32 ∧ S.und.length ≤ 32 := by
  obtain ⟨⟨_, _, c3, _⟩, hG⟩ := (chkS_iff S).1 hc
  rcases hG with ⟨g, _, _, _, c4, c5, c6, c7, _⟩ | ⟨g, _, _, _, c4, c5, c6, _⟩ | ⟨g, u1, u2, _, u4, u5, u6, _⟩ | ⟨g, _, u1, u2, _, u4, u5, u6, _⟩
  · rw [c4]; simp; omega
  · rw [c4]; simp; omega
  · omega
  · omega
set_option maxRecDepth 100000 in
set_option maxHeartbeats 8000000 in
theorem planAll_walk (p : Pln) (v : Value) (id : Int) (d : Value) (l : List Nat) (va : Value) (an : List An) (w : World) (hs : StsAt w v p.ss) (ht : Text.TabP 3 .i32 Text.Tx.lets w) (hf : PFit p) (hT : STabs w) (hb : Bs w d l) (ha : AnsAt w va an) (hid : id ≤ 9223372036854775807) (HSI0 : ∀ w', STabs w' → Calls Tryd.prog 5 #[] w' fun e w'' => e = .returned (.bool true) ∧ Below w'.heap.size w' w'') : Calls Tryd.prog 4 #[plv p v, .int .i64 id, d, va] w fun e w' => e = .returned (.bool true) ∧ Below w.heap.size w w' := by
  have HSI : Hid (∀ w', Below w.heap.size w w' → Calls Tryd.prog 5 #[] w' fun e w'' => e = .returned (.bool true) ∧ Below w'.heap.size w' w'') := fun w' hb => HSI0 w' (hT.kept hb)
  have HCK0 : ∀ w', Below w.heap.size w w' → Calls Tryd.prog 9 #[plv p v] w' fun e w'' => e = .returned (.int .i64 (fErr p).1) ∧ Below w'.heap.size w' w'' := fun w' hb => pcheck_any p v w' (hs.kept hb) (ht.kept hb) hf
  have HNU : Hid (∀ w' n, 0 ≤ n → n ≤ 1000 → Calls Tryd.prog 7 #[.int .i64 n] w' fun e w'' => e = .returned (.int .i64 n) ∧ w' = w'') := fun w' n h1 h2 => pnum_any n w' (by omega) (by omega)
  have HBG0 : (fErr p).1 = 0 → 1 ≤ id → l.length ≤ 16384 → ∀ w', Below w.heap.size w w' → Calls Tryd.prog 10 #[plv p v, .int .i64 id, d] w' fun e w'' => ∃ h', e = .returned (.tuple #[sv (sg0 p id l) h', .bool true]) ∧ SgO w'.heap.size w'' (sg0 p id l) h' ∧ Below w'.heap.size w' w'' := fun h1 h2 h3 w' hb' => by
    have e := pbegun_any p v id d l w' (hs.kept hb') (hT.kept hb') (hb.kept hb') hf.nm (fit_v3 _ (beg_v3 h1 h2 h3) hid) (by rw [beg_eq h1 h2 h3])
    rw [beg_eq h1 h2 h3] at e
    exact e
  have HNM : ∀ T : Sg, fitP p T = 0 → T.nm.size ≤ 140737488355000 := fun T hf2 => by
    have e := (pfits_iff hf2).2.2.1
    rw [bytes_toListQ e]; exact hf.nm
  have HSA0 : ∀ (T : Sg) (h' : SH) (O cc : Int) (d2 : Value) (l2 : List Nat) w', Below w.heap.size w w' → SgAt w' T h' → fitP p T = 0 → Bs w' d2 l2 → l2.length ≤ 16384 → 1 ≤ O ∧ O ≤ 4 → Calls Tryd.prog 11 #[plv p v, sv T h', .agg (anl O cc d2).toArray] w' fun e w'' => ∃ a' n' c', e = .returned (rv (saidX p T O cc) ⟨#[]⟩ (.slice a' n' c')) ∧ Below w'.heap.size w' w'' := fun T h' O cc d2 l2 w' hb' k f b2 n o => psaid_any p v T h' O cc d2 l2 w' ⟨hs.kept hb', k, ht.kept hb', hf, HNM T f⟩ b2 n f o
  have HTU0 : ∀ (T : Sg) (h' : SH) (O cc : Int) (d2 : Value) (l2 : List Nat) w', Below w.heap.size w w' → SgAt w' T h' → fitP p T = 0 → Bs w' d2 l2 → l2.length ≤ 16384 → 1 ≤ O ∧ O ≤ 4 → -9223372036854775808 ≤ cc → cc ≤ 9223372036854775807 → Calls Tryd.prog 8 #[plv p v, sv T h', .agg (anl O cc d2).toArray] w' fun e w'' => TuG p T h' O cc l2 w' e w'' := fun T h' O cc d2 l2 w' hb' k f b2 n o c1 c2 => pturnG_any p v T h' O cc d2 l2 w' ⟨hs.kept hb', k, ht.kept hb', hf, HNM T f⟩ (hT.kept hb') b2 n f o c1 c2
  have HWI0 : ∀ (N : List Int) (x y : Value) w', Below w.heap.size w w' → N.length = 96 → p.ss.length ≤ 32 → (∀ (i : Nat) (s : Stp) (n : Int), p.ss[i]? = some s → N[i]? = some n → (p.piv = 0 ∨ (i : Int) < p.piv) → n ≤ s.t) → Calls Tryd.prog 14 #[.agg (tll N x y).toArray, plv p v] w' fun e w'' => e = .returned (.bool true) ∧ Below w'.heap.size w' w'' := fun N x y w' hb' h1 h2 h3 => plwithin_any N x y p v w' h1 (hs.kept hb') h2 h3
  have HOK : Hid (ok l) := hb.good
  have HID : Hid (id ≤ 9223372036854775807) := hid
  have hEB := fErr_bound p
  obtain ⟨sa, sc, es, hs1, hs2, -⟩ := hs
  obtain ⟨ad, cd, ed, hlc, hcm, -⟩ := hb.shape
  subst ed
  obtain ⟨aa, ac, ea, ha1, ha2, ha3⟩ := ha
  subst ea es
  unfold maxLen at hcm hs2
  have HAN : Hid (∀ k a, an[k]? = some a → (∃ b off, aa = some ⟨b, off, none⟩ ∧ w.rangeAt b (off + k * 3) (anl a.o a.c a.d)) ∧ Bs w a.d a.l ∧ -9223372036854775808 ≤ a.c ∧ a.c ≤ 9223372036854775807) := ha3
  have HCAP : Hid (an.length ≤ ac ∧ an.length ≤ 140737488355328) := ⟨ha1, ha2⟩
  obtain ⟨C, hC, hM, hG⟩ := plv_letter p (.slice sa p.ss.length sc)
  rw [hC] at HCK0 HBG0 HSA0 HTU0 HWI0 ⊢
  have HCK : Hid _ := HCK0
  have HBG : Hid _ := HBG0
  have HSA : Hid _ := HSA0
  have HTU : Hid _ := HTU0
  have HWI : Hid _ := HWI0
  have HM : Hid _ := hM
  have HG : Hid (C = plvl p (.slice sa p.ss.length sc)) := hG
  clear hC hM hG HCK0 HBG0 HSA0 HTU0 HWI0 ha3 HNM
  go_enter Tryd.func4, Tryd.ntmps4
  go_upto_region 1 with fail
  obtain ⟨W, eW⟩ : ∃ W, W = w.alloc (.cells C.toArray 24) := ⟨_, rfl⟩
  rw [← eW]
  have H0 : Hid (LB W w.heap.size 24 C ∧ Below w.heap.size w W) := by rw [eW]; exact ⟨lb_new w C _, up0 _ _⟩
  clear eW
  go_wp2_with fail
  refine (HSI.out _ H0.out.2).mono ?_
  rintro e w1 ⟨rfl, b1⟩
  have H1 : Hid (LB w1 w.heap.size 24 C ∧ Below w.heap.size w w1) := ⟨H0.out.1.kept b1, andThen H0.out.2 b1⟩
  clear b1 H0 HSI
  go_wp2_with (first | (refine wpList_load_mid rfl 24 _ rfl w.heap.size 0 rfl C _ H1.out.1.range Tryd.underlying24 rfl HM.out ?_) | (refine wpList_load_midG rfl 24 _ rfl w.heap.size 0 rfl C _ H1.out.1.range Tryd.underlying24 rfl HM.out ?_) | fail)
  refine (HCK.out _ H1.out.2).mono ?_
  rintro e w2 ⟨rfl, b2⟩
  have H2 : Hid (LB w2 w.heap.size 24 C ∧ Below w.heap.size w w2) := ⟨H1.out.1.kept b2, andThen H1.out.2 b2⟩
  clear b2 H1 HCK
  obtain ⟨E, hE⟩ : ∃ E, E = (fErr p).1 := ⟨_, rfl⟩
  rw [← hE] at hEB ⊢
  have HER : Hid (E = (fErr p).1) := hE
  have HEB : Hid (0 ≤ E ∧ E ≤ 1000) := hEB
  clear hE hEB
  by_cases hz : E = 0
  case neg =>
    have hE2 : (E != 0) = true := by simpa using hz
    clear hz
    go_wp2_with fail
    refine (HNU.out _ E HEB.out.1 HEB.out.2).mono ?_
    rintro e w3 ⟨rfl, rfl⟩
    go_wp2_with fail
    go_ret
    exact ⟨rfl, H2.out.2⟩
  subst hz
  have HFE : Hid ((fErr p).1 = 0) := HER.out.symm
  clear HER HEB
  by_cases hi : id < 1
  · go_wp2_with fail
    refine (HNU.out _ 0 (by decide) (by decide)).mono ?_
    rintro e w3 ⟨rfl, rfl⟩
    have d1 : decide (id < 1) = true := by simpa using hi
    go_wp2_with fail
    go_ret
    exact ⟨rfl, H2.out.2⟩
  have d1 : decide (id < 1) = false := by simpa using hi
  have HI1 : Hid (1 ≤ id) := by show _ ≤ _; omega
  by_cases hl : 16384 < l.length
  · go_wp2_with fail
    refine (HNU.out _ 0 (by decide) (by decide)).mono ?_
    rintro e w3 ⟨rfl, rfl⟩
    have d2 : decide ((l.length : Int) > 16384) = true := by simp; omega
    go_wp2_with fail
    go_ret
    exact ⟨rfl, H2.out.2⟩
  have d2 : decide ((l.length : Int) > 16384) = false := by simp; omega
  have HL1 : Hid (l.length ≤ 16384) := by show _ ≤ _; omega
  go_wp2_with fail
  refine (HNU.out _ 0 (by decide) (by decide)).mono ?_
  rintro e w3 ⟨rfl, rfl⟩
  clear hi hl
  go_wp2_with (first | (refine wpList_load_mid rfl 24 _ rfl w.heap.size 0 rfl C _ H2.out.1.range Tryd.underlying24 rfl HM.out ?_) | (refine wpList_load_midG rfl 24 _ rfl w.heap.size 0 rfl C _ H2.out.1.range Tryd.underlying24 rfl HM.out ?_) | fail)
  refine (HBG.out HFE.out HI1.out HL1.out _ H2.out.2).mono ?_
  rintro e w4 ⟨h4, rfl, o4, b4⟩

  obtain ⟨Z, hZ⟩ : ∃ Z, Z = zcl := ⟨_, rfl⟩
  have HZ : Hid (Z = zcl) := hZ
  have HZL : Hid (Z.length = 16) := by show _ = _; rw [hZ]; rfl
  clear hZ
  obtain ⟨D4, hD, hL, hE⟩ := sv_letter (sg0 p id l) h4
  rw [hD]
  have HDL4 : Hid _ := hL
  have HDE4 : Hid (D4 = scl (sg0 p id l) h4) := hE
  have HDO4 : Hid (∀ v ∈ D4, v.oneCell' = true) := by show ∀ v ∈ D4, _; rw [hE]; exact scl_one _ _
  have HDZ4 : Hid (D4.length = Z.length) := by show _ = _; rw [hE, HZL.out]; rfl
  have HT4 : Hid ((w4.alloc (.cells Z.toArray 28)).there w4.heap.size 0 D4.toArray.size) := there_of (lb_new w4 Z _) (by simpa using HDZ4.out)
  have E4 : Hid (∃ Y, Y = (w4.alloc (.cells Z.toArray 28)).setCells w4.heap.size 0 D4 ∧ LB Y w4.heap.size 28 (scl (sg0 p id l) h4) ∧ LB Y w.heap.size 24 C ∧ Below w.heap.size w Y ∧ SgO w.heap.size Y (sg0 p id l) h4 ∧ w.heap.size ≤ w4.heap.size) := by
    obtain ⟨q1, q2⟩ := one_boxQ w4 28 Z D4 HDZ4.out
    have q3 := andThen b4 q2
    exact ⟨_, rfl, by rw [← hE]; exact q1, H2.out.1.kept q3, andThen H2.out.2 q3, (o4.weak H2.out.2.size).kept q2, (andThen H2.out.2 b4).size⟩
  clear hD hL hE o4 b4 H2 HBG
  obtain ⟨ZT, hZT⟩ : ∃ ZT, ZT = ztl := ⟨_, rfl⟩
  have HZT : Hid (ZT = ztl) := hZT
  clear hZT
  go_upto_region 6 with (first | (refine wpList_alloc_Z HZ.out rfl rfl ?_) | (refine wpList_store_mid rfl 28 (.tmp 10) (.tmp 40) rfl w4.heap.size 0 D4.toArray rfl rfl HT4.out (by simpa using HDL4.out) (all_oneCell_toArray HDO4.out) ?_; (obtain ⟨Y4, hY, hq⟩ := E4.out); (have H4 : Hid _ := hq); (rw [List.toList_toArray, ← hY]); (clear hY hq E4 HT4)) | (refine wpList_alloc_T HZT.out rfl rfl ?_) | fail)
  generalize w4.heap.size = g10 at *
  obtain ⟨W5, eW⟩ : ∃ W5, W5 = Y4.alloc (.cells ZT.toArray 48) := ⟨_, rfl⟩
  rw [← eW]
  have HAI : Hid (AI w p an.length g10 Y4.heap.size W5 0 false (sg0 p id l) h4 (List.replicate 96 0) [] [] (.slice none 0 0) (.slice none 0 0)) := by
    have z := H4.out
    rw [eW]
    have hfit := beg_fits HFE.out HI1.out HID.out HL1.out HOK.out
    refine ⟨z.1.kept (up0 _ _), ?_, up z.2.2.1 _, z.2.2.2.1.kept (up0 _ _), ⟨Fld.roI_nil _ _, fun _ => rfl, (Y4.alloc (.cells ZT.toArray 48)).heap.size, (up z.2.2.1 _).size, Nat.le_refl _, Fld.roI_nil _ _, fun g e => by simp [Value.ownBlock] at e⟩, hfit, PT.zero HFE.out, (fun e => by cases e), fun _ => ?_, by omega⟩
    · have e := lb_new Y4 ZT 48
      rw [HZT.out] at e
      rw [HZT.out]
      exact e
    · have g1 := (turn_good (sg0 p id l) [] (pfits_iff hfit).2.1 rfl (by simp)).2.2.2.1
      have e0 : (sg0 p id l).x.ended = false := rfl
      rw [e0]
      simp [sg0] at g1 ⊢
      exact g1
  have HBC : Hid (LB W5 w.heap.size 24 C ∧ w.heap.size ≤ g10 ∧ w.heap.size ≤ Y4.heap.size) := by
    rw [eW]
    exact ⟨H4.out.2.1.kept (up0 _ _), H4.out.2.2.2.2, H4.out.2.2.1.size⟩
  clear eW H4 HDL4 HDO4 HDZ4 HDE4
  generalize Y4.heap.size = g11 at *
  have HSL : Hid (p.ss.length ≤ 32) := (tries_ok HFE.out).1
  go_wp2_with fail
  go_loopw [13, 12, 9] (fun i en ok wr => ∃ (k : Nat) (b : Bool) (T : Sg) (h' : SH) (N L1 L2 : List Int) (x y : Value), i = .int .i64 (k : Int) ∧ en = .bool b ∧ ok = .bool true ∧ AI w p an.length g10 g11 wr k b T h' N L1 L2 x y ∧ LB wr w.heap.size 24 C) (fun i _ _ _ => an.length + 2 * p.ss.length + 3 - (intOf i).toNat)
  case atStart => exact ⟨0, false, _, _, _, _, _, _, _, rfl, rfl, rfl, HAI.out, HBC.out.1⟩
  case round =>
    obtain ⟨k, b, T, h', N, L1, L2, x, y, rfl, rfl, rfl, hI, hBC⟩ := hrel
    have HI : Hid (AI w p an.length g10 g11 wr k b T h' N L1 L2 x y ∧ LB wr w.heap.size 24 C) := ⟨hI, hBC⟩
    clear hI hBC HAI
    have c1 := HI.out.2.cell 1 (.int .i64 p.piv) (by rw [HG.out]; rfl)
    have c2 := HI.out.2.cell 2 (.slice sa p.ss.length sc) (by rw [HG.out]; rfl)
    have hw1 : IntKind.wrap .i64 (2 * (p.ss.length : Int)) = 2 * (p.ss.length : Int) := IntWalk.i64_in _ (by have := HSL.out; omega)
    have hw2 : IntKind.wrap .i64 ((an.length : Int) + 2 * (p.ss.length : Int)) = (an.length : Int) + 2 * (p.ss.length : Int) := IntWalk.i64_in _ (by have := HSL.out; have := HCAP.out; omega)
    have hw3 : IntKind.wrap .i64 ((an.length : Int) + 2 * (p.ss.length : Int) + 2) = (an.length : Int) + 2 * (p.ss.length : Int) + 2 := IntWalk.i64_in _ (by have := HSL.out; have := HCAP.out; omega)
    cases b with
    | false =>
      have hk : (k : Int) < (an.length : Int) + 2 * (p.ss.length : Int) + 2 := by have h1 := HI.out.1.go rfl; omega
      have dk : decide ((k : Int) < (an.length : Int) + 2 * (p.ss.length : Int) + 2) = true := by simpa using hk
      have HAF : Hid ((Tryd.prog.info? 39).map (·.size) = some 3) := infoAns
      go_upto_if 65 with fail
      obtain ⟨X, eX⟩ : ∃ X, X = wr.alloc (.cells #[.int .i64 1, .int .i64 0, .slice none 0 0] 39) := ⟨_, rfl⟩
      rw [← eX]
      have HX : Hid (LB X wr.heap.size 39 [.int .i64 1, .int .i64 0, .slice none 0 0] ∧ Below wr.heap.size wr X) := by rw [eX]; exact ⟨lb_new wr _ _, up0 _ _⟩
      clear eX
      go_cut [14] from 65 to 79 (fun s wx => ∃ (O cc : Int) (d2 : Value) (l2 : List Nat), s = .pointer (some ⟨wr.heap.size, 0, none⟩) ∧ LB wx wr.heap.size 39 (anl O cc d2) ∧ Below wr.heap.size wr wx ∧ (1 ≤ O ∧ O ≤ 4) ∧ (-9223372036854775808 ≤ cc ∧ cc ≤ 9223372036854775807) ∧ (∀ Y, Below w.heap.size w Y → Bs Y d2 l2) ∧ l2.length ≤ 16384 ∧ (an.length ≤ k → O = 1 ∧ cc = 0))
      case first =>
        by_cases hka : k < an.length
        · obtain ⟨⟨bb, off, eb, hr⟩, hbs, hx1, hx2⟩ := HAN.out k an[k] (List.getElem?_eq_getElem hka)
          subst eb
          generalize an[k] = A at *
          obtain ⟨O, cc, d2, l2⟩ := A
          simp only at hr hbs hx1 hx2
          obtain ⟨a2, n2, e2, -⟩ := hbs.shape
          subst e2
          have HXB : Hid (X.rangeAt bb (off + k * 3) (anl O cc (.slice a2 l2.length n2)) ∧ Bs X (.slice a2 l2.length n2) l2) := ⟨range_kept hr (andThen HI.out.1.bel HX.out.2), hbs.kept (andThen HI.out.1.bel HX.out.2)⟩
          have hbsr : Bs w (.slice a2 l2.length n2) l2 := hbs
          clear hr hbs
          have dka : decide ((k : Int) < (an.length : Int)) = true := by simpa using hka
          obtain ⟨DA, hDA⟩ : ∃ DA, DA = anl O cc (.slice a2 l2.length n2) := ⟨_, rfl⟩
          have HDA : Hid ((Tryd.prog.info? 39).map (·.size) = some DA.length ∧ (∀ v ∈ DA, v.oneCell' = true) ∧ DA.length = 3 ∧ DA = [.int .i64 O, .int .i64 cc, .slice a2 l2.length n2]) := by
            rw [hDA]
            refine ⟨infoAns, ?_, rfl, rfl⟩
            intro v hv
            simp only [anl, List.mem_cons, List.not_mem_nil, or_false] at hv
            rcases hv with rfl | rfl | rfl <;> rfl
          rw [← hDA] at HXB
          clear hDA
          have HT6 : Hid (X.there wr.heap.size 0 DA.toArray.size) := there_of HX.out.1 (by simp [HDA.out.2.2.1])
          go_upto_region 13 with (first | (refine wpList_load_mid rfl 39 _ rfl bb (off + k * 3) rfl DA _ HXB.out.1 Tryd.underlying39 rfl HDA.out.1 ?_) | (refine wpList_store_mid rfl 39 (.tmp 14) (.tmp 69) rfl wr.heap.size 0 DA.toArray rfl rfl HT6.out (by simpa using HDA.out.1) (all_oneCell_toArray HDA.out.2.1) ?_; (rw [List.toList_toArray])) | fail)
          obtain ⟨X2, eX⟩ : ∃ X2, X2 = X.setCells wr.heap.size 0 DA := ⟨_, rfl⟩
          rw [← eX]
          have HX2 : Hid (LB X2 wr.heap.size 39 DA ∧ Below wr.heap.size wr X2) := by
            rw [eX]
            exact ⟨HX.out.1.sets DA (by rw [HDA.out.2.2.1]; rfl), below_cells (Nat.le_refl _) _ 0 _ HX.out.2⟩
          have HBS : Hid (∀ Y, Below w.heap.size w Y → Bs Y (.slice a2 l2.length n2) l2) := fun Y hY => hbsr.kept hY
          clear eX HX HXB HT6
          have c0 := HX2.out.1.cell 0 (.int .i64 O) (by rw [HDA.out.2.2.2]; rfl)
          have c2a := HX2.out.1.cell 2 (.slice a2 l2.length n2) (by rw [HDA.out.2.2.2]; rfl)
          have f0 := HX2.out.1.free 0
          obtain ⟨b31, b32⟩ := and3 O
          go_upto_region 14 with fail
          obtain ⟨X3, eX⟩ : ∃ X3, X3 = X2.setCell ⟨wr.heap.size, 0, none⟩ (.int .i64 (1 + bits .and .i64 O 3)) := ⟨_, rfl⟩
          try rw [← eX]
          have HX3 : Hid (LB X3 wr.heap.size 39 (anl (1 + bits .and .i64 O 3) cc (.slice a2 l2.length n2)) ∧ Below wr.heap.size wr X3) := by
            rw [eX]
            have e := HX2.out.1.set 0 (.int .i64 (1 + bits .and .i64 O 3))
            rw [HDA.out.2.2.2] at e
            exact ⟨e, HX2.out.2.setCell (Nat.le_refl _) _⟩
          clear eX HX2 c0 c2a f0
          have c2b := HX3.out.1.cell 2 (.slice a2 l2.length n2) rfl
          have f2 := HX3.out.1.free 2
          have HO : Hid (1 ≤ 1 + bits .and .i64 O 3 ∧ 1 + bits .and .i64 O 3 ≤ 4) := by constructor <;> omega
          by_cases hl2 : 16384 < l2.length
          · have d2 : decide ((l2.length : Int) > 16384) = true := by simp; omega
            go_wp2_with fail
            go_meet
            refine ⟨_, cc, .slice none 0 0, [], rfl, HX3.out.1.set 2 (.slice none 0 0), HX3.out.2.setCell (Nat.le_refl _) _, HO.out, ⟨hx1, hx2⟩, fun Y _ => Bs.nil Y, by simp, fun h => by omega⟩
          · have d2 : decide ((l2.length : Int) > 16384) = false := by simp; omega
            go_wp2_with fail
            go_meet
            exact ⟨_, cc, _, l2, rfl, HX3.out.1, HX3.out.2, HO.out, ⟨hx1, hx2⟩, HBS.out, by omega, fun h => by omega⟩
        · have dka : decide ((k : Int) < (an.length : Int)) = false := by simpa using hka
          go_wp2_with fail
          go_meet
          exact ⟨1, 0, _, [], rfl, HX.out.1, HX.out.2, by decide, by decide, fun Y _ => Bs.nil Y, by simp, fun _ => ⟨rfl, rfl⟩⟩
      case rest =>
        obtain ⟨O, cc, d2, l2, rfl, hA1, hA2, hA3, hA4, hA5, hA6, hA7⟩ := hcut
        clear HX c1 c2 dk hk HAF
        obtain ⟨DT, hDT, hLT, hET⟩ := sv_letter T h'
        obtain ⟨DA, hDA⟩ : ∃ DA, DA = anl O cc d2 := ⟨_, rfl⟩
        obtain ⟨TT, hTT⟩ : ∃ TT, TT = tll N x y := ⟨_, rfl⟩
        have HA : Hid (LB wc wr.heap.size 39 DA ∧ Below wr.heap.size wr wc) := by rw [hDA]; exact ⟨hA1, hA2⟩
        have HO : Hid ((1 ≤ O ∧ O ≤ 4) ∧ (-9223372036854775808 ≤ cc ∧ cc ≤ 9223372036854775807) ∧ (∀ Y, Below w.heap.size w Y → Bs Y d2 l2) ∧ l2.length ≤ 16384 ∧ (an.length ≤ k → O = 1 ∧ cc = 0)) := ⟨hA3, hA4, hA5, hA6, hA7⟩
        have HDA : Hid ((Tryd.prog.info? 39).map (·.size) = some DA.length) := by rw [hDA]; exact infoAns
        have HLT : Hid _ := hLT
        have HTE : Hid (DT = scl T h') := hET
        have HSV : Hid (sv T h' = .agg DT.toArray) := hDT
        have HAE : Hid (DA = anl O cc d2) := hDA
        have HTT : Hid (TT = tll N x y ∧ (Tryd.prog.info? 48).map (·.size) = some TT.length ∧ TT.length = 98) := by rw [hTT]; exact ⟨rfl, by rw [tll_len HI.out.1.pt.len]; exact infoTal, tll_len HI.out.1.pt.len⟩
        clear hA1 hA2 hA3 hA4 hA5 hA6 hA7 hDT hLT hET hDA hTT
        have HC1 : Hid (LB wc w.heap.size 24 C ∧ LB wc g10 28 DT ∧ LB wc g11 48 TT ∧ Below w.heap.size w wc) := by
          rw [HTE.out, HTT.out.1]
          exact ⟨HI.out.2.kept HA.out.2, HI.out.1.bx.kept HA.out.2, HI.out.1.tb.kept HA.out.2, andThen HI.out.1.bel HA.out.2⟩
        have HS1 : Hid (Calls Tryd.prog 11 #[.agg C.toArray, .agg DT.toArray, .agg DA.toArray] wc fun e w'' => ∃ a' n' c', e = .returned (rv (saidX p T O cc) ⟨#[]⟩ (.slice a' n' c')) ∧ Below wc.heap.size wc w'') := by
          have e := HSA.out T h' O cc d2 l2 wc HC1.out.2.2.2 (HI.out.1.ks.kept HA.out.2).at HI.out.1.fit (HO.out.2.2.1 _ HC1.out.2.2.2) HO.out.2.2.2.1 HO.out.1
          rw [HSV.out, ← HAE.out] at e
          exact e
        go_wp2_with (first | (refine wpList_load_mid rfl 24 _ rfl w.heap.size 0 rfl C _ HC1.out.1.range Tryd.underlying24 rfl HM.out ?_) | (refine wpList_load_mid rfl 28 _ rfl g10 0 rfl DT _ HC1.out.2.1.range Tryd.underlying28 rfl HLT.out ?_) | (refine wpList_load_mid rfl 39 _ rfl wr.heap.size 0 rfl DA _ HA.out.1.range Tryd.underlying39 rfl HDA.out ?_) | fail)
        refine HS1.out.mono ?_
        rintro e w6 ⟨a6, n6, c6, rfl, b6⟩
        obtain ⟨X6, hX6⟩ : ∃ X6, X6 = saidX p T O cc := ⟨_, rfl⟩
        rw [← hX6]
        have HX6 : Hid (X6 = saidX p T O cc) := hX6
        obtain ⟨ZR, hZR⟩ : ∃ ZR, ZR = zrl := ⟨_, rfl⟩
        have HZR : Hid (ZR = zrl) := hZR
        have HZRL : Hid (ZR.length = 12) := by show _ = _; rw [hZR]; rfl
        clear hZR hX6
        obtain ⟨D6, hD, hL, hE⟩ := rv_letter X6 ⟨#[]⟩ (.slice a6 n6 c6)
        rw [hD]
        have HD6 : Hid (rv X6 ⟨#[]⟩ (.slice a6 n6 c6) = .agg D6.toArray) := hD
        have HDL6 : Hid _ := hL
        have HDO6 : Hid (∀ v ∈ D6, v.oneCell' = true) := by show ∀ v ∈ D6, _; rw [hE]; exact rcE_one _ _ _ rfl
        have HDZ6 : Hid (D6.length = ZR.length) := by show _ = _; rw [hE, HZRL.out]; rfl
        have HT6 : Hid ((w6.alloc (.cells ZR.toArray 50)).there w6.heap.size 0 D6.toArray.size) := there_of (lb_new w6 ZR _) (by simpa using HDZ6.out)
        have E6 : Hid (∃ Y, Y = (w6.alloc (.cells ZR.toArray 50)).setCells w6.heap.size 0 D6 ∧ LB Y w6.heap.size 50 D6 ∧ Below wr.heap.size wr Y ∧ LB Y w.heap.size 24 C ∧ LB Y g11 48 TT ∧ LB Y wr.heap.size 39 DA) := by
          obtain ⟨q1, q2⟩ := one_boxQ w6 50 ZR D6 HDZ6.out
          have q3 := andThen b6 q2
          exact ⟨_, rfl, q1, andThen HA.out.2 q3, HC1.out.1.kept q3, HC1.out.2.2.1.kept q3, HA.out.1.kept q3⟩
        clear hD hL hE b6 HS1 HC1 HA
        go_upto_region 17 with (first | (refine wpList_alloc_R HZR.out rfl rfl ?_) | (refine wpList_store_mid rfl 50 (.tmp 15) (.tmp 83) rfl w6.heap.size 0 D6.toArray rfl rfl HT6.out (by simpa using HDL6.out) (all_oneCell_toArray HDO6.out) ?_; (obtain ⟨Y6, hY, hq⟩ := E6.out); (have H6 : Hid _ := hq); (rw [List.toList_toArray, ← hY]); (clear hY hq E6 HT6)) | fail)
        generalize w6.heap.size = g6 at *
        have HTL : Hid (Calls Tryd.prog 12 #[.agg TT.toArray, .agg D6.toArray] Y6 fun e w' => ∃ x' y', e = .returned (.agg (tll (talN N X6) x' y').toArray) ∧ Rw w.heap.size w' x' y' (talD L1 X6) (talU L2 X6) ∧ Lv w.heap.size Y6 w') := by
          have q := HI.out.1
          have hc := (pfits_iff q.fit).2.1
          obtain ⟨s1, s2⟩ := said_ok (O := O) (cc := cc) q.fit HO.out.1 HO.out.2.1.1 HO.out.2.1.2 q.pt
          rw [← HX6.out] at s1 s2
          have hl1 : L1.length ≤ 1000 := by have h1 := (outs_le hc).1; rw [q.pt.did, ups_len]; omega
          have hl2 : L2.length ≤ 1000 := by have h1 := (outs_le hc).2; rw [q.pt.und, List.length_take]; omega
          have e := ptal_any w.heap.size N x y L1 L2 X6 ⟨#[]⟩ (.slice a6 n6 c6) Y6 q.pt.len (q.rw.kept H6.out.2.1) (andThen q.bel H6.out.2.1).size hl1 hl2 s1 s2 (fun j n hn => by have h1 := q.pt.pos j n hn; have h2 := q.few; have h3 := HCAP.out; have h4 := HSL.out; omega)
          rw [HD6.out, ← HTT.out.1] at e
          exact e
        go_wp2_with (first | (refine wpList_load_mid rfl 48 _ rfl g11 0 rfl TT _ H6.out.2.2.2.1.range Tryd.underlying48 rfl HTT.out.2.1 ?_) | (refine wpList_load_mid rfl 50 _ rfl g6 0 rfl D6 _ H6.out.1.range Tryd.underlying50 rfl HDL6.out ?_) | fail)
        refine HTL.out.mono ?_
        rintro e w7 ⟨x', y', rfl, r7, v7⟩
        have hN7 : (talN N X6).length = 96 := by rw [talN_len]; exact HI.out.1.pt.len
        obtain ⟨T7, hT7⟩ : ∃ T7, T7 = tll (talN N X6) x' y' := ⟨_, rfl⟩
        rw [← hT7]
        have ox : x'.oneCell' = true := by obtain ⟨_, _, e⟩ := Fld.RoI.shape r7.1; rw [e]; rfl
        have oy : y'.oneCell' = true := by obtain ⟨_, _, _, h9, _⟩ := r7.2.2; obtain ⟨_, _, e⟩ := Fld.RoI.shape h9; rw [e]; rfl
        have HT7 : Hid ((Tryd.prog.info? 48).map (·.size) = some T7.length ∧ (∀ v ∈ T7, v.oneCell' = true) ∧ T7.length = 98) := by rw [hT7]; exact ⟨by rw [tll_len hN7]; exact infoTal, tll_one ox oy, tll_len hN7⟩
        have HZ7 : Hid (w7.there g11 0 T7.toArray.size) := there_of (v7.lb _ _ _ (by decide) H6.out.2.2.2.1) (by simp [HT7.out.2.2, HTT.out.2.2])
        have E7 : Hid (∃ Y, Y = w7.setCells g11 0 T7 ∧ AM w g10 g11 Y T h' (talN N X6) (talD L1 X6) (talU L2 X6) x' y' ∧ LB Y w.heap.size 24 C ∧ LB Y wr.heap.size 39 DA) := by
          have z0 := v7.lb _ _ _ (by decide) H6.out.2.2.1
          have z1 := v7.lb _ _ _ (by decide) H6.out.2.2.2.1
          have z2 := v7.lb _ _ _ (by decide) H6.out.2.2.2.2
          exact ⟨_, rfl, HI.out.1.mid hN7 H6.out.2.1 v7 r7 HBC.out.2.2 (by rw [hT7]), z0.others _ _ _ (lb_ne z0 z1 (by decide)), z2.others _ _ _ (lb_ne z2 z1 (by decide))⟩
        clear hT7 r7 v7 HTL H6 ox oy hN7
        go_upto_region 18 with (first | (refine wpList_store_mid rfl 48 (.tmp 11) (.tmp 86) rfl g11 0 T7.toArray rfl rfl HZ7.out (by simpa using HT7.out.1) (all_oneCell_toArray HT7.out.2.1) ?_; (obtain ⟨Y7, hY, hq⟩ := E7.out); (have H7 : Hid _ := hq); (rw [List.toList_toArray, ← hY]); (clear hY hq E7 HZ7)) | fail)
        have HU : Hid (Calls Tryd.prog 8 #[.agg C.toArray, .agg DT.toArray, .agg DA.toArray] Y7 fun e w'' => TuG p T h' O cc l2 Y7 e w'') := by
          have q := H7.out.1
          have e := HTU.out T h' O cc d2 l2 Y7 q.bel q.ks.at HI.out.1.fit (HO.out.2.2.1 _ q.bel) HO.out.2.2.2.1 HO.out.1 HO.out.2.1.1 HO.out.2.1.2
          rw [HSV.out, ← HAE.out] at e
          exact e
        have HB7 : Hid (LB Y7 g10 28 DT) := by show LB _ _ _ _; rw [HTE.out]; exact H7.out.1.bx
        go_wp2_with (first | (refine wpList_load_mid rfl 24 _ rfl w.heap.size 0 rfl C _ H7.out.2.1.range Tryd.underlying24 rfl HM.out ?_) | (refine wpList_load_mid rfl 28 _ rfl g10 0 rfl DT _ HB7.out.range Tryd.underlying28 rfl HLT.out ?_) | (refine wpList_load_mid rfl 39 _ rfl wr.heap.size 0 rfl DA _ H7.out.2.2.range Tryd.underlying39 rfl HDA.out ?_) | fail)
        refine HU.out.mono ?_
        rintro e w8 ⟨T2, h2, b2, rfl, b8, hT2⟩
        obtain ⟨D2, hD2, hL2, hE2⟩ := sv_letter T2 h2
        rw [hD2]
        have HL2 : Hid _ := hL2
        have HO2 : Hid (∀ v ∈ D2, v.oneCell' = true) := by show ∀ v ∈ D2, _; rw [hE2]; exact scl_one _ _
        have HT8 : Hid (w8.there g10 0 D2.toArray.size) := there_of (HB7.out.kept b8) (by rw [HTE.out, hE2]; rfl)
        have E8 : Hid (∃ Y, Y = w8.setCells g10 0 D2 ∧ AI w p an.length g10 g11 Y (k + 1) b2 T2 h2 (talN N (saidX p T O cc)) (talD L1 (saidX p T O cc)) (talU L2 (saidX p T O cc)) x' y' ∧ LB Y w.heap.size 24 C) := by
          have zc := H7.out.2.1.kept b8
          have m := H7.out.1
          rw [HX6.out] at m
          refine ⟨_, rfl, HI.out.1.next m HO.out.2.2.2.1 HO.out.1 HO.out.2.1.1 HO.out.2.1.2 HO.out.2.2.2.2 b8 hT2 HBC.out.2.1 (by rw [hE2]), ?_⟩
          exact zc.others _ _ _ (lb_ne zc (HB7.out.kept b8) (by decide))
        clear hD2 hL2 hE2 hT2 b8 HU HB7 H7
        have hkw : IntKind.wrap .i64 ((k : Int) + 1) = (k : Int) + 1 := IntWalk.i64_in _ (by have h9 := HI.out.1.few; have := HSL.out; have := HCAP.out; omega)
        have HKB : Hid (k ≤ 140737488355500) := by have h9 := HI.out.1.few; have := HSL.out; have := HCAP.out; show _ ≤ _; omega
        go_wp2_with (first | (refine wpList_store_mid rfl 28 (.tmp 10) (.tmp 92) rfl g10 0 D2.toArray rfl rfl HT8.out (by simpa using HL2.out) (all_oneCell_toArray HO2.out) ?_; (obtain ⟨Y8, hY, hq⟩ := E8.out); (have H8 : Hid _ := hq); (rw [List.toList_toArray, ← hY]); (clear hY hq E8 HT8)) | fail)
        go_roundw
        case rel => exact ⟨k + 1, b2, T2, h2, _, _, _, _, _, by simp, rfl, rfl, H8.out.1, H8.out.2⟩
        case measure => simp [intOf]; have h9 := HI.out.1.few; omega
    | true =>
      obtain ⟨-, hcase⟩ := HI.out.1.last (.inr rfl)
      obtain ⟨DT, hDT, hLT, hET⟩ := sv_letter T h'
      obtain ⟨TT, hTT⟩ : ∃ TT, TT = tll N x y := ⟨_, rfl⟩
      have HTT : Hid (TT = tll N x y ∧ (Tryd.prog.info? 48).map (·.size) = some TT.length) := by rw [hTT]; exact ⟨rfl, by rw [tll_len HI.out.1.pt.len]; exact infoTal⟩
      have HB0 : Hid (LB wr g11 48 TT ∧ LB wr w.heap.size 24 C ∧ LB wr g10 28 DT) := by rw [hTT, hET]; exact ⟨HI.out.1.tb, HI.out.2, HI.out.1.bx⟩
      have HWT : Hid (∀ w', Below wr.heap.size wr w' → Calls Tryd.prog 14 #[.agg TT.toArray, .agg C.toArray] w' fun e w'' => e = .returned (.bool true) ∧ Below w'.heap.size w' w'') := fun w' hb' => by
        rw [HTT.out.1]
        exact HWI.out N x y w' (andThen HI.out.1.bel hb') HI.out.1.pt.len HSL.out (fun i s n h1 h2 h3 => HI.out.1.pt.beg i n s h2 h1 h3)
      have c7 := HB0.out.2.2.cell 7 (.int .i64 T.x.ph) (by rw [hET]; rfl)
      have hE7 : DT[7]? = some (.int .i64 T.x.ph) := by rw [hET]; rfl
      have hE1 : C[1]? = some (.int .i64 p.piv) := by rw [HG.out]; rfl
      clear hDT hLT hET hTT
      rcases hcase with ⟨h3, hL1, hy⟩ | ⟨h4, m, hL1, hL2, hm, hpv⟩
      · rw [h3] at c7 hE7
        have HE7 : Hid _ := hE7
        have HE1 : Hid _ := hE1
        have HOR : Hid (∀ w', Below wr.heap.size wr w' → Calls Tryd.prog 13 #[.agg TT.toArray, .bool true, .int .i64 (p.ss.length : Int)] w' fun e w'' => e = .returned (.bool true) ∧ Below w'.heap.size w' w'') := fun w' hb' => by
          have hr := HI.out.1.rw.1
          rw [hL1] at hr
          rw [HTT.out.1]
          exact porder_w w.heap.size N x y p.ss.length w' hy HI.out.1.pt.len (hr.kept hb') HSL.out
        clear hE7 hE1
        by_cases hk : (k : Int) < (an.length : Int) + 2 * (p.ss.length : Int) + 2
        all_goals
          go_wp2_with (first | (refine wpList_load_mid rfl 48 _ rfl g11 0 rfl TT _ HB0.out.1.range Tryd.underlying48 rfl HTT.out.2 ?_) | (refine wpList_load_mid rfl 24 _ rfl w.heap.size 0 rfl C _ HB0.out.2.1.range Tryd.underlying24 rfl HM.out ?_) | (refine wpList_load_midG rfl 48 _ rfl g11 0 rfl TT _ HB0.out.1.range Tryd.underlying48 rfl HTT.out.2 ?_) | (refine wpList_load_midG rfl 24 _ rfl w.heap.size 0 rfl C _ HB0.out.2.1.range Tryd.underlying24 rfl HM.out ?_) | fail)
          refine (HOR.out _ (Below.refl _ _)).mono ?_
          rintro e w9 ⟨rfl, b9⟩
          have H9 : Hid (LB w9 g11 48 TT ∧ LB w9 w.heap.size 24 C ∧ LB w9 g10 28 DT ∧ Below wr.heap.size wr w9) := ⟨HB0.out.1.kept b9, HB0.out.2.1.kept b9, HB0.out.2.2.kept b9, b9⟩
          clear b9
          go_wp2_with (first | (refine wpList_load_mid rfl 48 _ rfl g11 0 rfl TT _ H9.out.1.range Tryd.underlying48 rfl HTT.out.2 ?_) | (refine wpList_load_mid rfl 24 _ rfl w.heap.size 0 rfl C _ H9.out.2.1.range Tryd.underlying24 rfl HM.out ?_) | (refine wpList_load_midG rfl 48 _ rfl g11 0 rfl TT _ H9.out.1.range Tryd.underlying48 rfl HTT.out.2 ?_) | (refine wpList_load_midG rfl 24 _ rfl w.heap.size 0 rfl C _ H9.out.2.1.range Tryd.underlying24 rfl HM.out ?_) | fail)
          refine (HWT.out _ H9.out.2.2.2).mono ?_
          rintro e w10 ⟨rfl, b10⟩
          have H10 : Hid (LB w10 g11 48 TT ∧ LB w10 w.heap.size 24 C ∧ LB w10 g10 28 DT ∧ Below wr.heap.size wr w10) := ⟨H9.out.1.kept b10, H9.out.2.1.kept b10, H9.out.2.2.1.kept b10, andThen H9.out.2.2.2 b10⟩
          clear b10 H9
          have z7 := H10.out.2.2.1.cell 7 _ HE7.out
          have z1 := H10.out.2.1.cell 1 _ HE1.out
          go_wp2_with fail
          go_ret
          exact ⟨rfl, andThen HI.out.1.bel H10.out.2.2.2⟩
      · rw [h4] at c7 hE7
        have HE7 : Hid _ := hE7
        have HOR : Hid (∀ w', Below wr.heap.size wr w' → Calls Tryd.prog 13 #[.agg TT.toArray, .bool false, .int .i64 (p.ss.length : Int)] w' fun e w'' => e = .returned (.bool true) ∧ Below w'.heap.size w' w'') := fun w' hb' => by
          have hr := HI.out.1.rw.1
          obtain ⟨Bu, _, _, hu, _⟩ := HI.out.1.rw.2.2
          rw [hL1] at hr
          rw [hL2] at hu
          rw [HTT.out.1]
          exact porder_u w.heap.size Bu N x y m w' (p.ss.length : Int) (hu.kept hb') HI.out.1.pt.len (hr.kept hb') hm
        by_cases hp0 : p.piv = 0
        · rw [hp0] at c1 hE1
          have HE1 : Hid _ := hE1
          clear hE7 hE1
          by_cases hk : (k : Int) < (an.length : Int) + 2 * (p.ss.length : Int) + 2
          all_goals
            go_wp2_with (first | (refine wpList_load_mid rfl 48 _ rfl g11 0 rfl TT _ HB0.out.1.range Tryd.underlying48 rfl HTT.out.2 ?_) | (refine wpList_load_mid rfl 24 _ rfl w.heap.size 0 rfl C _ HB0.out.2.1.range Tryd.underlying24 rfl HM.out ?_) | (refine wpList_load_midG rfl 48 _ rfl g11 0 rfl TT _ HB0.out.1.range Tryd.underlying48 rfl HTT.out.2 ?_) | (refine wpList_load_midG rfl 24 _ rfl w.heap.size 0 rfl C _ HB0.out.2.1.range Tryd.underlying24 rfl HM.out ?_) | fail)
            refine (HOR.out _ (Below.refl _ _)).mono ?_
            rintro e w9 ⟨rfl, b9⟩
            have H9 : Hid (LB w9 g11 48 TT ∧ LB w9 w.heap.size 24 C ∧ LB w9 g10 28 DT ∧ Below wr.heap.size wr w9) := ⟨HB0.out.1.kept b9, HB0.out.2.1.kept b9, HB0.out.2.2.kept b9, b9⟩
            clear b9
            go_wp2_with (first | (refine wpList_load_mid rfl 48 _ rfl g11 0 rfl TT _ H9.out.1.range Tryd.underlying48 rfl HTT.out.2 ?_) | (refine wpList_load_mid rfl 24 _ rfl w.heap.size 0 rfl C _ H9.out.2.1.range Tryd.underlying24 rfl HM.out ?_) | (refine wpList_load_midG rfl 48 _ rfl g11 0 rfl TT _ H9.out.1.range Tryd.underlying48 rfl HTT.out.2 ?_) | (refine wpList_load_midG rfl 24 _ rfl w.heap.size 0 rfl C _ H9.out.2.1.range Tryd.underlying24 rfl HM.out ?_) | fail)
            refine (HWT.out _ H9.out.2.2.2).mono ?_
            rintro e w10 ⟨rfl, b10⟩
            have H10 : Hid (LB w10 g11 48 TT ∧ LB w10 w.heap.size 24 C ∧ LB w10 g10 28 DT ∧ Below wr.heap.size wr w10) := ⟨H9.out.1.kept b10, H9.out.2.1.kept b10, H9.out.2.2.1.kept b10, andThen H9.out.2.2.2 b10⟩
            clear b10 H9
            have z7 := H10.out.2.2.1.cell 7 _ HE7.out
            have z1 := H10.out.2.1.cell 1 _ HE1.out
            go_wp2_with fail
            go_ret
            exact ⟨rfl, andThen HI.out.1.bel H10.out.2.2.2⟩
        · have hfo := fErr_ok HFE.out
          obtain ⟨q, hq⟩ : ∃ q : Nat, p.piv = (q : Int) + 1 := ⟨(p.piv - 1).toNat, by omega⟩
          have hq2 : q < 32 := by have := HSL.out; omega
          rw [hq] at c1 hE1
          have HE1 : Hid _ := hE1
          have hqn : N[32 + q]? = some 0 := by
            have hlt : 32 + q < N.length := by rw [HI.out.1.pt.len]; omega
            have e := List.getElem?_eq_getElem hlt
            have z := HI.out.1.pt.don q _ e hq2 (by
              have e2 := HI.out.1.pt.did
              rw [hL1] at e2
              have e3 := congrArg List.length e2
              rw [ups_len, ups_len] at e3
              omega)
            rw [e, z]
          have HEQ : Hid (TT[32 + q]? = some (.int .i64 0)) := by show _ = _; rw [HTT.out.1]; exact tll_at hqn
          have hq3 : ((q : Int) + 1 == 0) = false := by rw [beq_eq_false_iff_ne]; omega
          clear hE7 hE1 hqn hfo
          by_cases hk : (k : Int) < (an.length : Int) + 2 * (p.ss.length : Int) + 2
          all_goals
            go_wp2_with (first | (refine wpList_load_mid rfl 48 _ rfl g11 0 rfl TT _ HB0.out.1.range Tryd.underlying48 rfl HTT.out.2 ?_) | (refine wpList_load_mid rfl 24 _ rfl w.heap.size 0 rfl C _ HB0.out.2.1.range Tryd.underlying24 rfl HM.out ?_) | (refine wpList_load_midG rfl 48 _ rfl g11 0 rfl TT _ HB0.out.1.range Tryd.underlying48 rfl HTT.out.2 ?_) | (refine wpList_load_midG rfl 24 _ rfl w.heap.size 0 rfl C _ HB0.out.2.1.range Tryd.underlying24 rfl HM.out ?_) | fail)
            refine (HOR.out _ (Below.refl _ _)).mono ?_
            rintro e w9 ⟨rfl, b9⟩
            have H9 : Hid (LB w9 g11 48 TT ∧ LB w9 w.heap.size 24 C ∧ LB w9 g10 28 DT ∧ Below wr.heap.size wr w9) := ⟨HB0.out.1.kept b9, HB0.out.2.1.kept b9, HB0.out.2.2.kept b9, b9⟩
            clear b9
            go_wp2_with (first | (refine wpList_load_mid rfl 48 _ rfl g11 0 rfl TT _ H9.out.1.range Tryd.underlying48 rfl HTT.out.2 ?_) | (refine wpList_load_mid rfl 24 _ rfl w.heap.size 0 rfl C _ H9.out.2.1.range Tryd.underlying24 rfl HM.out ?_) | (refine wpList_load_midG rfl 48 _ rfl g11 0 rfl TT _ H9.out.1.range Tryd.underlying48 rfl HTT.out.2 ?_) | (refine wpList_load_midG rfl 24 _ rfl w.heap.size 0 rfl C _ H9.out.2.1.range Tryd.underlying24 rfl HM.out ?_) | fail)
            refine (HWT.out _ H9.out.2.2.2).mono ?_
            rintro e w10 ⟨rfl, b10⟩
            have H10 : Hid (LB w10 g11 48 TT ∧ LB w10 w.heap.size 24 C ∧ LB w10 g10 28 DT ∧ Below wr.heap.size wr w10) := ⟨H9.out.1.kept b10, H9.out.2.1.kept b10, H9.out.2.2.1.kept b10, andThen H9.out.2.2.2 b10⟩
            clear b10 H9
            have z7 := H10.out.2.2.1.cell 7 _ HE7.out
            have z1 := H10.out.2.1.cell 1 _ HE1.out
            have zq := H10.out.1.cell (32 + q) _ HEQ.out
            go_wp2_with fail
            go_ret
            exact ⟨rfl, andThen HI.out.1.bel H10.out.2.2.2⟩
end Go.Proofs.YtodcakplmoajiaaDoor
