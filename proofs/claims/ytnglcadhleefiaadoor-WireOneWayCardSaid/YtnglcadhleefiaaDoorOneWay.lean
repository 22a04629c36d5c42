/-
  WireOneWay's walk.
-/
import Derived.Test.YtnglcadhleefiaaDoorBack
namespace Go.Proofs.YtnglcadhleefiaaDoor
open Go Go.RowKit
open Wb

theorem part_z (v : Value) (l : List Nat) (lo hi : Int) (w : World) (h : Bs w v l) (hlen : l.length ≤ 140737488355328) (hhi : hi ≤ 9223372036854775807) (x : List Nat) (hx : (l.take hi.toNat).drop lo.toNat = x) :
    Calls Tryd.prog 10 #[v, .int .i64 lo, .int .i64 hi] w fun e w' => ∃ v', e = .returned v' ∧ Own w.heap.size w' v' x ∧ Below w.heap.size w w' := by
  subst hx
  exact part_any v l lo hi w h hlen hhi

/-- what is read at q is there -/
theorem ru_there (l : List Nat) (q v n : Nat) (hok : ok l) (h : Wn.rd (l.drop q) 0 0 = (v, n, 0)) : (l.take (q + n)).drop q = Wn.uint v ∧ n = (Wn.uint v).length ∧ v < 18446744073709551616 := by
  obtain ⟨h1, h2, h3⟩ := rd_back0 (l.drop q) v n (ok_drop hok q) h
  refine ⟨?_, h1, h3⟩
  rw [← h2, List.drop_take]
  congr 1
  omega
theorem seg_join (l : List Nat) (q t x : Nat) (h1 : q ≤ t) : (l.take (t + x)).drop q = (l.take t).drop q ++ (l.take (t + x)).drop t := by
  rw [List.drop_take, List.drop_take, List.drop_take, show t + x - q = (t - q) + x by omega, List.take_add, List.drop_drop, show q + (t - q) = t by omega, show t + x - t = x by omega]

/-- what is read of a frame is there -/
theorem rf_there (l : List Nat) (p : Int) (hok : ok l) (h : (rf l p).2.2 = 0) : ∃ q m : Nat, p = (q : Int) ∧ (rf l p).2.1 = (m : Int) ∧ m ≤ l.length ∧ 0 < (rf l p).1.length ∧ (rf l p).1.length ≤ 1048576 ∧ (l.take m).drop q = fr (rf l p).1 := by
  rcases Wn.ru_cases l p with ⟨e, he, _, hr⟩ | ⟨q, v, n, rfl, hq, hn, hrd, hr⟩
  · rw [rf_err l p e he hr] at h
    exact absurd h he
  · obtain ⟨hU, hn2, hv⟩ := ru_there l q v n hok hrd
    rw [rf_at l q v n hr] at h ⊢
    generalize ht : q + n = t at *
    unfold rfAt at h ⊢
    by_cases h1 : v = 0
    · rw [if_pos h1] at h; exact absurd h (by decide)
    rw [if_neg h1] at h ⊢
    by_cases h2 : 1048576 < v
    · rw [if_pos h2] at h; exact absurd h (by decide)
    rw [if_neg h2] at h ⊢
    by_cases h3 : l.length < t + v + 5
    · rw [if_pos h3] at h; exact absurd h (by decide)
    rw [if_neg h3] at h ⊢
    by_cases h4 : l.getD (t + v + 4) 0 ≠ 165
    · rw [if_pos h4] at h; exact absurd h (by decide)
    rw [if_neg h4] at h ⊢
    by_cases h5 : sum4 (l.drop (t + v)) ≠ Wm.crc ((l.take (t + v)).drop q)
    · rw [if_pos h5] at h; exact absurd h (by decide)
    rw [if_neg h5]
    have hbl : ((l.take (t + v)).drop t).length = v := by simp; omega
    refine ⟨q, t + v + 5, rfl, rfl, by omega, by rw [hbl]; omega, by rw [hbl]; omega, ?_⟩
    show (l.take (t + v + 5)).drop q = fr ((l.take (t + v)).drop t)
    have e1 : (l.take (t + v)).drop q = Wn.uint v ++ (l.take (t + v)).drop t := by rw [seg_join l q t v (by omega), hU]
    have e2 : (l.take (t + v + 5)).drop q = (l.take (t + v)).drop q ++ (l.take (t + v + 5)).drop (t + v) := seg_join l q (t + v) 5 (by omega)
    unfold fr
    rw [hbl, ← e1, e2]
    rw [List.append_assoc]
    congr 1
    obtain ⟨a, b, c, d, r, hd, hs⟩ := drop4 l (t + v) (by omega)
    have hg : ok (a :: b :: c :: d :: r) := by rw [← hd]; exact ok_drop hok _
    have ga := hg a (by simp)
    have gb := hg b (by simp)
    have gc := hg c (by simp)
    have gd := hg d (by simp)
    have h165 : (l.drop (t + v)).getD 4 0 = 165 := by
      have := Decidable.of_not_not h4
      rw [List.getD_eq_getElem?_getD] at this ⊢
      rwa [List.getElem?_drop]
    have hsum : Wm.crc ((l.take (t + v)).drop q) = a + 256 * b + 65536 * c + 16777216 * d := by
      rw [← hs]; exact (Decidable.of_not_not h5).symm
    rw [hsum, List.drop_take, show t + v + 5 - (t + v) = 5 by omega, hd]
    rw [hd] at h165
    have hr : r.take 1 = [165] := by
      match r, h165 with
      | x :: r', h => simp at h; simp [h]
      | [], h => simp at h
    show a :: b :: c :: d :: r.take 1 = _
    rw [hr]
    unfold le4
    have e3 : (a + 256 * b + 65536 * c + 16777216 * d) % 256 = a := by omega
    have e4 : (a + 256 * b + 65536 * c + 16777216 * d) / 256 % 256 = b := by omega
    have e5 : (a + 256 * b + 65536 * c + 16777216 * d) / 65536 % 256 = c := by omega
    have e6 : (a + 256 * b + 65536 * c + 16777216 * d) / 16777216 % 256 = d := by omega
    rw [e3, e4, e5, e6]
    rfl
set_option maxRecDepth 100000 in
set_option maxHeartbeats 6000000 in
theorem oneway_any (v : Value) (l : List Nat) (p m : Int) (w : World) (hT : Tab w) (h : Bs w v l) (_hp : (Lit.int .i64 p).wf = true) (hm : (Lit.int .i64 m).wf = true) (hlen : l.length ≤ 140737488351232) :
    Calls Tryd.prog 8 #[v, .int .i64 p, .int .i64 m] w fun e w' => e = .returned (.bool true) ∧ Below w.heap.size w w' := by
  have hmm : m ≤ 9223372036854775807 := (bounds_i64 hm).2
  have HM : Hid (m ≤ 9223372036854775807) := hmm
  clear hmm hm
  have hob := h
  have hg := h.good
  obtain ⟨ao, cap, rfl, hl, hmx, _, _⟩ := h.shape
  have HL : Hid (∀ W : World, Own 0 (W.alloc (.cells #[.int .u8 172, .int .u8 2] 5)) (.slice (some ⟨W.heap.size, 0, none⟩) 2 2) [172, 2]) := fun W => Own.lit W [172, 2] (by intro x hx; simp at hx; omega) (Nat.zero_le _) (by simp [maxLen]) _ rfl
  have HR0 : Hid (Wn.ru [172, 2] 0 = (300, 2, 0)) := by show _ = _; decide
  go_enter Tryd.func8, Tryd.ntmps8
  go_wp2_with fail
  refine (readUint_eq _ [172, 2] 0 _ (HL.out w).bs (by simp) 300 2 HR0.out).mono ?_
  rintro e w1 ⟨rfl, rfl⟩
  have b1 : Below w.heap.size w (w.alloc (.cells #[.int .u8 172, .int .u8 2] 5)) := up0 _ _
  generalize w.alloc (.cells #[.int .u8 172, .int .u8 2] 5) = w1 at *
  clear HL HR0
  go_wp2_with fail
  refine (num_any _ _ (by omega) (by omega)).mono ?_
  rintro e w2 ⟨rfl, rfl⟩
  have h1 := hob.kept b1
  rcases Wn.ru_cases l p with ⟨er, he, he2, hr⟩ | ⟨q, x, n, rfl, hq, hn, hrd, hr⟩
  · have HRU := readUint_any _ l p w1 h1 (by omega)
    rw [hr] at HRU
    have HRI := readInt_any _ l p w1 h1 (by omega)
    rw [show ri l p = (0, 0, er) by unfold ri; rw [hr]; simp [he]] at HRI
    obtain ⟨eb, heb, hrb⟩ : ∃ eb, (eb ≠ 0 ∧ eb ≤ 16) ∧ rb l p m = ([], 0, eb) := by
      unfold rb
      rw [hr]
      by_cases h0 : m < 0
      · exact ⟨1, by decide, by rw [if_pos h0]⟩
      · exact ⟨er, ⟨he, by omega⟩, by rw [if_neg h0]; simp [he]⟩
    have hrf := rf_err l p er he hr
    have d1 : ((er : Int) == 0) = false := beq_eq_false_iff_ne.2 (by omega)
    have d2 : ((eb : Int) == 0) = false := beq_eq_false_iff_ne.2 (by omega)
    have d3 : ((er : Int) != 0) = true := by rw [bne_iff_ne]; omega
    obtain ⟨heb1, heb2⟩ := heb
    have HRB : Hid (rb l p m = ([], 0, eb)) := hrb
    have HRF : Hid (rf l p = ([], 0, er)) := hrf
    have HU1 : Hid (Calls Tryd.prog 23 #[.slice ao l.length cap, .int .i64 p] w1 fun e w' => e = .returned (tup3 0 0 er) ∧ w1 = w') := HRU
    have HI1 : Hid (Calls Tryd.prog 25 #[.slice ao l.length cap, .int .i64 p] w1 fun e w' => e = .returned (.tuple #[.int .i64 0, .int .i64 0, .int .i64 (er : Int)]) ∧ w1 = w') := HRI
    clear HRU HRI hrb hrf hr
    go_wp2_with fail
    refine HU1.out.mono ?_
    rintro e w2 ⟨rfl, rfl⟩
    unfold tup3
    go_wp2_with fail
    refine (num_any _ _ (by omega) (by omega)).mono ?_
    rintro e w2 ⟨rfl, rfl⟩
    go_wp2_with fail
    refine HI1.out.mono ?_
    rintro e w2 ⟨rfl, rfl⟩
    go_wp2_with fail
    refine (num_any _ _ (by omega) (by omega)).mono ?_
    rintro e w2 ⟨rfl, rfl⟩
    clear HU1 HI1
    go_wp2_with fail
    refine (readBytes_eq _ l _ _ _ h1 (by omega) HM.out [] 0 eb HRB.out).mono ?_
    rintro e w2 ⟨v2, rfl, ho2, b2'⟩
    have b2 := andThen b1 b2'
    obtain ⟨ao2, cap2, rfl, _⟩ := ho2.bs.shape
    clear ho2 b2' b1 h1
    go_wp2_with fail
    refine (num_any _ _ (by omega) (by omega)).mono ?_
    rintro e w3 ⟨rfl, rfl⟩
    go_wp2_with fail
    refine (readFrame_eq _ l _ _ (hT.kept b2) (hob.kept b2) (by omega) [] 0 er HRF.out).mono ?_
    rintro e w3 ⟨v3, rfl, ho3, b3'⟩
    have b3 := andThen b2 b3'
    obtain ⟨ao3, cap3, rfl, _⟩ := ho3.bs.shape
    clear ho3 b3' b2
    go_wp2_with fail
    refine (num_any _ _ (by omega) (by omega)).mono ?_
    rintro e w4 ⟨rfl, rfl⟩
    go_wp2
    go_ret
    exact ⟨rfl, b3⟩
  · obtain ⟨hU, hn2, hx⟩ := ru_there l q x n hg hrd
    have hri : ri l (q : Int) = (uz x, ((q + n : Nat) : Int), 0) := by unfold ri; rw [hr]; simp
    have hrbe : rb l (q : Int) m = if m < 0 then ([], 0, 1) else if m < (x : Int) then ([], 0, 13) else if (l.length : Int) - ((q + n : Nat) : Int) < (x : Int) then ([], 0, 10) else ((l.take (q + n + x)).drop (q + n), ((q + n : Nat) : Int) + (x : Int), 0) := by
      unfold rb
      rw [hr]
      simp only [ne_eq, not_true_eq_false, if_false, Int.toNat_natCast]
    generalize ht : q + n = t at *
    have hqt : q < t := by omega
    have HU : Hid ((l.take t).drop q = Wn.uint x) := hU
    have HRU : Hid (Wn.ru l (q : Int) = (x, (t : Int), 0)) := hr
    have HRI : Hid (ri l (q : Int) = (uz x, (t : Int), 0)) := hri
    have HX : Hid (x < 18446744073709551616) := hx
    have HZ : Hid (-9223372036854775808 ≤ uz x ∧ uz x ≤ 9223372036854775807) := uz_lt x hx
    have HRB : Hid (rb l (q : Int) m = if m < 0 then ([], 0, 1) else if m < (x : Int) then ([], 0, 13) else if (l.length : Int) - (t : Int) < (x : Int) then ([], 0, 10) else ((l.take (t + x)).drop t, (t : Int) + (x : Int), 0)) := hrbe
    have HTH : Hid ((rf l (q : Int)).2.2 = 0 → ∃ q' m' : Nat, (q : Int) = (q' : Int) ∧ (rf l (q : Int)).2.1 = (m' : Int) ∧ m' ≤ l.length ∧ 0 < (rf l (q : Int)).1.length ∧ (rf l (q : Int)).1.length ≤ 1048576 ∧ (l.take m').drop q' = fr (rf l (q : Int)).1) := rf_there l (q : Int) hg
    have dt : decide ((l.length : Int) < (t : Int)) = false := decide_eq_false (by omega)
    clear hU hn2 hx hri hrbe hr hrd ht hn
    -- the number
    go_wp2_with fail
    refine (readUint_eq _ l _ _ h1 (by omega) x (t : Int) HRU.out).mono ?_
    rintro e w2 ⟨rfl, rfl⟩
    go_wp2_with fail
    refine (num_any _ _ (by omega) (by omega)).mono ?_
    rintro e w2 ⟨rfl, rfl⟩
    go_wp2_with fail
    refine (part_z _ l (q : Int) (t : Int) _ h1 (by omega) (by omega) (Wn.uint x) (by rw [Int.toNat_natCast, Int.toNat_natCast]; exact HU.out)).mono ?_
    rintro e w2 ⟨v2, rfl, ho2, b2'⟩
    have b2 := andThen b1 b2'
    obtain ⟨ao2, cap2, rfl, _⟩ := ho2.bs.shape
    go_wp2_with fail
    refine (uint_any x _ HX.out).mono ?_
    rintro e w3 ⟨v3, rfl, ho3, b3'⟩
    have b3 := andThen b2 b3'
    obtain ⟨ao3, cap3, rfl, _⟩ := ho3.bs.shape
    go_wp2_with fail
    refine (same_yes _ _ (Wn.uint x) _ (ho2.kept b3').bs ho3.bs).mono ?_
    rintro e w4 ⟨rfl, b4'⟩
    have b4 := andThen b3 b4'
    clear ho2 ho3 b2' b3' b4' b2 b3 b1 h1
    -- the signed number
    have h4 := hob.kept b4
    go_wp2_with fail
    refine (readInt_eq _ l _ _ h4 (by omega) (uz x) (t : Int) HRI.out).mono ?_
    rintro e w5 ⟨rfl, rfl⟩
    go_wp2_with fail
    refine (num_any _ _ (by omega) (by omega)).mono ?_
    rintro e w5 ⟨rfl, rfl⟩
    go_wp2_with fail
    refine (part_z _ l (q : Int) (t : Int) _ h4 (by omega) (by omega) (Wn.uint x) (by rw [Int.toNat_natCast, Int.toNat_natCast]; exact HU.out)).mono ?_
    rintro e w5 ⟨v5, rfl, ho5, b5'⟩
    have b5 := andThen b4 b5'
    obtain ⟨ao5, cap5, rfl, _⟩ := ho5.bs.shape
    go_wp2_with fail
    refine (int_any (uz x) _ HZ.out.1 HZ.out.2).mono ?_
    rw [zz_uz]
    rintro e w6 ⟨v6, rfl, ho6, b6'⟩
    have b6 := andThen b5 b6'
    obtain ⟨ao6, cap6, rfl, _⟩ := ho6.bs.shape
    go_wp2_with fail
    refine (same_yes _ _ (Wn.uint x) _ (ho5.kept b6').bs ho6.bs).mono ?_
    rintro e w7 ⟨rfl, b7'⟩
    have b7 := andThen b6 b7'
    clear ho5 ho6 b5' b6' b7' b5 b6 b4 h4
    have h7 := hob.kept b7
    -- the byte string
    by_cases hbok : m < 0 ∨ m < (x : Int) ∨ (l.length : Int) - (t : Int) < (x : Int)
    · obtain ⟨eb, heb, heb2, hrb⟩ : ∃ eb, eb ≠ 0 ∧ eb ≤ 16 ∧ rb l (q : Int) m = ([], 0, eb) := by
        rw [HRB.out]
        by_cases k1 : m < 0
        · exact ⟨1, by decide, by decide, by rw [if_pos k1]⟩
        by_cases k2 : m < (x : Int)
        · exact ⟨13, by decide, by decide, by rw [if_neg k1, if_pos k2]⟩
        · exact ⟨10, by decide, by decide, by rw [if_neg k1, if_neg k2, if_pos (by omega)]⟩
      have HB : Hid (rb l (q : Int) m = ([], 0, eb)) := hrb
      have d2 : ((eb : Int) == 0) = false := beq_eq_false_iff_ne.2 (by omega)
      clear hrb HRB hbok
      go_wp2_with fail
      refine (readBytes_eq _ l _ _ _ h7 (by omega) HM.out [] 0 eb HB.out).mono ?_
      rintro e w8 ⟨v8, rfl, ho8, b8'⟩
      have b8 := andThen b7 b8'
      obtain ⟨ao8, cap8, rfl, _⟩ := ho8.bs.shape
      clear ho8 b8' b7 h7
      go_wp2_with fail
      refine (num_any _ _ (by omega) (by omega)).mono ?_
      rintro e w9 ⟨rfl, rfl⟩
      -- the frame
      by_cases hfok : (rf l (q : Int)).2.2 = 0
      · obtain ⟨q', m', hq', hm', hml, hbp, hbl, hseg⟩ := HTH.out hfok
        obtain rfl : q' = q := by omega
        have hrf : rf l (q' : Int) = ((rf l (q' : Int)).1, (m' : Int), 0) := Prod.ext rfl (Prod.ext hm' hfok)
        have HSEG : Hid ((l.take m').drop q' = fr (rf l (q' : Int)).1) := hseg
        have HRF : Hid (rf l (q' : Int) = ((rf l (q' : Int)).1, (m' : Int), 0)) := hrf
        clear hseg hrf hfok hm' hq' HTH
        generalize (rf l (q' : Int)).1 = body at *
        have dml : decide ((m' : Int) ≤ (l.length : Int)) = true := decide_eq_true (by omega)
        go_wp2_with fail
        refine (readFrame_eq _ l _ _ (hT.kept b8) (hob.kept b8) (by omega) body (m' : Int) 0 HRF.out).mono ?_
        rintro e w12 ⟨v12, rfl, ho12, b12'⟩
        have b12 := andThen b8 b12'
        obtain ⟨ao12, cap12, rfl, _⟩ := ho12.bs.shape
        clear b12' b8
        go_wp2_with fail
        refine (num_any _ _ (by omega) (by omega)).mono ?_
        rintro e w13 ⟨rfl, rfl⟩
        go_wp2_with fail
        refine (frame1 _ body _ ((hT.kept b12).kept (up0 _ _)) (ps1 _ _ rfl _ ho12.bs) hbl hbp).mono ?_
        rintro e w13 ⟨v13, rfl, ho13, b13'⟩
        have b13 := andThen (up b12 _) b13'
        generalize eF : fr body = F at ho13
        have EF : Hid (fr body = F) := eF
        clear eF
        obtain ⟨ao13, cap13, rfl, _⟩ := ho13.bs.shape
        clear b13' b12 ho12
        go_wp2_with fail
        refine (num_any _ _ (by omega) (by omega)).mono ?_
        rintro e w14 ⟨rfl, rfl⟩
        go_wp2_with fail
        refine (part_z _ l (q' : Int) (m' : Int) _ (hob.kept b13) (by omega) (by omega) F (by rw [Int.toNat_natCast, Int.toNat_natCast, ← EF.out]; exact HSEG.out)).mono ?_
        rintro e w14 ⟨v14, rfl, ho14, b14'⟩
        have b14 := andThen b13 b14'
        obtain ⟨ao14, cap14, rfl, _⟩ := ho14.bs.shape
        go_wp2_with fail
        refine (same_yes _ _ F _ ho14.bs (ho13.kept b14').bs).mono ?_
        rintro e w15 ⟨rfl, b15'⟩
        have b15 := andThen b14 b15'
        clear ho13 ho14 b14' b15' b13 b14
        go_wp2
        go_ret
        exact ⟨rfl, b15⟩
      · have hrf := rf_bad l (q : Int) hfok
        have hle := rf_le l (q : Int)
        generalize (rf l (q : Int)).2.2 = ef at *
        have HRF : Hid (rf l (q : Int) = ([], 0, ef)) := hrf
        have d5 : ((ef : Int) != 0) = true := by rw [bne_iff_ne]; omega
        clear hrf hfok HTH
        go_wp2_with fail
        refine (readFrame_eq _ l _ _ (hT.kept b8) (hob.kept b8) (by omega) [] 0 ef HRF.out).mono ?_
        rintro e w12 ⟨v12, rfl, ho12, b12'⟩
        have b12 := andThen b8 b12'
        obtain ⟨ao12, cap12, rfl, _⟩ := ho12.bs.shape
        clear ho12 b12' b8
        go_wp2_with fail
        refine (num_any _ _ (by omega) (by omega)).mono ?_
        rintro e w13 ⟨rfl, rfl⟩
        go_wp2
        go_ret
        exact ⟨rfl, b12⟩
    · have hk1 : ¬ m < 0 := by omega
      have hk2 : ¬ m < (x : Int) := by omega
      have hk3 : ¬ (l.length : Int) - (t : Int) < (x : Int) := by omega
      have hrb := HRB.out
      rw [if_neg hk1, if_neg hk2, if_neg hk3] at hrb
      have hYl : ((l.take (t + x)).drop t).length = x := by simp; omega
      have hYj : (l.take (t + x)).drop q = Wn.uint ((l.take (t + x)).drop t).length ++ (l.take (t + x)).drop t := by rw [hYl, seg_join l q t x (by omega), HU.out]
      obtain ⟨Y, eY⟩ : ∃ Y, Y = (l.take (t + x)).drop t := ⟨_, rfl⟩
      rw [← eY] at hrb hYl hYj
      have HB : Hid (rb l (q : Int) m = (Y, (t : Int) + (x : Int), 0)) := hrb
      have HYj : Hid ((l.take (t + x)).drop q = Wn.uint Y.length ++ Y) := hYj
      have hYle : Y.length ≤ l.length := by omega
      have dm : decide (m < (Y.length : Int)) = false := decide_eq_false (by omega)
      have dl : decide ((l.length : Int) < (t : Int) + (x : Int)) = false := decide_eq_false (by omega)
      have htx : (t : Int) + (x : Int) ≤ 9223372036854775807 := by omega
      clear hrb HRB hbok eY hYl hYj
      go_wp2_with fail
      refine (readBytes_eq _ l _ _ _ h7 (by omega) HM.out Y ((t : Int) + (x : Int)) 0 HB.out).mono ?_
      rintro e w8 ⟨v8, rfl, ho8, b8'⟩
      have b8 := andThen b7 b8'
      obtain ⟨ao8, cap8, rfl, _⟩ := ho8.bs.shape
      have h8 := hob.kept b8
      clear b8' b7 h7 HB
      go_wp2_with fail
      refine (num_any _ _ (by omega) (by omega)).mono ?_
      rintro e w9 ⟨rfl, rfl⟩
      go_wp2_with fail
      refine (part_z _ l (q : Int) ((t : Int) + (x : Int)) _ h8 (by omega) htx (Wn.uint Y.length ++ Y) (by rw [Int.toNat_natCast, show ((t : Int) + (x : Int)).toNat = t + x by omega]; exact HYj.out)).mono ?_
      rintro e w9 ⟨v9, rfl, ho9, b9'⟩
      have b9 := andThen b8 b9'
      have ho8' := ho8.kept b9'
      generalize eX : Wn.uint Y.length ++ Y = X3 at ho9
      have EX : Hid (Wn.uint Y.length ++ Y = X3) := eX
      clear eX
      obtain ⟨ao9, cap9, rfl, _⟩ := ho9.bs.shape
      go_wp2_with fail
      refine (bytes_any _ Y _ ho8'.bs (by omega)).mono ?_
      rw [EX.out]
      rintro e w10 ⟨v10, rfl, ho10, b10'⟩
      have b10 := andThen b9 b10'
      obtain ⟨ao10, cap10, rfl, _⟩ := ho10.bs.shape
      go_wp2_with fail
      refine (same_yes _ _ X3 _ (ho9.kept b10').bs ho10.bs).mono ?_
      rintro e w11 ⟨rfl, b11'⟩
      have b8 := andThen b10 b11'
      clear ho9 ho10 b9' b10' b11' b9 b10 h8 ho8 ho8' EX HYj
      -- the frame
      by_cases hfok : (rf l (q : Int)).2.2 = 0
      · obtain ⟨q', m', hq', hm', hml, hbp, hbl, hseg⟩ := HTH.out hfok
        obtain rfl : q' = q := by omega
        have hrf : rf l (q' : Int) = ((rf l (q' : Int)).1, (m' : Int), 0) := Prod.ext rfl (Prod.ext hm' hfok)
        have HSEG : Hid ((l.take m').drop q' = fr (rf l (q' : Int)).1) := hseg
        have HRF : Hid (rf l (q' : Int) = ((rf l (q' : Int)).1, (m' : Int), 0)) := hrf
        clear hseg hrf hfok hm' hq' HTH
        generalize (rf l (q' : Int)).1 = body at *
        have dml : decide ((m' : Int) ≤ (l.length : Int)) = true := decide_eq_true (by omega)
        go_wp2_with fail
        refine (readFrame_eq _ l _ _ (hT.kept b8) (hob.kept b8) (by omega) body (m' : Int) 0 HRF.out).mono ?_
        rintro e w12 ⟨v12, rfl, ho12, b12'⟩
        have b12 := andThen b8 b12'
        obtain ⟨ao12, cap12, rfl, _⟩ := ho12.bs.shape
        clear b12' b8
        go_wp2_with fail
        refine (num_any _ _ (by omega) (by omega)).mono ?_
        rintro e w13 ⟨rfl, rfl⟩
        go_wp2_with fail
        refine (frame1 _ body _ ((hT.kept b12).kept (up0 _ _)) (ps1 _ _ rfl _ ho12.bs) hbl hbp).mono ?_
        rintro e w13 ⟨v13, rfl, ho13, b13'⟩
        have b13 := andThen (up b12 _) b13'
        generalize eF : fr body = F at ho13
        have EF : Hid (fr body = F) := eF
        clear eF
        obtain ⟨ao13, cap13, rfl, _⟩ := ho13.bs.shape
        clear b13' b12 ho12
        go_wp2_with fail
        refine (num_any _ _ (by omega) (by omega)).mono ?_
        rintro e w14 ⟨rfl, rfl⟩
        go_wp2_with fail
        refine (part_z _ l (q' : Int) (m' : Int) _ (hob.kept b13) (by omega) (by omega) F (by rw [Int.toNat_natCast, Int.toNat_natCast, ← EF.out]; exact HSEG.out)).mono ?_
        rintro e w14 ⟨v14, rfl, ho14, b14'⟩
        have b14 := andThen b13 b14'
        obtain ⟨ao14, cap14, rfl, _⟩ := ho14.bs.shape
        go_wp2_with fail
        refine (same_yes _ _ F _ ho14.bs (ho13.kept b14').bs).mono ?_
        rintro e w15 ⟨rfl, b15'⟩
        have b15 := andThen b14 b15'
        clear ho13 ho14 b14' b15' b13 b14
        go_wp2
        go_ret
        exact ⟨rfl, b15⟩
      · have hrf := rf_bad l (q : Int) hfok
        have hle := rf_le l (q : Int)
        generalize (rf l (q : Int)).2.2 = ef at *
        have HRF : Hid (rf l (q : Int) = ([], 0, ef)) := hrf
        have d5 : ((ef : Int) != 0) = true := by rw [bne_iff_ne]; omega
        clear hrf hfok HTH
        go_wp2_with fail
        refine (readFrame_eq _ l _ _ (hT.kept b8) (hob.kept b8) (by omega) [] 0 ef HRF.out).mono ?_
        rintro e w12 ⟨v12, rfl, ho12, b12'⟩
        have b12 := andThen b8 b12'
        obtain ⟨ao12, cap12, rfl, _⟩ := ho12.bs.shape
        clear ho12 b12' b8
        go_wp2_with fail
        refine (num_any _ _ (by omega) (by omega)).mono ?_
        rintro e w13 ⟨rfl, rfl⟩
        go_wp2
        go_ret
        exact ⟨rfl, b12⟩
end Go.Proofs.YtnglcadhleefiaaDoor
