import Derived.Deep.RegionHeld
import Derived.Test.YtenhaogheilmoaaDoorQW1
/-
  wire: Frame, where there is a body that may be framed.
-/
namespace Go.Proofs.YtenhaogheilmoaaDoor
open Go Go.RowKit
open Wb

set_option maxHeartbeats 1000000 in
theorem frame_ok (pv : Value) (ls : List (List Nat)) (w : World) (hT : Tab w) (hp : Ps w pv ls) (h : ls.flatten.length ≤ 1048576) (h0 : 0 < ls.flatten.length) :
    Calls Tryd.prog 36 #[pv] w fun e w' => ∃ v', e = .returned (.tuple #[v', .int .i64 0]) ∧ Own w.heap.size w' v' (fr ls.flatten) ∧ Below w.heap.size w w' := by
  have hin := info5
  obtain ⟨i0, hi, hz0, hz1, hz2⟩ := info_parts info5
  obtain ⟨n, hn⟩ : ∃ n, n = ls.flatten.length := ⟨_, rfl⟩
  have HN : Hid (n = ls.flatten.length) := hn
  have hb := bs_ok pv ls w hp h h0
  rw [← hn] at hb h h0
  have HBS : Hid (Calls Tryd.prog 58 #[pv] w fun e w' => e = .returned (.tuple #[.int .i64 (n : Int), .int .i64 0]) ∧ w = w') := hb
  clear hb hn
  obtain ⟨ao, cap, rfl, hmx, hc⟩ := hp.shape
  unfold maxLen at hmx
  go_enter Tryd.func36, Tryd.ntmps36
  go_wp2_with fail
  refine HBS.out.mono ?_
  rintro e w1 ⟨rfl, rfl⟩
  clear HBS
  go_wp2_with fail
  refine (uint_any n _ (by omega)).mono ?_
  rintro e w1 ⟨vh, rfl, hh, b1⟩
  have hhl := Wn.uint_len3 n h
  generalize eU : Wn.uint n = U at hh hhl
  have EU : Hid (Wn.uint n = U) := eU
  clear eU
  obtain ⟨aoh, caph, rfl, _⟩ := hh.bs.shape
  go_wp2_with (at_make; refine wpList_make_own _ rfl _ _ 25 rfl w.heap.size 5 i0 (.int .u8 0) 1 Tryd.underlying25 hi hz0 hz1 _ _ _ (U.length + n + 5) rfl rfl (by omega) (by rw [hz2]; omega) (by unfold maxLen; omega) b1.size ?_)
  intro w2 hown2 hgr2
  have ho2 : Own w.heap.size w2 (.slice (some ⟨w1.heap.size, 0, none⟩) 0 (U.length + n + 5)) [] := ⟨hown2, ok_nil⟩
  have b2 : Below w1.heap.size w1 w2 := (Below.refl _ w1).grown hgr2 (Nat.le_refl _) (fun k hk => by cases hk)
  have b12 := andThen b1 b2
  have hh2 := (hh.kept b2).bs
  clear hown2 hgr2 hh
  go_wp2_with (at_builtin; refine wpList_append _ rfl (.tmp 27) (.tmp 28) 25 rfl w.heap.size hin Tryd.underlying25 _ [] rfl ho2 _ U rfl hh2 (by simp; omega) b12.size ?_)
  intro v3 w3 ho3 b3 _
  have ho3' : Own w.heap.size w3 v3 U := by simpa using ho3
  have b13 := b12.trans b3
  clear ho3 b3 ho2 hh2 b12 b1 b2
  go_wp2
  go_loopw [7, 32] (fun o i wr => ∃ k : Nat, k ≤ ls.length ∧ i = .int .i64 (k : Int) ∧ Own w.heap.size wr o (U ++ (ls.take k).flatten) ∧ Below w.heap.size w wr) (fun _ i _ => ls.length - (intOf i).toNat)
  case atStart => exact ⟨0, Nat.zero_le _, rfl, by simpa using ho3', b13⟩
  case round =>
    obtain ⟨k, hk, rfl, hown, hbel⟩ := hrel
    clear ho3' b13
    have hpre : (ls.take k).flatten.length ≤ ls.flatten.length := by
      have h1 := congrArg (fun x => (List.flatten x).length) (List.take_append_drop k ls)
      simp only [List.flatten_append, List.length_append] at h1
      omega
    by_cases hlt : k < ls.length
    · obtain ⟨b, off, rfl, hcell⟩ := hc (List.ne_nil_of_length_pos (by omega))
      obtain ⟨vk, hck, hbk⟩ := hcell k hlt
      have hck' := (hbel.cell (p := ⟨b, off + k, none⟩) (World.block_lt_of_cell? _ _ hck)).trans hck
      have hbk' := hbk.kept hbel
      obtain ⟨aok, capk, rfl, hlk, hmk, hx1, hx2⟩ := hbk.shape
      have HS : Hid (U ++ (ls.take (k + 1)).flatten = (U ++ (ls.take k).flatten) ++ ls[k]) := by
        show _ = _
        rw [List.take_succ_eq_append_getElem hlt, List.flatten_append]
        simp
      have hpre2 : (ls.take (k + 1)).flatten.length ≤ ls.flatten.length := by
        have h1 := congrArg (fun x => (List.flatten x).length) (List.take_append_drop (k + 1) ls)
        simp only [List.flatten_append, List.length_append] at h1
        omega
      have hkl : (U ++ (ls.take k).flatten).length + ls[k].length ≤ 2000000 := by
        have h1 := congrArg List.length HS.out
        have h2 := HN.out
        simp only [List.length_append] at h1 ⊢
        omega
      clear hx1 hx2 hc hcell hbk hck hpre hpre2
      generalize U ++ (ls.take k).flatten = m at *
      generalize ls[k] = q at *
      have hsz := hbel.size
      go_wp2_with (at_builtin; refine wpList_append _ rfl (.tmp 36) (.tmp 37) 25 rfl w.heap.size hin Tryd.underlying25 _ m rfl hown _ q rfl hbk' (by omega) hsz ?_)
      intro v' w' ho' hb' _
      have R : Hid (Own w.heap.size w' v' (U ++ (ls.take (k + 1)).flatten) ∧ Below w.heap.size w w') := ⟨by rw [HS.out]; exact ho', hbel.trans hb'⟩
      clear ho' hb' hown hbel HS
      go_wp2
      go_roundw
      case rel => exact ⟨k + 1, by omega, by go_num, R.out.1, R.out.2⟩
      case measure => simp [intOf]; omega
    · have hf : (ls.take k).flatten = ls.flatten := by rw [List.take_of_length_le (by omega)]
      rw [hf] at hown
      obtain ⟨J, eJ⟩ : ∃ J, J = U ++ ls.flatten := ⟨_, rfl⟩
      rw [← eJ] at hown
      have HJ : Hid (J = U ++ ls.flatten) := eJ
      have hJl : J.length ≤ 1048580 := by
        have h2 := HN.out
        rw [eJ, List.length_append]
        omega
      clear eJ hf hpre hc
      obtain ⟨aoj, capj, rfl, _⟩ := hown.bs.shape
      have hsum := Wm.crc_lt J hown.good
      obtain ⟨s, es⟩ : ∃ s, s = Wm.crc J := ⟨_, rfl⟩
      have HS : Hid (Wm.crc [J].flatten = s) := by
        show _ = _
        rw [es]
        simp
      have HS2 : Hid (s = Wm.crc J) := es
      rw [← es] at hsum
      clear es
      go_wp2_with fail
      refine (sum_any _ [J] _ ((hT.kept hbel).kept (up0 _ _)) (ps1 _ _ rfl _ hown.bs)).mono ?_
      rintro e w4 ⟨rfl, rfl⟩
      rw [HS.out]
      go_wp2_with fail
      refine (sumBytes_any s _ hsum).mono ?_
      rintro e w5 ⟨v5, rfl, ho5, b5⟩
      have h5l : (le4 s).length ≤ 4 := Nat.le_refl _
      generalize eZ : le4 s = z at ho5 h5l
      have EZ : Hid (le4 s = z) := eZ
      clear eZ
      obtain ⟨ao5, cap5, rfl, _⟩ := ho5.bs.shape
      have b5' := andThen (up hbel _) b5
      have hown5 := (hown.kept (up0 _ _)).kept b5
      have ho5' := ho5.bs
      have HF4 : Hid (∀ x, x = J ++ z ++ [165] → x = fr ls.flatten) := by
        rintro x rfl
        unfold fr
        rw [← HN.out, EU.out, ← HJ.out, ← HS2.out, EZ.out]
      clear ho5 b5 hown hbel
      go_wp2_with (at_builtin; refine wpList_append _ rfl (.tmp 40) (.tmp 44) 25 rfl w.heap.size hin Tryd.underlying25 _ J rfl hown5 _ z rfl ho5' (by omega) b5'.size ?_)
      intro v6 w6 ho6 b6 _
      have b6' := b5'.trans b6
      have hsz6 := b6'.size
      have HO6 : Hid (∀ o, Own w.heap.size (w6.alloc o) v6 (J ++ z)) := fun o => ho6.alloc o
      have hJz : (J ++ z).length ≤ 1048590 := by simp; omega
      clear ho6 b6 b5' ho5' hown5
      generalize J ++ z = m at *
      go_wp2_with (at_builtin; refine wpList_append _ rfl (.tmp 46) (.tmp 47) 25 rfl w.heap.size hin Tryd.underlying25 _ m rfl (HO6.out _) _ [165] rfl (Bs.one _ 165 (by decide) _ rfl) (by simp; omega) (by simp; omega) ?_)
      intro v7 w7 ho7 b7 _
      have R : Hid (Own w.heap.size w7 v7 (fr ls.flatten) ∧ Below w.heap.size w w7) := ⟨by rw [← HF4.out _ rfl]; exact ho7, (up b6' _).trans b7⟩
      clear ho7 b7 HO6 b6'
      go_wp2
      go_ret2
      exact ⟨_, rfl, R.out.1, R.out.2⟩
end Go.Proofs.YtenhaogheilmoaaDoor

/-
  wire: ReadFrame.
-/
namespace Go.Proofs.YtenhaogheilmoaaDoor
open Go Go.RowKit
open Wb

def sum4 (l : List Nat) : Nat := l.getD 0 0 + 256 * l.getD 1 0 + 65536 * l.getD 2 0 + 16777216 * l.getD 3 0
/-- ReadFrame's answer behind a length of n bytes that was read at p up to q -/
def rfAt (l : List Nat) (p q n : Nat) : List Nat × Int × Nat :=
  if n = 0 then ([], 0, 14)
  else if 1048576 < n then ([], 0, 13)
  else if l.length < q + n + 5 then ([], 0, 10)
  else if l.getD (q + n + 4) 0 ≠ 165 then ([], 0, 15)
  else if sum4 (l.drop (q + n)) ≠ Wm.crc ((l.take (q + n)).drop p) then ([], 0, 16)
  else ((l.take (q + n)).drop q, ((q + n + 5 : Nat) : Int), 0)
def rf (l : List Nat) (p : Int) : List Nat × Int × Nat :=
  if (Wn.ru l p).2.2 ≠ 0 then ([], 0, (Wn.ru l p).2.2) else rfAt l p.toNat (Wn.ru l p).2.1.toNat (Wn.ru l p).1
theorem rf_err (l : List Nat) (p : Int) (e : Nat) (he : e ≠ 0) (h : Wn.ru l p = (0, 0, e)) : rf l p = ([], 0, e) := by
  unfold rf
  rw [h]
  simp [he]
theorem rf_at (l : List Nat) (q v n : Nat) (h : Wn.ru l (q : Int) = (v, ((q + n : Nat) : Int), 0)) : rf l (q : Int) = rfAt l q (q + n) v := by
  unfold rf
  rw [h, if_neg (by simp), Int.toNat_natCast, Int.toNat_natCast]

theorem drop4 (l : List Nat) (k : Nat) (h : k + 4 ≤ l.length) : ∃ a b c d r, l.drop k = a :: b :: c :: d :: r ∧ sum4 (l.drop k) = a + 256 * b + 65536 * c + 16777216 * d := by
  have hl : 4 ≤ (l.drop k).length := by rw [List.length_drop]; omega
  generalize l.drop k = m at *
  match m, hl with
  | a :: b :: c :: d :: r, _ => exact ⟨a, b, c, d, r, rfl, rfl⟩

theorem ret3 (v c : Value) (a b : Int) (h : a = b) : Ending.returned (.tuple #[v, .int .i64 a, c]) = .returned (.tuple #[v, .int .i64 b, c]) := by rw [h]

set_option maxHeartbeats 2000000 in
theorem readFrame_any (v : Value) (l : List Nat) (p : Int) (w : World) (hT : Tab w) (h : Bs w v l) (hlen : l.length ≤ 140737488355328) :
    Calls Tryd.prog 67 #[v, .int .i64 p] w fun e w' => ∃ v', e = .returned (.tuple #[v', .int .i64 (rf l p).2.1, .int .i64 ((rf l p).2.2 : Int)]) ∧ Own w.heap.size w' v' (rf l p).1 ∧ Below w.heap.size w w' := by
  have hru := readUint_any v l p w h hlen
  unfold tup3 at hru
  rcases Wn.ru_cases l p with ⟨e, he, he2, hr⟩ | ⟨q, x, n, rfl, hq, hn, hrd, hr⟩
  · rw [rf_err l p e he hr]
    rw [hr] at hru
    have HRU : Hid (Calls Tryd.prog 68 #[v, .int .i64 p] w fun e' w' => e' = .returned (.tuple #[.int .u64 ((0 : Nat) : Int), .int .i64 0, .int .i64 (e : Int)]) ∧ w = w') := hru
    have d0 : ((e : Int) != 0) = true := by rw [bne_iff_ne]; omega
    clear hru hr
    go_enter Tryd.func67, Tryd.ntmps67
    go_wp2_with fail
    refine HRU.out.mono ?_
    rintro e w1 ⟨rfl, rfl⟩
    clear HRU
    go_wp2
    go_ret3
    exact ⟨_, rfl, Own.nil _ _, Below.refl _ _⟩
  · rw [rf_at l q x n hr]
    rw [hr] at hru
    generalize hq' : q + n = t at *
    have hqt : q < t := by omega
    have HRU : Hid (Calls Tryd.prog 68 #[v, .int .i64 (q : Int)] w fun e' w' => e' = .returned (.tuple #[.int .u64 (x : Int), .int .i64 (t : Int), .int .i64 ((0 : Nat) : Int)]) ∧ w = w') := hru
    clear hru hr hrd hq' hn
    obtain ⟨b, off, cap, rfl, hcap, hmx, hcell⟩ : ∃ b off cap, v = .slice (some ⟨b, off, none⟩) l.length cap ∧ l.length ≤ cap ∧ cap ≤ maxLen ∧ ∀ j (h : j < l.length), w.cell? ⟨b, off + j, none⟩ = some (.int .u8 (l[j] : Int)) := by
      rcases h.cases with ⟨rfl, _⟩ | ⟨_, b, off, cap, h1, h2, h3, h4⟩
      · simp at hq; omega
      · exact ⟨b, off, cap, h1, h2, h3, h4⟩
    unfold maxLen at hmx
    by_cases c1 : x = 0
    · have e1 : rfAt l q t x = ([], 0, 14) := by unfold rfAt; rw [if_pos c1]
      rw [e1]
      subst c1
      clear hcell e1
      go_enter Tryd.func67, Tryd.ntmps67
      go_wp2_with fail
      refine HRU.out.mono ?_
      rintro e w1 ⟨rfl, rfl⟩
      clear HRU
      go_wp2
      go_ret3
      exact ⟨_, rfl, Own.nil _ _, Below.refl _ _⟩
    have d1 : ((x : Int) == 0) = false := beq_eq_false_iff_ne.2 (by omega)
    by_cases c2 : 1048576 < x
    · have e1 : rfAt l q t x = ([], 0, 13) := by unfold rfAt; rw [if_neg c1, if_pos c2]
      rw [e1]
      have d2 : (1048576 : Int) < (x : Int) := by omega
      clear hcell e1 c1
      go_enter Tryd.func67, Tryd.ntmps67
      go_wp2_with fail
      refine HRU.out.mono ?_
      rintro e w1 ⟨rfl, rfl⟩
      clear HRU
      go_wp2
      go_ret3
      exact ⟨_, rfl, Own.nil _ _, Below.refl _ _⟩
    have d2 : ¬ (1048576 : Int) < (x : Int) := by omega
    by_cases c3 : l.length < t + x + 5
    · have e1 : rfAt l q t x = ([], 0, 10) := by unfold rfAt; rw [if_neg c1, if_neg c2, if_pos c3]
      rw [e1]
      have d3 : (l.length : Int) - ((t : Int) + (x : Int)) < 5 := by omega
      clear hcell e1 c1 c2
      go_enter Tryd.func67, Tryd.ntmps67
      go_wp2_with fail
      refine HRU.out.mono ?_
      rintro e w1 ⟨rfl, rfl⟩
      clear HRU
      go_wp2
      go_ret3
      exact ⟨_, rfl, Own.nil _ _, Below.refl _ _⟩
    have d3 : ¬ (l.length : Int) - ((t : Int) + (x : Int)) < 5 := by omega
    have c4lt : t + x + 4 < l.length := by omega
    have hc4 := hcell (t + x + 4) c4lt
    have g4 : l.getD (t + x + 4) 0 = l[t + x + 4] := by simp [List.getD, c4lt]
    by_cases c4 : l[t + x + 4] = 165
    · have d4 : ((165 : Int) != 165) = false := by decide
      rw [c4] at hc4
      have hsub1 := h.sub q (t + x) (by omega) (by omega)
      have hsub2 := h.sub t (t + x) (by omega) (by omega)
      have hsub3 := h.sub (t + x) l.length (by omega) (Nat.le_refl _)
      rw [List.take_of_length_le (Nat.le_refl _)] at hsub3
      obtain ⟨a4, b4, c4', d4', r4, hd4, hs4⟩ := drop4 l (t + x) (by omega)
      rw [hd4] at hsub3
      have hcrc := Wm.crc_lt _ hsub1.good
      obtain ⟨X, eX⟩ : ∃ X, X = (l.take (t + x)).drop q := ⟨_, rfl⟩
      obtain ⟨Y, eY⟩ : ∃ Y, Y = (l.take (t + x)).drop t := ⟨_, rfl⟩
      obtain ⟨s1, es1⟩ : ∃ s, s = a4 + 256 * b4 + 65536 * c4' + 16777216 * d4' := ⟨_, rfl⟩
      obtain ⟨s2, es2⟩ : ∃ s, s = Wm.crc X := ⟨_, rfl⟩
      have HS1 : Hid (((a4 + 256 * b4 + 65536 * c4' + 16777216 * d4' : Nat) : Int) = (s1 : Int)) := by show _ = _; rw [es1]
      have HS2 : Hid (Wm.crc [X].flatten = s2) := by show _ = _; rw [es2]; simp
      have hcp1 : ¬ cap = q := by omega
      have hcp2 : ¬ cap = t := by omega
      have hcp3 : ¬ cap = t + x := by omega
      rw [← eX] at hsub1
      rw [← eY] at hsub2
      have HB1 : Hid (∀ w', Below w.heap.size w w' → Bs w' (.slice (some ⟨b, off + q, none⟩) (t + x - q) (cap - q)) X) := fun w' hb => hsub1.kept hb
      have HB2 : Hid (∀ w', Below w.heap.size w w' → Bs w' (.slice (some ⟨b, off + t, none⟩) x (cap - t)) Y) := fun w' hb => by have := hsub2.kept hb; rwa [show t + x - t = x by omega] at this
      have HB3 : Hid (∀ w', Below w.heap.size w w' → Bs w' (.slice (some ⟨b, off + (t + x), none⟩) (l.length - (t + x)) (cap - (t + x))) (a4 :: b4 :: c4' :: d4' :: r4)) := fun w' hb => hsub3.kept hb
      have hYl : Y.length ≤ 140737488355328 := by rw [eY]; simp; omega
      have HT : Hid (∀ w', Below w.heap.size w w' → Tab w') := fun w' hb => hT.kept hb
      by_cases hs : s1 = s2
      · have e1 : rfAt l q t x = (Y, ((t + x + 5 : Nat) : Int), 0) := by
          unfold rfAt
          rw [if_neg c1, if_neg c2, if_neg c3, g4, if_neg (by simp [c4]), if_neg (by rw [hs4, ← es1, ← eX, ← es2]; simp [hs]), ← eY]
        rw [e1]
        have dq : ((s1 : Int) != (s2 : Int)) = false := by simp [hs]
        clear hs e1 hcell hsub1 hsub2 hsub3 hd4 hs4 hcrc eX eY es1 es2 g4 hT
        go_enter Tryd.func67, Tryd.ntmps67
        go_wp2_with fail
        refine HRU.out.mono ?_
        rintro e w1 ⟨rfl, rfl⟩
        clear HRU
        go_wp2
        go_region_held (fun _ => True) (exact trivial) (first
          | (go_at_call 75; refine (readSum_any _ a4 b4 c4' d4' r4 _ ?_).mono ?_; (exact HB3.out _ (by repeat (first | exact Below.refl _ _ | refine Below.drew ?_ | refine below_drewN ?_ _ | refine up ?_ _))); rw [HS1.out]; rintro e w' ⟨rfl, nn, rfl⟩)
          | (go_at_call 38; refine (sum_any _ [X] _ ?_ ?_).mono ?_; (exact HT.out _ (by repeat (first | exact Below.refl _ _ | refine Below.drew ?_ | refine below_drewN ?_ _ | refine up ?_ _))); (first | exact ps1 _ _ rfl _ (HB1.out _ (by repeat (first | exact Below.refl _ _ | refine Below.drew ?_ | refine below_drewN ?_ _ | refine up ?_ _))) | exact (ps1 _ _ rfl _ (HB1.out _ (by repeat (first | exact Below.refl _ _ | refine Below.drew ?_ | refine below_drewN ?_ _ | refine up ?_ _)))).kept (below_drewN (Below.refl _ _) _)); rw [HS2.out]; rintro e w' ⟨rfl, rfl⟩))
        all_goals
          go_wp2_with fail
          refine (own_any _ Y _ (HB2.out _ (by repeat (first | exact Below.refl _ _ | refine Below.drew ?_ | refine below_drewN ?_ _ | refine up ?_ _))) hYl).mono ?_
          rintro e w9 ⟨v9, rfl, ho9, b9⟩
          obtain ⟨ao9, cap9, rfl, _⟩ := ho9.bs.shape
          have R : Hid (Own w.heap.size w9 (.slice ao9 Y.length cap9) Y ∧ Below w.heap.size w w9) := ⟨ho9.mono (Below.size (w := w) (B := w.heap.size) (by repeat (first | exact Below.refl _ _ | refine Below.drew ?_ | refine below_drewN ?_ _ | refine up ?_ _))), andThen (by repeat (first | exact Below.refl _ _ | refine Below.drew ?_ | refine below_drewN ?_ _ | refine up ?_ _)) b9⟩
          clear ho9 b9
          go_wp2
          go_ret3
          exact ⟨_, ret3 _ _ _ _ (by omega), R.out.1, R.out.2⟩
      · have e1 : rfAt l q t x = ([], 0, 16) := by
          unfold rfAt
          rw [if_neg c1, if_neg c2, if_neg c3, g4, if_neg (by simp [c4]), if_pos (by rw [hs4, ← es1, ← eX, ← es2]; exact hs)]
        rw [e1]
        have dq : ((s1 : Int) != (s2 : Int)) = true := by rw [bne_iff_ne]; omega
        clear hs e1 hcell hsub1 hsub2 hsub3 hd4 hs4 hcrc eX eY es1 es2 g4 hT
        go_enter Tryd.func67, Tryd.ntmps67
        go_wp2_with fail
        refine HRU.out.mono ?_
        rintro e w1 ⟨rfl, rfl⟩
        clear HRU
        go_wp2
        go_region_held (fun _ => True) (exact trivial) (first
          | (go_at_call 75; refine (readSum_any _ a4 b4 c4' d4' r4 _ ?_).mono ?_; (exact HB3.out _ (by repeat (first | exact Below.refl _ _ | refine Below.drew ?_ | refine below_drewN ?_ _ | refine up ?_ _))); rw [HS1.out]; rintro e w' ⟨rfl, nn, rfl⟩)
          | (go_at_call 38; refine (sum_any _ [X] _ ?_ ?_).mono ?_; (exact HT.out _ (by repeat (first | exact Below.refl _ _ | refine Below.drew ?_ | refine below_drewN ?_ _ | refine up ?_ _))); (first | exact ps1 _ _ rfl _ (HB1.out _ (by repeat (first | exact Below.refl _ _ | refine Below.drew ?_ | refine below_drewN ?_ _ | refine up ?_ _))) | exact (ps1 _ _ rfl _ (HB1.out _ (by repeat (first | exact Below.refl _ _ | refine Below.drew ?_ | refine below_drewN ?_ _ | refine up ?_ _)))).kept (below_drewN (Below.refl _ _) _)); rw [HS2.out]; rintro e w' ⟨rfl, rfl⟩))
        all_goals
          go_wp2
          go_ret3
          exact ⟨_, rfl, Own.nil _ _, (by repeat (first | exact Below.refl _ _ | refine Below.drew ?_ | refine below_drewN ?_ _ | refine up ?_ _))⟩
    · have e1 : rfAt l q t x = ([], 0, 15) := by unfold rfAt; rw [if_neg c1, if_neg c2, if_neg c3, g4, if_pos c4]
      rw [e1]
      have d4 : ((l[t + x + 4] : Int) != 165) = true := by rw [bne_iff_ne]; omega
      have HC4 : w.cell? ⟨b, off + (t + x + 4), none⟩ = some (.int .u8 (l[t + x + 4] : Int)) := hc4
      clear e1 hcell hc4
      generalize l[t + x + 4] = y at *
      go_enter Tryd.func67, Tryd.ntmps67
      go_wp2_with fail
      refine HRU.out.mono ?_
      rintro e w1 ⟨rfl, rfl⟩
      clear HRU
      go_wp2
      go_ret3
      exact ⟨_, rfl, Own.nil _ _, Below.refl _ _⟩
end Go.Proofs.YtenhaogheilmoaaDoor

/-
  PLAIN MATHEMATICS OF FRAMES: a frame is read again; a torn one is not.
-/
namespace Go.Proofs.YtenhaogheilmoaaDoor
open Wb

theorem le4_sum (s : Nat) (h : s < 4294967296) (r : List Nat) : sum4 (le4 s ++ r) = s := by
  simp [sum4, le4]
  omega
theorem uint_okW (v : Nat) : ok (Wn.uint v) := Wn.uint_ok v v (Nat.le_refl _)
theorem fr_ok {body : List Nat} (h : ok body) : ok (fr body) := by
  unfold fr
  exact ok_append (ok_append (ok_append (uint_okW _) h) (le4_ok _)) (ok_one (by decide))
theorem fr_length (body : List Nat) : (fr body).length = (Wn.uint body.length).length + body.length + 5 := by
  unfold fr
  simp [le4]
  omega
/-- a frame at a place is read -/
theorem rf_fr (ahead body behind : List Nat) (hb : ok body) (h0 : 0 < body.length) (h1 : body.length ≤ 1048576) :
    rf (ahead ++ fr body ++ behind) (ahead.length : Int) = (body, ((ahead.length + (fr body).length : Nat) : Int), 0) := by
  have hd : (ahead ++ fr body ++ behind).drop ahead.length = Wn.uint body.length ++ (body ++ le4 (Wm.crc (Wn.uint body.length ++ body)) ++ [165] ++ behind) := by
    simp [fr]
  have hr := Wn.rd_uint0 body.length (body ++ le4 (Wm.crc (Wn.uint body.length ++ body)) ++ [165] ++ behind) (by omega)
  have hlen : (ahead ++ fr body ++ behind).length = ahead.length + (fr body).length + behind.length := by simp; omega
  have hfl := fr_length body
  have hu := Wn.ru_in (ahead ++ fr body ++ behind) ahead.length (by omega) body.length (Wn.uint body.length).length 0 (by rw [hd]; exact hr)
  rw [rf_at _ _ _ _ (by simpa using hu)]
  generalize hU : Wn.uint body.length = U at *
  have hgood : ok (U ++ body) := by rw [← hU]; exact ok_append (uint_okW _) hb
  generalize hS : Wm.crc (U ++ body) = s at *
  have hs : s < 4294967296 := by rw [← hS]; exact Wm.crc_lt _ hgood
  have e0 : ahead ++ fr body ++ behind = ahead ++ (U ++ (body ++ (le4 s ++ ([165] ++ behind)))) := by simp [fr, hU, hS]
  have ht : (ahead ++ fr body ++ behind).take (ahead.length + U.length + body.length) = ahead ++ (U ++ body) := by
    rw [e0, show ahead.length + U.length + body.length = (ahead ++ (U ++ body)).length by simp; omega, show ahead ++ (U ++ (body ++ (le4 s ++ ([165] ++ behind)))) = (ahead ++ (U ++ body)) ++ (le4 s ++ ([165] ++ behind)) by simp, List.take_left]
  have hdr : (ahead ++ fr body ++ behind).drop (ahead.length + U.length + body.length) = le4 s ++ ([165] ++ behind) := by
    rw [e0, show ahead.length + U.length + body.length = (ahead ++ (U ++ body)).length by simp; omega, show ahead ++ (U ++ (body ++ (le4 s ++ ([165] ++ behind)))) = (ahead ++ (U ++ body)) ++ (le4 s ++ ([165] ++ behind)) by simp, List.drop_left]
  have h165 : (ahead ++ fr body ++ behind).getD (ahead.length + U.length + body.length + 4) 0 = 165 := by
    have : (ahead ++ fr body ++ behind)[ahead.length + U.length + body.length + 4]? = ((ahead ++ fr body ++ behind).drop (ahead.length + U.length + body.length))[4]? := by rw [List.getElem?_drop]
    rw [List.getD_eq_getElem?_getD, this, hdr]
    simp [le4]
  unfold rfAt
  rw [if_neg (by omega), if_neg (by omega), if_neg (by omega), h165, if_neg (by simp), hdr, le4_sum s hs, ht, List.drop_left, hS, if_neg (by simp)]
  have hbody : (ahead ++ (U ++ body)).drop (ahead.length + U.length) = body := by
    rw [show ahead ++ (U ++ body) = (ahead ++ U) ++ body by simp, show ahead.length + U.length = (ahead ++ U).length by simp, List.drop_left]
  rw [hbody]
  simp
  omega

theorem rfAt_bad (l : List Nat) (p q n : Nat) (h : (rfAt l p q n).2.2 ≠ 0) : (rfAt l p q n).1 = [] ∧ (rfAt l p q n).2.1 = 0 := by
  unfold rfAt at h ⊢
  by_cases h1 : n = 0
  · rw [if_pos h1]; exact ⟨rfl, rfl⟩
  rw [if_neg h1] at h ⊢
  by_cases h2 : 1048576 < n
  · rw [if_pos h2]; exact ⟨rfl, rfl⟩
  rw [if_neg h2] at h ⊢
  by_cases h3 : l.length < q + n + 5
  · rw [if_pos h3]; exact ⟨rfl, rfl⟩
  rw [if_neg h3] at h ⊢
  by_cases h4 : l.getD (q + n + 4) 0 ≠ 165
  · rw [if_pos h4]; exact ⟨rfl, rfl⟩
  rw [if_neg h4] at h ⊢
  by_cases h5 : sum4 (l.drop (q + n)) ≠ Wm.crc ((l.take (q + n)).drop p)
  · rw [if_pos h5]; exact ⟨rfl, rfl⟩
  rw [if_neg h5] at h
  exact absurd rfl h
theorem rfAt_le (l : List Nat) (p q n : Nat) : (rfAt l p q n).2.2 ≤ 16 := by
  unfold rfAt
  by_cases h1 : n = 0
  · rw [if_pos h1]; decide
  rw [if_neg h1]
  by_cases h2 : 1048576 < n
  · rw [if_pos h2]; decide
  rw [if_neg h2]
  by_cases h3 : l.length < q + n + 5
  · rw [if_pos h3]; decide
  rw [if_neg h3]
  by_cases h4 : l.getD (q + n + 4) 0 ≠ 165
  · rw [if_pos h4]; decide
  rw [if_neg h4]
  by_cases h5 : sum4 (l.drop (q + n)) ≠ Wm.crc ((l.take (q + n)).drop p)
  · rw [if_pos h5]; exact Nat.le_refl _
  rw [if_neg h5]
  exact Nat.zero_le _
theorem rf_bad (l : List Nat) (p : Int) (h : (rf l p).2.2 ≠ 0) : rf l p = ([], 0, (rf l p).2.2) := by
  rcases Wn.ru_cases l p with ⟨e, he, _, hr⟩ | ⟨q, v, n, rfl, _, _, _, hr⟩
  · rw [rf_err l p e he hr]
  · rw [rf_at l q v n hr] at h ⊢
    obtain ⟨h1, h2⟩ := rfAt_bad _ _ _ _ h
    exact Prod.ext h1 (Prod.ext h2 rfl)
theorem rf_le (l : List Nat) (p : Int) : (rf l p).2.2 ≤ 16 := by
  rcases Wn.ru_cases l p with ⟨e, he, he2, hr⟩ | ⟨q, v, n, rfl, _, _, _, hr⟩
  · rw [rf_err l p e he hr]
    show e ≤ 16
    omega
  · rw [rf_at l q v n hr]
    exact rfAt_le _ _ _ _

/-- a torn number -/
theorem rd_torn : ∀ (f v k z i acc : Nat), v ≤ f → k < (Wn.uint v).length → (0 < i ∨ 0 < k ∨ z = 0) → ∃ e, e ≠ 0 ∧ Wn.rd ((Wn.uint v).take k ++ List.replicate z 0) i acc = (0, 0, e) := by
  intro f
  induction f with
  | zero =>
    intro v k z i acc hv hk hor
    obtain rfl : v = 0 := by omega
    rw [Wn.uint_small 0 (by decide)] at hk ⊢
    obtain rfl : k = 0 := by simpa using hk
    rw [List.take_zero, List.nil_append]
    cases z with
    | zero => exact ⟨10, by decide, rfl⟩
    | succ z =>
      rw [List.replicate_succ]
      exact ⟨11, by decide, Wn.rd_min _ _ _ _ rfl (by omega)⟩
  | succ f ih =>
    intro v k z i acc hv hk hor
    cases k with
    | zero =>
      rw [List.take_zero, List.nil_append]
      cases z with
      | zero => exact ⟨10, by decide, rfl⟩
      | succ z =>
        rw [List.replicate_succ]
        exact ⟨11, by decide, Wn.rd_min _ _ _ _ rfl (by omega)⟩
    | succ k =>
      by_cases hs : v < 128
      · rw [Wn.uint_small v hs] at hk
        simp at hk
      · rw [Wn.uint_big v (by omega)] at hk ⊢
        rw [List.take_succ_cons, List.cons_append]
        by_cases h9 : i = 9 ∧ 1 < 128 + v % 128
        · exact ⟨12, by decide, Wn.rd_wide _ _ _ _ h9⟩
        · rw [Wn.rd_more _ _ _ _ h9 (by omega)]
          exact ih (v / 128) k z (i + 1) _ (by omega) (by simpa using hk) (.inl (by omega))

theorem rf_torn (body : List Nat) (k z : Nat) (h0 : 0 < body.length) (h1 : body.length ≤ 1048576) (hk : k < (fr body).length) : (rf ((fr body).take k ++ List.replicate z 0) 0).2.2 ≠ 0 := by
  have hfl := fr_length body
  have efr : fr body = Wn.uint body.length ++ (body ++ (le4 (Wm.crc (Wn.uint body.length ++ body)) ++ [165])) := by simp [fr]
  by_cases hku : k < (Wn.uint body.length).length
  · have et : (fr body).take k = (Wn.uint body.length).take k := by rw [efr, List.take_append_of_le_length (by omega)]
    rw [et]
    by_cases hor : 0 < k ∨ z = 0
    · obtain ⟨e, he, hr⟩ := rd_torn body.length body.length k z 0 0 (Nat.le_refl _) hku (.inr hor)
      have hu := Wn.ru_in ((Wn.uint body.length).take k ++ List.replicate z 0) 0 (Nat.zero_le _) 0 0 e (by rw [List.drop_zero]; exact hr)
      rw [if_neg he] at hu
      rw [show (0 : Int) = ((0 : Nat) : Int) from rfl, rf_err _ _ e he hu]
      exact he
    · obtain rfl : k = 0 := by omega
      obtain ⟨z', rfl⟩ : ∃ z', z = z' + 1 := ⟨z - 1, by omega⟩
      rw [List.take_zero, List.nil_append]
      have hr : Wn.rd (List.replicate (z' + 1) 0) 0 0 = (0, 1, 0) := by
        rw [List.replicate_succ, Wn.rd_last _ _ _ _ (by omega) (by decide) (by omega)]
      have hu := Wn.ru_in (List.replicate (z' + 1) 0) 0 (Nat.zero_le _) 0 1 0 (by rw [List.drop_zero]; exact hr)
      rw [show (0 : Int) = ((0 : Nat) : Int) from rfl, rf_at _ 0 0 1 (by simpa using hu)]
      unfold rfAt
      rw [if_pos rfl]
      decide
  · obtain ⟨j, rfl⟩ : ∃ j, k = (Wn.uint body.length).length + j := ⟨k - (Wn.uint body.length).length, by omega⟩
    have et : (fr body).take ((Wn.uint body.length).length + j) = Wn.uint body.length ++ (body ++ (le4 (Wm.crc (Wn.uint body.length ++ body)) ++ [165])).take j := by
      rw [efr, List.take_append, List.take_of_length_le (by omega), Nat.add_sub_cancel_left]
    have hr := Wn.rd_uint0 body.length ((body ++ (le4 (Wm.crc (Wn.uint body.length ++ body)) ++ [165])).take j ++ List.replicate z 0) (by omega)
    rw [← List.append_assoc, ← et] at hr
    have hu := Wn.ru_in ((fr body).take ((Wn.uint body.length).length + j) ++ List.replicate z 0) 0 (Nat.zero_le _) _ _ 0 (by rw [List.drop_zero]; exact hr)
    rw [show (0 : Int) = ((0 : Nat) : Int) from rfl, rf_at _ 0 _ _ (by simpa using hu)]
    rw [Nat.zero_add]
    unfold rfAt
    rw [if_neg (by omega), if_neg (by omega)]
    by_cases h3 : ((fr body).take ((Wn.uint body.length).length + j) ++ List.replicate z 0).length < (Wn.uint body.length).length + body.length + 5
    · rw [if_pos h3]; decide
    · rw [if_neg h3]
      have hz : ((fr body).take ((Wn.uint body.length).length + j) ++ List.replicate z 0).getD ((Wn.uint body.length).length + body.length + 4) 0 = 0 := by
        rw [List.getD_eq_getElem?_getD, List.getElem?_append_right (by simp; omega), List.getElem?_replicate]
        split <;> rfl
      rw [hz, if_pos (by decide)]
      decide
end Go.Proofs.YtenhaogheilmoaaDoor
