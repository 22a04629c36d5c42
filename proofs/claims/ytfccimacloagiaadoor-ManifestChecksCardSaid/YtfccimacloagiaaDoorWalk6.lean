/-
  wire: Frame, where there is a body that may be framed.
-/
import Derived.Test.YtfccimacloagiaaDoorWalk5
namespace Go.Proofs.YtfccimacloagiaaDoor
open Go Go.RowKit
open Wb

set_option maxHeartbeats 1000000 in
theorem frame_ok (pv : Value) (ls : List (List Nat)) (w : World) (hT : Tab w) (hp : Ps w pv ls) (h : ls.flatten.length ≤ 1048576) (h0 : 0 < ls.flatten.length) :
    Calls Tryd.prog 29 #[pv] w fun e w' => ∃ v', e = .returned (.tuple #[v', .int .i64 0]) ∧ Own w.heap.size w' v' (fr ls.flatten) ∧ Below w.heap.size w w' := by
  have hin := info5
  obtain ⟨i0, hi, hz0, hz1, hz2⟩ := info_parts info5
  obtain ⟨n, hn⟩ : ∃ n, n = ls.flatten.length := ⟨_, rfl⟩
  have HN : Hid (n = ls.flatten.length) := hn
  have hb := bs_ok pv ls w hp h h0
  rw [← hn] at hb h h0
  have HBS : Hid (Calls Tryd.prog 45 #[pv] w fun e w' => e = .returned (.tuple #[.int .i64 (n : Int), .int .i64 0]) ∧ w = w') := hb
  clear hb hn
  obtain ⟨ao, cap, rfl, hmx, hc⟩ := hp.shape
  unfold maxLen at hmx
  go_enter Tryd.func29, Tryd.ntmps29
  go_wp2_with fail
  refine HBS.out.mono ?_
  rintro e w1 ⟨rfl, rfl⟩
  clear HBS
  go_wp2_with fail
  refine (uint_any n _ (by omega)).mono ?_
  rintro e w1 ⟨vh, rfl, hh, b1⟩
  have hhl := Wn.uint_len3 n h
  generalize eU : Wn.uint n = U at hh hhl
  have EU : Hid (Wn.uint n = U) := eU
  clear eU
  obtain ⟨aoh, caph, rfl, _⟩ := hh.bs.shape
  go_wp2_with (at_make; refine wpList_make_own _ rfl _ _ 25 rfl w.heap.size 5 i0 (.int .u8 0) 1 Tryd.underlying25 hi hz0 hz1 _ _ _ (U.length + n + 5) rfl rfl (by omega) (by rw [hz2]; omega) (by unfold maxLen; omega) b1.size ?_)
  intro w2 hown2 hgr2
  have ho2 : Own w.heap.size w2 (.slice (some ⟨w1.heap.size, 0, none⟩) 0 (U.length + n + 5)) [] := ⟨hown2, ok_nil⟩
  have b2 : Below w1.heap.size w1 w2 := (Below.refl _ w1).grown hgr2 (Nat.le_refl _) (fun k hk => by cases hk)
  have b12 := andThen b1 b2
  have hh2 := (hh.kept b2).bs
  clear hown2 hgr2 hh
  go_wp2_with (at_builtin; refine wpList_append _ rfl (.tmp 27) (.tmp 28) 25 rfl w.heap.size hin Tryd.underlying25 _ [] rfl ho2 _ U rfl hh2 (by simp; omega) b12.size ?_)
  intro v3 w3 ho3 b3 _
  have ho3' : Own w.heap.size w3 v3 U := by simpa using ho3
  have b13 := b12.trans b3
  clear ho3 b3 ho2 hh2 b12 b1 b2
  go_wp2
  go_loopw [7, 32] (fun o i wr => ∃ k : Nat, k ≤ ls.length ∧ i = .int .i64 (k : Int) ∧ Own w.heap.size wr o (U ++ (ls.take k).flatten) ∧ Below w.heap.size w wr) (fun _ i _ => ls.length - (intOf i).toNat)
  case atStart => exact ⟨0, Nat.zero_le _, rfl, by simpa using ho3', b13⟩
  case round =>
    obtain ⟨k, hk, rfl, hown, hbel⟩ := hrel
    clear ho3' b13
    have hpre : (ls.take k).flatten.length ≤ ls.flatten.length := by
      have h1 := congrArg (fun x => (List.flatten x).length) (List.take_append_drop k ls)
      simp only [List.flatten_append, List.length_append] at h1
      omega
    by_cases hlt : k < ls.length
    · obtain ⟨b, off, rfl, hcell⟩ := hc (List.ne_nil_of_length_pos (by omega))
      obtain ⟨vk, hck, hbk⟩ := hcell k hlt
      have hck' := (hbel.cell (p := ⟨b, off + k, none⟩) (World.block_lt_of_cell? _ _ hck)).trans hck
      have hbk' := hbk.kept hbel
      obtain ⟨aok, capk, rfl, hlk, hmk, hx1, hx2⟩ := hbk.shape
      have HS : Hid (U ++ (ls.take (k + 1)).flatten = (U ++ (ls.take k).flatten) ++ ls[k]) := by
        show _ = _
        rw [List.take_succ_eq_append_getElem hlt, List.flatten_append]
        simp
      have hpre2 : (ls.take (k + 1)).flatten.length ≤ ls.flatten.length := by
        have h1 := congrArg (fun x => (List.flatten x).length) (List.take_append_drop (k + 1) ls)
        simp only [List.flatten_append, List.length_append] at h1
        omega
      have hkl : (U ++ (ls.take k).flatten).length + ls[k].length ≤ 2000000 := by
        have h1 := congrArg List.length HS.out
        have h2 := HN.out
        simp only [List.length_append] at h1 ⊢
        omega
      clear hx1 hx2 hc hcell hbk hck hpre hpre2
      generalize U ++ (ls.take k).flatten = m at *
      generalize ls[k] = q at *
      have hsz := hbel.size
      go_wp2_with (at_builtin; refine wpList_append _ rfl (.tmp 36) (.tmp 37) 25 rfl w.heap.size hin Tryd.underlying25 _ m rfl hown _ q rfl hbk' (by omega) hsz ?_)
      intro v' w' ho' hb' _
      have R : Hid (Own w.heap.size w' v' (U ++ (ls.take (k + 1)).flatten) ∧ Below w.heap.size w w') := ⟨by rw [HS.out]; exact ho', hbel.trans hb'⟩
      clear ho' hb' hown hbel HS
      go_wp2
      go_roundw
      case rel => exact ⟨k + 1, by omega, by go_num, R.out.1, R.out.2⟩
      case measure => simp [intOf]; omega
    · have hf : (ls.take k).flatten = ls.flatten := by rw [List.take_of_length_le (by omega)]
      rw [hf] at hown
      obtain ⟨J, eJ⟩ : ∃ J, J = U ++ ls.flatten := ⟨_, rfl⟩
      rw [← eJ] at hown
      have HJ : Hid (J = U ++ ls.flatten) := eJ
      have hJl : J.length ≤ 1048580 := by
        have h2 := HN.out
        rw [eJ, List.length_append]
        omega
      clear eJ hf hpre hc
      obtain ⟨aoj, capj, rfl, _⟩ := hown.bs.shape
      have hsum := Wm.crc_lt J hown.good
      obtain ⟨s, es⟩ : ∃ s, s = Wm.crc J := ⟨_, rfl⟩
      have HS : Hid (Wm.crc [J].flatten = s) := by
        show _ = _
        rw [es]
        simp
      have HS2 : Hid (s = Wm.crc J) := es
      rw [← es] at hsum
      clear es
      go_wp2_with fail
      refine (sum_any _ [J] _ ((hT.kept hbel).kept (up0 _ _)) (ps1 _ _ rfl _ hown.bs)).mono ?_
      rintro e w4 ⟨rfl, rfl⟩
      rw [HS.out]
      go_wp2_with fail
      refine (sumBytes_any s _ hsum).mono ?_
      rintro e w5 ⟨v5, rfl, ho5, b5⟩
      have h5l : (le4 s).length ≤ 4 := Nat.le_refl _
      generalize eZ : le4 s = z at ho5 h5l
      have EZ : Hid (le4 s = z) := eZ
      clear eZ
      obtain ⟨ao5, cap5, rfl, _⟩ := ho5.bs.shape
      have b5' := andThen (up hbel _) b5
      have hown5 := (hown.kept (up0 _ _)).kept b5
      have ho5' := ho5.bs
      have HF4 : Hid (∀ x, x = J ++ z ++ [165] → x = fr ls.flatten) := by
        rintro x rfl
        unfold fr
        rw [← HN.out, EU.out, ← HJ.out, ← HS2.out, EZ.out]
      clear ho5 b5 hown hbel
      go_wp2_with (at_builtin; refine wpList_append _ rfl (.tmp 40) (.tmp 44) 25 rfl w.heap.size hin Tryd.underlying25 _ J rfl hown5 _ z rfl ho5' (by omega) b5'.size ?_)
      intro v6 w6 ho6 b6 _
      have b6' := b5'.trans b6
      have hsz6 := b6'.size
      have HO6 : Hid (∀ o, Own w.heap.size (w6.alloc o) v6 (J ++ z)) := fun o => ho6.alloc o
      have hJz : (J ++ z).length ≤ 1048590 := by simp; omega
      clear ho6 b6 b5' ho5' hown5
      generalize J ++ z = m at *
      go_wp2_with (at_builtin; refine wpList_append _ rfl (.tmp 46) (.tmp 47) 25 rfl w.heap.size hin Tryd.underlying25 _ m rfl (HO6.out _) _ [165] rfl (Bs.one _ 165 (by decide) _ rfl) (by simp; omega) (by simp; omega) ?_)
      intro v7 w7 ho7 b7 _
      have R : Hid (Own w.heap.size w7 v7 (fr ls.flatten) ∧ Below w.heap.size w w7) := ⟨by rw [← HF4.out _ rfl]; exact ho7, (up b6' _).trans b7⟩
      clear ho7 b7 HO6 b6'
      go_wp2
      go_ret2
      exact ⟨_, rfl, R.out.1, R.out.2⟩
end Go.Proofs.YtfccimacloagiaaDoor
