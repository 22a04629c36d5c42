/-
  The reference's ReadBytes; the law package's 'stretches' at Bytes and ReadBytes.
-/
import Derived.Test.YtdoclmkldfemhaaDoorNums
namespace Go.Proofs.YtdoclmkldfemhaaDoor
open Go Go.RowKit Go.ChangeShapes Go.WideShapes
open Wb

set_option maxHeartbeats 1000000 in
theorem rrb_any (v : Value) (l : List Nat) (p m : Int) (w : World) (h : Bs w v l) (hlen : l.length ≤ 140737488355328) (hm : m ≤ 9223372036854775807) :
    Calls Tryd.prog 30 #[v, .int .i64 p, .int .i64 m] w fun e w' => ∃ v', e = .returned (.tuple #[v', .int .i64 (rb l p m).2.1, .int .i64 ((rb l p m).2.2 : Int)]) ∧ Own w.heap.size w' v' (rb l p m).1 ∧ Below w.heap.size w w' := by
  have hru := rru_any v l p w h hlen
  unfold tup3 at hru
  obtain ⟨ao, cap, rfl, hl, hmx, _⟩ := h.shape
  unfold maxLen at hmx
  by_cases hout : p < 0 ∨ (l.length : Int) < p
  · have hr := Wn.ru_out l p hout
    have hrb : rb l p m = ([], 0, 1) := by unfold rb; rw [hr]; split <;> simp
    rw [hrb]
    clear hru hr hrb h
    by_cases hp0 : p < 0
    · clear hout
      go_enter Tryd.func30, Tryd.ntmps30
      go_wp2
      go_ret3
      exact ⟨_, rfl, Own.nil _ _, Below.refl _ _⟩
    · have hp1 : (l.length : Int) < p := by omega
      clear hout
      go_enter Tryd.func30, Tryd.ntmps30
      go_wp2
      go_ret3
      exact ⟨_, rfl, Own.nil _ _, Below.refl _ _⟩
  · have hp0 : ¬ p < 0 := by omega
    have hp1 : ¬ (l.length : Int) < p := by omega
    clear hout
    by_cases hneg : m < 0
    · rw [rb_arg l p m hneg]
      clear hru h
      go_enter Tryd.func30, Tryd.ntmps30
      go_wp2
      go_ret3
      exact ⟨_, rfl, Own.nil _ _, Below.refl _ _⟩
    obtain ⟨M, rfl⟩ := Int.eq_ofNat_of_zero_le (show 0 ≤ m by omega)
    rcases Wn.ru_cases l p with ⟨e, he, he2, hr⟩ | ⟨q, x, n, rfl, hq, hn, hrd, hr⟩
    · have hrb : rb l p (M : Int) = ([], 0, e) := by unfold rb; rw [if_neg hneg, hr]; simp [he]
      rw [hrb]
      rw [hr] at hru
      have HRU : Hid (Calls Tryd.prog 35 #[.slice ao l.length cap, .int .i64 p] w fun e' w' => e' = .returned (.tuple #[.int .u64 ((0 : Nat) : Int), .int .i64 0, .int .i64 (e : Int)]) ∧ w = w') := hru
      have d0 : ((e : Int) != 0) = true := by rw [bne_iff_ne]; omega
      clear hru hr hrb h
      go_enter Tryd.func30, Tryd.ntmps30
      go_wp2_with fail
      refine HRU.out.mono ?_
      rintro e w1 ⟨rfl, rfl⟩
      clear HRU
      go_wp2
      go_ret3
      exact ⟨_, rfl, Own.nil _ _, Below.refl _ _⟩
    · have hx := (rd_back0 _ _ _ (ok_drop h.good q) hrd).2.2
      rw [hr] at hru
      have hrbe : rb l (q : Int) (M : Int) = if (M : Int) < (x : Int) then ([], 0, 13) else if (l.length : Int) - ((q + n : Nat) : Int) < (x : Int) then ([], 0, 10) else ((l.take (q + n + x)).drop (q + n), ((q + n : Nat) : Int) + (x : Int), 0) := by
        unfold rb
        rw [if_neg hneg, hr]
        simp only [ne_eq, not_true_eq_false, if_false, Int.toNat_natCast]
      generalize hq' : q + n = t at *
      have hqt : q < t := by omega
      have HRU : Hid (Calls Tryd.prog 35 #[.slice ao l.length cap, .int .i64 (q : Int)] w fun e' w' => e' = .returned (.tuple #[.int .u64 (x : Int), .int .i64 (t : Int), .int .i64 ((0 : Nat) : Int)]) ∧ w = w') := hru
      clear hru hr hrd hq' hn
      by_cases c1 : (M : Int) < (x : Int)
      · rw [hrbe, if_pos c1]
        clear hrbe h
        go_enter Tryd.func30, Tryd.ntmps30
        go_wp2_with fail
        refine HRU.out.mono ?_
        rintro e w1 ⟨rfl, rfl⟩
        clear HRU
        go_wp2
        go_ret3
        exact ⟨_, rfl, Own.nil _ _, Below.refl _ _⟩
      rw [if_neg c1] at hrbe
      by_cases c2 : (l.length : Int) - (t : Int) < (x : Int)
      · rw [hrbe, if_pos c2]
        clear hrbe h
        go_enter Tryd.func30, Tryd.ntmps30
        go_wp2_with fail
        refine HRU.out.mono ?_
        rintro e w1 ⟨rfl, rfl⟩
        clear HRU
        go_wp2
        go_ret3
        exact ⟨_, rfl, Own.nil _ _, Below.refl _ _⟩
      rw [hrbe, if_neg c2]
      clear hrbe
      have HP : Hid (∀ z : Int, z = ((t + x : Nat) : Int) → Calls Tryd.prog 10 #[.slice ao l.length cap, .int .i64 (t : Int), .int .i64 z] w fun e w' => ∃ v', e = .returned v' ∧ Own w.heap.size w' v' ((l.take (t + x)).drop t) ∧ Below w.heap.size w w') := by
        rintro z rfl
        exact rpart_any _ l t (t + x) w h hlen (by omega) (by omega)
      generalize (l.take (t + x)).drop t = Y at *
      clear h
      go_enter Tryd.func30, Tryd.ntmps30
      go_wp2_with fail
      refine HRU.out.mono ?_
      rintro e w1 ⟨rfl, rfl⟩
      clear HRU
      go_wp2_with fail
      refine (HP.out _ (by omega)).mono ?_
      rintro e w9 ⟨v9, rfl, ho9, b9⟩
      obtain ⟨ao9, cap9, rfl, _⟩ := ho9.bs.shape
      go_wp2
      go_ret3
      exact ⟨_, rfl, ho9, b9⟩

theorem rb_small (l : List Nat) (p m : Int) : (rb l p m).2.2 ≤ 13 := by
  have := ru_small l p
  unfold rb
  repeat' split
  all_goals simp
  omega
set_option maxHeartbeats 1000000 in
theorem stretches_5 (u i a m : Int) (bv pv : Value) (l : List Nat) (w : World) (h : Bs w bv l) (hlen : l.length ≤ 140737488355000) :
    Calls Tryd.prog 11 #[.agg #[.int .i64 5, .int .u64 u, .int .i64 i, .int .i64 a, .int .i64 m, bv, pv]] w fun e w' => e = .returned (.bool true) ∧ Below w.heap.size w w' := by
  have HX : Hid (∀ w', Below _ _ w' → _) := box_cells w (.int .i64 5) (.int .u64 u) (.int .i64 i) (.int .i64 a) (.int .i64 m) bv pv
  have HB : Hid (∀ w', Below w.heap.size w w' → Bs w' bv l) := fun w' hb => h.kept hb
  obtain ⟨ao, cap, rfl, _⟩ := h.shape
  clear h
  obtain ⟨L, hL⟩ : ∃ L, Wn.uint l.length ++ l = L := ⟨_, rfl⟩
  have HL : Hid (Wn.uint l.length ++ l = L) := hL
  clear hL
  go_enter Tryd.func11, Tryd.ntmps11
  go_wp2_with fail
  refine (bytes_any _ l _ (HB.out _ (up0 _ _)) hlen).mono ?_
  rw [HL.out]
  rintro e w1 ⟨v1, rfl, o1, b1⟩
  have B1 := andThen (up0 w _) b1
  obtain ⟨_, _, _, _, _, c5, _⟩ := HX.out w1 b1
  have ho1 := o1.bs
  obtain ⟨ao1, cap1, rfl, _⟩ := o1.bs.shape
  clear b1 HX o1
  go_wp2_with fail
  refine (rbytes_any _ l _ (HB.out _ B1) hlen).mono ?_
  rw [HL.out]
  rintro e w2 ⟨v2, rfl, o2, b2⟩
  have B2 := andThen B1 b2
  have ho1' := ho1.kept b2
  have ho2 := o2.bs
  obtain ⟨ao2, cap2, rfl, _⟩ := o2.bs.shape
  clear b2 B1 ho1 o2 c5 HB
  go_wp2_with fail
  refine (same_ok _ _ L _ ho1' ho2).mono ?_
  rintro e w3 ⟨rfl, b3⟩
  have B3 := andThen B2 b3
  clear b3 B2 ho1' ho2
  go_wp2
  go_ret
  exact ⟨rfl, B3⟩
set_option maxHeartbeats 1000000 in
theorem stretches_6 (u i a m : Int) (bv pv : Value) (l : List Nat) (w : World) (h : Bs w bv l) (hlen : l.length ≤ 140737488355328) (hm : m ≤ 9223372036854775807) :
    Calls Tryd.prog 11 #[.agg #[.int .i64 6, .int .u64 u, .int .i64 i, .int .i64 a, .int .i64 m, bv, pv]] w fun e w' => e = .returned (.bool true) ∧ Below w.heap.size w w' := by
  have HX : Hid (∀ w', Below _ _ w' → _) := box_cells w (.int .i64 6) (.int .u64 u) (.int .i64 i) (.int .i64 a) (.int .i64 m) bv pv
  have HB : Hid (∀ w', Below w.heap.size w w' → Bs w' bv l) := fun w' hb => h.kept hb
  obtain ⟨ao, cap, rfl, _⟩ := h.shape
  clear h
  have hE := rb_small l a m
  have HV : Hid (∃ V E N, (rb l a m).1 = V ∧ (rb l a m).2.1 = E ∧ (rb l a m).2.2 = N) := ⟨_, _, _, rfl, rfl, rfl⟩
  obtain ⟨V, E, N, h1, h2, h3⟩ := HV.out
  rw [h3] at hE
  have H1 : Hid ((rb l a m).1 = V) := h1
  have H2 : Hid ((rb l a m).2.1 = E) := h2
  have H3 : Hid ((rb l a m).2.2 = N) := h3
  clear HV h1 h2 h3
  go_enter Tryd.func11, Tryd.ntmps11
  go_wp2_with fail
  refine (readBytes_any _ l a m _ (HB.out _ (up0 _ _)) hlen hm).mono ?_
  rw [H1.out, H2.out, H3.out]
  rintro e w1 ⟨v1, rfl, o1, b1⟩
  have B1 := andThen (up0 w _) b1
  obtain ⟨_, _, _, c3, c4, c5, _⟩ := HX.out w1 b1
  have ho1 := o1.bs
  obtain ⟨ao1, cap1, rfl, _⟩ := o1.bs.shape
  clear b1 HX o1
  go_wp2_with fail
  refine (rrb_any _ l a m _ (HB.out _ B1) hlen hm).mono ?_
  rw [H1.out, H2.out, H3.out]
  rintro e w2 ⟨v2, rfl, o2, b2⟩
  have B2 := andThen B1 b2
  have ho1' := ho1.kept b2
  have ho2 := o2.bs
  obtain ⟨ao2, cap2, rfl, _⟩ := o2.bs.shape
  clear b2 B1 ho1 o2 c3 c4 c5 HB H1 H2 H3
  go_wp2_with fail
  refine (same_ok _ _ V _ ho1' ho2).mono ?_
  rintro e w3 ⟨rfl, b3⟩
  have B3 := andThen B2 b3
  clear b3 B2 ho1' ho2
  go_wp2_with fail
  refine (num_any (N : Int) _ (by omega) (by omega)).mono ?_
  rintro e w4 ⟨rfl, rfl⟩
  go_wp2
  go_ret
  exact ⟨rfl, B3⟩
end Go.Proofs.YtdoclmkldfemhaaDoor
