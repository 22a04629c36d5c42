/-
  wire: Int, ReadInt, Bytes, ReadBytes.
-/
import Derived.Test.YtppgijgmhjfdfaaDoorWalk5
import Derived.Test.YtppgijgmhjfdfaaDoorNum2
namespace Go.Proofs.YtppgijgmhjfdfaaDoor
open Go Go.RowKit
open Wb

set_option maxHeartbeats 400000 in
theorem int_any (v : Int) (w : World) (h0 : -9223372036854775808 ≤ v) (h1 : v ≤ 9223372036854775807) :
    Calls Tryd.prog 22 #[.int .i64 v] w fun e w' => ∃ v', e = .returned v' ∧ Own w.heap.size w' v' (Wn.uint (zz v)) ∧ Below w.heap.size w w' := by
  have hz := zig_num v h0 h1
  have hl := zz_lt v h0 h1
  generalize zz v = z at *
  go_enter Tryd.func22, Tryd.ntmps22
  go_wp2_with fail
  refine (uint_any z _ hl).mono ?_
  rintro e w1 ⟨v1, rfl, ho, b1⟩
  obtain ⟨ao, cap, rfl, _⟩ := ho.bs.shape
  go_wp2
  go_ret
  exact ⟨_, rfl, ho, b1⟩

/-- ReadInt's answer -/
def ri (l : List Nat) (p : Int) : Int × Int × Nat := if (Wn.ru l p).2.2 ≠ 0 then (0, 0, (Wn.ru l p).2.2) else (uz (Wn.ru l p).1, (Wn.ru l p).2.1, 0)

set_option maxHeartbeats 400000 in
theorem bytes_any (v : Value) (l : List Nat) (w : World) (h : Bs w v l) (hlen : l.length ≤ 140737488355000) :
    Calls Tryd.prog 24 #[v] w fun e w' => ∃ v', e = .returned v' ∧ Own w.heap.size w' v' (Wn.uint l.length ++ l) ∧ Below w.heap.size w w' := by
  have hin := info5
  have hob := h
  obtain ⟨ao, cap, rfl, hl, hmx, _, _⟩ := h.shape
  go_enter Tryd.func24, Tryd.ntmps24
  go_wp2_with fail
  refine (uint_any l.length _ (by omega)).mono ?_
  rintro e w1 ⟨v1, rfl, ho, b1⟩
  have hul := Wn.uint_len10 l.length (by omega)
  generalize eU : Wn.uint l.length = U at ho hul
  have EU : Hid (Wn.uint l.length = U) := eU
  clear eU
  obtain ⟨ao1, cap1, rfl, _⟩ := ho.bs.shape
  have h1 := hob.kept b1
  have hsz := b1.size
  clear hob h
  go_wp2_with (at_builtin; refine wpList_append _ rfl (.tmp 6) (.tmp 7) 25 rfl w.heap.size hin Tryd.underlying25 _ U rfl ho _ l rfl h1 (by omega) hsz ?_)
  intro v2 w2 ho2 b2 _
  have R : Hid (Own w.heap.size w2 v2 (Wn.uint l.length ++ l) ∧ Below w.heap.size w w2) := ⟨by rw [EU.out]; exact ho2, b1.trans b2⟩
  clear ho2 b2 b1 ho h1
  go_wp2
  go_ret
  exact ⟨_, rfl, R.out.1, R.out.2⟩

theorem bsNil (w : World) (a : Addr) (c : Nat) (h : c ≤ maxLen) : Bs w (.slice (some a) 0 c) [] :=
  ⟨⟨some a, c, rfl, Nat.zero_le _, h, fun e => (by cases e), fun e => absurd rfl e⟩, ok_nil⟩
theorem rb_arg (l : List Nat) (p m : Int) (h : m < 0) : rb l p m = ([], 0, 1) := by unfold rb; rw [if_pos h]
set_option maxHeartbeats 1000000 in
theorem readBytes_any (v : Value) (l : List Nat) (p m : Int) (w : World) (h : Bs w v l) (hlen : l.length ≤ 140737488355328) (hm : m ≤ 9223372036854775807) :
    Calls Tryd.prog 25 #[v, .int .i64 p, .int .i64 m] w fun e w' => ∃ v', e = .returned (.tuple #[v', .int .i64 (rb l p m).2.1, .int .i64 ((rb l p m).2.2 : Int)]) ∧ Own w.heap.size w' v' (rb l p m).1 ∧ Below w.heap.size w w' := by
  have hru := readUint_any v l p w h hlen
  unfold tup3 at hru
  by_cases hout : p < 0 ∨ (l.length : Int) < p
  · have hr := Wn.ru_out l p hout
    have hrb : rb l p m = ([], 0, 1) := by unfold rb; rw [hr]; split <;> simp
    rw [hrb]
    clear hru hr hrb
    go_enter Tryd.func25, Tryd.ntmps25
    go_wp2_with fail
    refine (outside_yes _ l _ _ h hout).mono ?_
    rintro e w1 ⟨rfl, rfl⟩
    clear h hout
    go_wp2
    go_ret3
    exact ⟨_, rfl, Own.nil _ _, Below.refl _ _⟩
  · by_cases hneg : m < 0
    · rw [rb_arg l p m hneg]
      have d1 : decide (m < 0) = true := decide_eq_true hneg
      clear hru
      go_enter Tryd.func25, Tryd.ntmps25
      go_wp2_with fail
      refine (outside_no _ l _ _ h (by omega) (by omega)).mono ?_
      rintro e w1 ⟨rfl, rfl⟩
      clear h hout
      go_wp2
      go_ret3
      exact ⟨_, rfl, Own.nil _ _, Below.refl _ _⟩
    have d1 : decide (m < 0) = false := decide_eq_false hneg
    obtain ⟨M, rfl⟩ := Int.eq_ofNat_of_zero_le (show 0 ≤ m by omega)
    rcases Wn.ru_cases l p with ⟨e, he, he2, hr⟩ | ⟨q, x, n, rfl, hq, hn, hrd, hr⟩
    · have hrb : rb l p (M : Int) = ([], 0, e) := by unfold rb; rw [if_neg hneg, hr]; simp [he]
      rw [hrb]
      rw [hr] at hru
      have HRU : Hid (Calls Tryd.prog 30 #[v, .int .i64 p] w fun e' w' => e' = .returned (.tuple #[.int .u64 ((0 : Nat) : Int), .int .i64 0, .int .i64 (e : Int)]) ∧ w = w') := hru
      have d0 : ((e : Int) != 0) = true := by rw [bne_iff_ne]; omega
      clear hru hr hrb
      go_enter Tryd.func25, Tryd.ntmps25
      go_wp2_with fail
      refine (outside_no _ l _ _ h (by omega) (by omega)).mono ?_
      rintro e w1 ⟨rfl, rfl⟩
      go_wp2_with fail
      refine HRU.out.mono ?_
      rintro e w1 ⟨rfl, rfl⟩
      clear HRU
      go_wp2
      go_ret3
      exact ⟨_, rfl, Own.nil _ _, Below.refl _ _⟩
    · have hx := (rd_back0 _ _ _ (ok_drop h.good q) hrd).2.2
      rw [hr] at hru
      have hrbe : rb l (q : Int) (M : Int) = if (M : Int) < (x : Int) then ([], 0, 13) else if (l.length : Int) - ((q + n : Nat) : Int) < (x : Int) then ([], 0, 10) else ((l.take (q + n + x)).drop (q + n), ((q + n : Nat) : Int) + (x : Int), 0) := by
        unfold rb
        rw [if_neg hneg, hr]
        simp only [ne_eq, not_true_eq_false, if_false, Int.toNat_natCast]
      generalize hq' : q + n = t at *
      have hqt : q < t := by omega
      have HRU : Hid (Calls Tryd.prog 30 #[v, .int .i64 (q : Int)] w fun e' w' => e' = .returned (.tuple #[.int .u64 (x : Int), .int .i64 (t : Int), .int .i64 ((0 : Nat) : Int)]) ∧ w = w') := hru
      clear hru hr hrd hq' hn
      obtain ⟨b, off, cap, rfl, hcap, hmx⟩ : ∃ b off cap, v = .slice (some ⟨b, off, none⟩) l.length cap ∧ l.length ≤ cap ∧ cap ≤ maxLen := by
        rcases h.cases with ⟨rfl, _⟩ | ⟨_, b, off, cap, h1, h2, h3, h4⟩
        · simp at hq; omega
        · exact ⟨b, off, cap, h1, h2, h3⟩
      unfold maxLen at hmx
      by_cases c1 : (M : Int) < (x : Int)
      · rw [hrbe, if_pos c1]
        clear hrbe
        go_enter Tryd.func25, Tryd.ntmps25
        go_wp2_with fail
        refine (outside_no _ l _ _ h (by omega) (by omega)).mono ?_
        rintro e w1 ⟨rfl, rfl⟩
        go_wp2_with fail
        refine HRU.out.mono ?_
        rintro e w1 ⟨rfl, rfl⟩
        clear HRU h
        go_wp2
        go_ret3
        exact ⟨_, rfl, Own.nil _ _, Below.refl _ _⟩
      rw [if_neg c1] at hrbe
      by_cases c2 : (l.length : Int) - (t : Int) < (x : Int)
      · rw [hrbe, if_pos c2]
        clear hrbe
        go_enter Tryd.func25, Tryd.ntmps25
        go_wp2_with fail
        refine (outside_no _ l _ _ h (by omega) (by omega)).mono ?_
        rintro e w1 ⟨rfl, rfl⟩
        go_wp2_with fail
        refine HRU.out.mono ?_
        rintro e w1 ⟨rfl, rfl⟩
        clear HRU h
        go_wp2
        go_ret3
        exact ⟨_, rfl, Own.nil _ _, Below.refl _ _⟩
      rw [hrbe, if_neg c2]
      clear hrbe
      by_cases hx0 : x = 0
      · subst hx0
        have e0 : (l.take (t + 0)).drop t = [] := List.drop_eq_nil_of_le (by simp; omega)
        have ep : (t : Int) + ((0 : Nat) : Int) = (t : Int) := by omega
        rw [e0, ep]
        clear e0 ep
        by_cases hcp : cap = t
        · subst hcp
          go_enter Tryd.func25, Tryd.ntmps25
          go_wp2_with fail
          refine (outside_no _ l _ _ h (by omega) (by omega)).mono ?_
          rintro e w1 ⟨rfl, rfl⟩
          go_wp2_with fail
          refine HRU.out.mono ?_
          rintro e w1 ⟨rfl, rfl⟩
          clear HRU h
          go_wp2_with fail
          refine (own_any _ [] _ (bsNil _ _ _ (by unfold maxLen; omega)) (by simp)).mono ?_
          rintro e w9 ⟨v9, rfl, ho9, b9⟩
          obtain ⟨ao9, cap9, rfl, _⟩ := ho9.bs.shape
          go_wp2
          go_ret3
          exact ⟨_, rfl, ho9, b9⟩
        · go_enter Tryd.func25, Tryd.ntmps25
          go_wp2_with fail
          refine (outside_no _ l _ _ h (by omega) (by omega)).mono ?_
          rintro e w1 ⟨rfl, rfl⟩
          go_wp2_with fail
          refine HRU.out.mono ?_
          rintro e w1 ⟨rfl, rfl⟩
          clear HRU h
          go_wp2_with fail
          refine (own_any _ [] _ (bsNil _ _ _ (by unfold maxLen; omega)) (by simp)).mono ?_
          rintro e w9 ⟨v9, rfl, ho9, b9⟩
          obtain ⟨ao9, cap9, rfl, _⟩ := ho9.bs.shape
          go_wp2
          go_ret3
          exact ⟨_, rfl, ho9, b9⟩
      · have hsub := h.sub t (t + x) (by omega) (by omega)
        rw [show t + x - t = x by omega] at hsub
        have hob := h
        have hYl : ((l.take (t + x)).drop t).length ≤ 140737488355328 := by simp; omega
        generalize (l.take (t + x)).drop t = Y at *
        have hcp : ¬ cap = t := by omega
        go_enter Tryd.func25, Tryd.ntmps25
        go_wp2_with fail
        refine (outside_no _ l _ _ h (by omega) (by omega)).mono ?_
        rintro e w1 ⟨rfl, rfl⟩
        go_wp2_with fail
        refine HRU.out.mono ?_
        rintro e w1 ⟨rfl, rfl⟩
        clear HRU h hob
        go_wp2_with fail
        refine (own_any _ Y _ hsub hYl).mono ?_
        rintro e w9 ⟨v9, rfl, ho9, b9⟩
        obtain ⟨ao9, cap9, rfl, _⟩ := ho9.bs.shape
        go_wp2
        go_ret3
        exact ⟨_, rfl, ho9, b9⟩
end Go.Proofs.YtppgijgmhjfdfaaDoor
