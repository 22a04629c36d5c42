import Derived.Deep.QuietTactic
import Derived.BigQuiet
import Derived.WalkSmall
import Derived.Test.YtneifdbcjicfgaaDoorQA
/-
  UTF-8: what stands within a rune is no ASCII byte: every ASCII byte is a place at which a range over the text stops.
-/
namespace Go.Proofs.YtneifdbcjicfgaaDoor
open Go Go.RowKit
namespace Tx

theorem rd_tail (f : Nat → Nat) (n k : Nat) (h1 : 1 ≤ k) (h2 : k < (rd f n).2) : 128 ≤ f k := by
  revert h2
  unfold rd
  split
  · intro h; simp at h; omega
  · split
    · rename_i h0 h1'
      simp only [Bool.and_eq_true, beq_iff_eq, decide_eq_true_eq] at h1'
      split
      · intro h
        simp at h
        obtain rfl : k = 1 := by omega
        omega
      · intro h; simp at h; omega
    · split
      · rename_i h0 _ h1'
        simp only [Bool.and_eq_true, beq_iff_eq, decide_eq_true_eq] at h1'
        split
        · intro h
          simp at h
          rcases (by omega : k = 1 ∨ k = 2) with rfl | rfl <;> omega
        · intro h; simp at h; omega
      · split
        · rename_i h0 _ _ h1'
          simp only [Bool.and_eq_true, beq_iff_eq, decide_eq_true_eq] at h1'
          split
          · intro h
            simp at h
            rcases (by omega : k = 1 ∨ k = 2 ∨ k = 3) with rfl | rfl | rfl <;> omega
          · intro h; simp at h; omega
        · intro h; simp at h; omega
theorem rd_ascii (f : Nat → Nat) (n : Nat) (h : f 0 < 128) : rd f n = (f 0, 1) := by
  unfold rd
  rw [if_pos (by omega)]
theorem rd_small (f : Nat → Nat) (n : Nat) (h : (rd f n).1 < 128) : f 0 < 128 := by
  revert h
  unfold rd
  have hE : ¬ Utf8.runeError < 128 := by decide
  split
  · intro h; omega
  · split
    · split
      · intro h; simp only at h; omega
      · intro h; exact absurd h hE
    · split
      · split
        · rename_i h5
          simp only [Bool.and_eq_true, decide_eq_true_eq] at h5
          intro h; simp only at h; omega
        · intro h; exact absurd h hE
      · split
        · split
          · rename_i h5
            simp only [Bool.and_eq_true, decide_eq_true_eq] at h5
            intro h; simp only at h; omega
          · intro h; exact absurd h hE
        · intro h; exact absurd h hE
theorem dec_tail (s : ByteArray) (p k : Nat) (h1 : 1 ≤ k) (h2 : k < (Utf8.decode s p).2) : 128 ≤ at' s (p + k) := by
  rw [decode_eq] at h2
  exact rd_tail _ _ k h1 h2
theorem dec_asc (s : ByteArray) (p : Nat) (h : at' s p < 128) : Utf8.decode s p = (at' s p, 1) := by
  rw [decode_eq]
  exact rd_ascii _ _ h
theorem dec_small (s : ByteArray) (p : Nat) (h : (Utf8.decode s p).1 < 128) : at' s p < 128 ∧ Utf8.decode s p = (at' s p, 1) := by
  rw [decode_eq] at h
  have h0 : at' s p < 128 := rd_small _ _ h
  exact ⟨h0, dec_asc s p h0⟩
theorem rd_le (f : Nat → Nat) (n : Nat) (hf : ∀ k, f k < 256) : (rd f n).1 ≤ 1114111 := by
  have hE : Utf8.runeError ≤ 1114111 := by decide
  have h0 := hf 0
  have h1 := hf 1
  have h2 := hf 2
  have h3 := hf 3
  unfold rd
  split
  · simp only; omega
  · split
    · split
      · simp only; omega
      · exact hE
    · split
      · split
        · simp only; omega
        · exact hE
      · split
        · split
          · rename_i h5
            simp only [Utf8.valid, Bool.and_eq_true, Bool.or_eq_true, decide_eq_true_eq] at h5
            simp only
            omega
          · exact hE
        · exact hE
theorem dec_le (s : ByteArray) (p : Nat) : (Utf8.decode s p).1 ≤ 1114111 := by
  rw [decode_eq]
  exact rd_le _ _ fun k => at_lt s _
end Tx
end Go.Proofs.YtneifdbcjicfgaaDoor

/-
  The reference's table of letters: within, Letter.
-/
namespace Go.Proofs.YtneifdbcjicfgaaDoor
open Go Go.RowKit
open Tx

theorem within_any (r a b : Int) (w : World) :
    Calls Tryd.prog 59 #[.int .i64 r, .int .i64 a, .int .i64 b] w fun e w' => e = .returned (.bool (decide (a ≤ r) && decide (r ≤ b))) ∧ ∃ n, w' = w.drewN n := by
  by_cases h1 : a ≤ r
  · have H1 : Hid ((decide (a ≤ r) && decide (r ≤ b)) = decide (r ≤ b)) := by show _ = _; rw [decide_eq_true h1, Bool.true_and]
    rw [H1.out]
    go_enter Tryd.func59, Tryd.ntmps59
    go_wp2
    go_ret
    exact ⟨rfl, 0, rfl⟩
  · have H1 : Hid ((decide (a ≤ r) && decide (r ≤ b)) = false) := by show _ = _; rw [decide_eq_false h1, Bool.false_and]
    rw [H1.out]
    go_enter Tryd.func59, Tryd.ntmps59
    go_wp2
    go_ret
    exact ⟨rfl, 0, rfl⟩

set_option maxRecDepth 100000 in
theorem rletter_any (r : Int) (w : World) (hT : TabP 1 .i64 lets w) :
    Calls Tryd.prog 42 #[.int .i64 r] w fun e w' => e = .returned (.bool (among lets r)) ∧ ∃ n, w' = w.drewN n := by
  have HC : Hid (∀ (k : Nat) (hk : k < lets.length), w.cell? ⟨1, 2 * k, none⟩ = some (.int .i64 lets[k].1) ∧ w.cell? ⟨1, 2 * k + 1, none⟩ = some (.int .i64 lets[k].2)) := by
    intro k hk
    have hg := flat_get lets k hk
    obtain ⟨a1, e1⟩ := List.getElem?_eq_some_iff.1 hg.1
    obtain ⟨a2, e2⟩ := List.getElem?_eq_some_iff.1 hg.2
    have h1 := hT (2 * k) a1
    have h2 := hT (2 * k + 1) a2
    rw [e1] at h1
    rw [e2] at h2
    exact ⟨h1, h2⟩
  have HL : Hid (lets.length = 22) := rfl
  clear hT
  go_enter Tryd.func42, Tryd.ntmps42
  go_wp2
  have H0 : Hid (among (lets.take 0) r = false) := rfl
  go_loopw [3] (fun i wr => ∃ k : Nat, k ≤ 22 ∧ i = .int .i64 (k : Int) ∧ among (lets.take k) r = false ∧ ∃ n, wr = w.drewN n) (fun i _ => 22 - (intOf i).toNat)
  case atStart => exact ⟨0, by omega, rfl, H0.out, 0, rfl⟩
  case round =>
    obtain ⟨k, hk, rfl, ha, n, hw⟩ := hrel
    have HW : Hid (wr = w.drewN n) := hw
    clear hw
    have HA : Hid (among (lets.take k) r = false) := ha
    clear ha
    by_cases hlt : k < 22
    · have hkl : k < lets.length := by rw [HL.out]; exact hlt
      have hc := HC.out k hkl
      have HS : Hid (among (lets.take (k + 1)) r = (among (lets.take k) r || (decide (lets[k].1 ≤ r) && decide (r ≤ lets[k].2)))) := among_take lets r k hkl
      have HY : Hid (lets[k].1 ≤ r → r ≤ lets[k].2 → among lets r = true) := among_yes lets r k hkl
      generalize lets[k].1 = lo at *
      generalize lets[k].2 = hi at *
      obtain ⟨c1, c2⟩ := hc
      have c3 : wr.cell? ⟨1, k * 2, none⟩ = some (.int .i64 lo) := by rw [Nat.mul_comm, HW.out]; exact c1
      have c4 : wr.cell? ⟨1, k * 2 + 1, none⟩ = some (.int .i64 hi) := by rw [Nat.mul_comm, HW.out]; exact c2
      clear HC hkl c1 c2
      go_wp2
      go_quiet (first | (go_at_call 59; refine Calls.quiet_of (within_any _ _ _ _)))
      by_cases hh : lo ≤ r ∧ r ≤ hi
      · have HT : Hid ((decide (lo ≤ r) && decide (r ≤ hi)) = true) := by show _ = _; simp [hh]
        have HY2 : Hid (among lets r = true) := HY.out hh.1 hh.2
        rw [HT.out]
        clear HY HS
        go_wp2
        go_ret
        rw [HY2.out, HW.out]
        exact ⟨rfl, _, World.drewN_drewN _ _ _⟩
      · have HT : Hid ((decide (lo ≤ r) && decide (r ≤ hi)) = false) := by show _ = _; simp; omega
        have HS2 : Hid (among (lets.take (k + 1)) r = false) := by show _ = _; rw [HS.out, HA.out, HT.out]; rfl
        rw [HT.out]
        clear HY HS
        go_wp2
        go_roundw
        case rel => exact ⟨k + 1, by omega, by go_num, HS2.out, _, by rw [HW.out]; exact World.drewN_drewN _ _ _⟩
        case measure => simp [intOf]; omega
    · obtain rfl : k = 22 := by omega
      have HF : Hid (among lets r = false) := HA.out
      go_wp2
      go_ret
      rw [HF.out]
      exact ⟨rfl, n, HW.out⟩
end Go.Proofs.YtneifdbcjicfgaaDoor

/-
  Package text: digit, nameRune, odd; the reference's nameRune.
-/
namespace Go.Proofs.YtneifdbcjicfgaaDoor
open Go Go.RowKit
open Tx

namespace Tx
def dig (r : Int) : Bool := decide (48 ≤ r) && decide (r ≤ 57)
def nmR (r : Int) : Bool := among lets r || (dig r || (decide (r = 45) || (decide (r = 95) || decide (r = 46))))
end Tx
theorem digit_any (r : Int) (w : World) :
    Calls Tryd.prog 46 #[.int .i32 r] w fun e w' => e = .returned (.bool (dig r)) ∧ w' = w := by
  by_cases h1 : 48 ≤ r
  · have H1 : Hid (dig r = decide (r ≤ 57)) := by show _ = _; unfold dig; rw [decide_eq_true h1, Bool.true_and]
    rw [H1.out]
    go_enter Tryd.func46, Tryd.ntmps46
    go_wp2
    go_ret
    exact ⟨rfl, rfl⟩
  · have H1 : Hid (dig r = false) := by show _ = _; unfold dig; rw [decide_eq_false h1, Bool.false_and]
    rw [H1.out]
    go_enter Tryd.func46, Tryd.ntmps46
    go_wp2
    go_ret
    exact ⟨rfl, rfl⟩

theorem nmR_cases (r : Int) : (among lets r = true ∧ nmR r = true) ∨ (among lets r = false ∧ dig r = true ∧ nmR r = true) ∨ (among lets r = false ∧ dig r = false ∧ ((r = 45 ∧ nmR r = true) ∨ (¬ r = 45 ∧ ((r = 95 ∧ nmR r = true) ∨ (¬ r = 95 ∧ ((r = 46 ∧ nmR r = true) ∨ (¬ r = 46 ∧ nmR r = false))))))) := by
  unfold nmR
  cases among lets r with
  | true => simp
  | false =>
    cases dig r with
    | true => simp
    | false =>
      by_cases h1 : r = 45
      · simp [h1]
      · by_cases h2 : r = 95
        · simp [h2]
        · by_cases h3 : r = 46
          · simp [h3]
          · simp [h1, h2, h3]

set_option maxRecDepth 100000 in
set_option maxHeartbeats 1000000 in
theorem namer_any (r : Int) (w : World) (hT : TabP 0 .i32 lets w) :
    Calls Tryd.prog 35 #[.int .i32 r] w fun e w' => e = .returned (.bool (nmR r)) ∧ Below w.heap.size w w' := by
  rcases nmR_cases r with ⟨a, n⟩ | ⟨a, d, n⟩ | ⟨a, d, h⟩
  · have HA : Hid (among lets r = true) := a
    rw [n]
    clear a n
    go_enter Tryd.func35, Tryd.ntmps35
    go_wp2_with fail
    refine (letter_any r _ hT).mono ?_
    rw [HA.out]
    rintro e w1 ⟨rfl, b1⟩
    go_wp2
    go_ret
    exact ⟨rfl, b1⟩
  · have HA : Hid (among lets r = false) := a
    have HD : Hid (dig r = true) := d
    rw [n]
    clear a n d
    go_enter Tryd.func35, Tryd.ntmps35
    go_wp2_with fail
    refine (letter_any r _ hT).mono ?_
    rw [HA.out]
    rintro e w1 ⟨rfl, b1⟩
    go_wp2_with fail
    refine (digit_any r _).mono ?_
    rw [HD.out]
    rintro e w2 ⟨rfl, rfl⟩
    go_wp2
    go_ret
    exact ⟨rfl, b1⟩
  · have HA : Hid (among lets r = false) := a
    have HD : Hid (dig r = false) := d
    clear a d
    rcases h with ⟨rfl, n⟩ | ⟨h1, ⟨rfl, n⟩ | ⟨h2, ⟨rfl, n⟩ | ⟨h3, n⟩⟩⟩
    all_goals
      rw [n]
      clear n
      try have e1 : (r == 45) = false := by simp [h1]
      try have e2 : (r == 95) = false := by simp [h2]
      try have e3 : (r == 46) = false := by simp [h3]
      go_enter Tryd.func35, Tryd.ntmps35
      go_wp2_with fail
      refine (letter_any _ _ hT).mono ?_
      rw [HA.out]
      rintro e w1 ⟨rfl, b1⟩
      go_wp2_with fail
      refine (digit_any _ _).mono ?_
      rw [HD.out]
      rintro e w2 ⟨rfl, rfl⟩
      go_wp2
      go_ret
      exact ⟨rfl, b1⟩

set_option maxRecDepth 100000 in
set_option maxHeartbeats 1000000 in
theorem rnamer_any (r : Int) (w : World) (hT : TabP 1 .i64 lets w) :
    Calls Tryd.prog 43 #[.int .i64 r] w fun e w' => e = .returned (.bool (nmR r)) ∧ ∃ n, w' = w.drewN n := by
  rcases nmR_cases r with ⟨a, n⟩ | ⟨a, d, n⟩ | ⟨a, d, h⟩
  · have HA : Hid (among lets r = true) := a
    rw [n]
    clear a n
    go_enter Tryd.func43, Tryd.ntmps43
    go_wp2_with fail
    refine (rletter_any r _ hT).mono ?_
    rw [HA.out]
    rintro e w1 ⟨rfl, b1⟩
    go_wp2
    go_ret
    exact ⟨rfl, b1⟩
  · have HA : Hid (among lets r = false) := a
    have HD : Hid ((decide (48 ≤ r) && decide (r ≤ 57)) = true) := d
    rw [n]
    clear a n d
    go_enter Tryd.func43, Tryd.ntmps43
    go_wp2_with fail
    refine (rletter_any r _ hT).mono ?_
    rw [HA.out]
    rintro e w1 ⟨rfl, n1, rfl⟩
    go_wp2_with fail
    refine (within_any r 48 57 _).mono ?_
    rw [HD.out]
    rintro e w2 ⟨rfl, n2, rfl⟩
    go_wp2
    go_ret
    exact ⟨rfl, _, rfl⟩
  · have HA : Hid (among lets r = false) := a
    have HD : Hid ((decide (48 ≤ r) && decide (r ≤ 57)) = false) := d
    clear a d
    rcases h with ⟨rfl, n⟩ | ⟨h1, ⟨rfl, n⟩ | ⟨h2, ⟨rfl, n⟩ | ⟨h3, n⟩⟩⟩
    all_goals
      rw [n]
      clear n
      try have e1 : (r == 45) = false := by simp [h1]
      try have e2 : (r == 95) = false := by simp [h2]
      try have e3 : (r == 46) = false := by simp [h3]
      go_enter Tryd.func43, Tryd.ntmps43
      go_wp2_with fail
      refine (rletter_any _ _ hT).mono ?_
      rw [HA.out]
      rintro e w1 ⟨rfl, n1, rfl⟩
      go_wp2_with fail
      refine (within_any _ 48 57 _).mono ?_
      rw [HD.out]
      rintro e w2 ⟨rfl, n2, rfl⟩
      go_wp2
      go_ret
      exact ⟨rfl, _, rfl⟩

theorem odd_any (s : ByteArray) (i : Nat) (w : World) (h : i < s.size) :
    Calls Tryd.prog 28 #[.string s, .int .i64 (i : Int), .int .i32 ((Utf8.decode s i).1 : Int)] w fun e w' => e = .returned (.int .i64 (if stray s i then 21 else 22)) ∧ w' = w := by
  have HS : Hid (∀ w', Calls Tryd.prog 37 #[.string s, .int .i64 (i : Int), .int .i32 ((Utf8.decode s i).1 : Int)] w' fun e w'' => e = .returned (.bool (stray s i)) ∧ w'' = w') := fun w' => stray_any s i w' h
  generalize (Utf8.decode s i).1 = r at *
  cases hb : stray s i with
  | true =>
    rw [hb] at HS
    clear hb
    go_enter Tryd.func28, Tryd.ntmps28
    go_wp2_with fail
    refine (HS.out _).mono ?_
    rintro e w1 ⟨rfl, rfl⟩
    go_wp2
    go_ret
    exact ⟨rfl, rfl⟩
  | false =>
    rw [hb] at HS
    clear hb
    go_enter Tryd.func28, Tryd.ntmps28
    go_wp2_with fail
    refine (HS.out _).mono ?_
    rintro e w1 ⟨rfl, rfl⟩
    go_wp2
    go_ret
    exact ⟨rfl, rfl⟩
end Go.Proofs.YtneifdbcjicfgaaDoor

/-
  Package text: the answer of Name.
-/
namespace Go.Proofs.YtneifdbcjicfgaaDoor
open Go Go.RowKit
open Tx

namespace Tx
/-- Name from the n-th rune on, at p -/
def nmE (s : ByteArray) (n p : Nat) : Int × Int :=
  if _h : p < s.size then
    (if 48 ≤ n then (23, (p : Int))
     else if stray s p then (21, (p : Int))
     else if (p = 0 ∧ among lets ((Utf8.decode s p).1 : Int) = false) ∨ nmR ((Utf8.decode s p).1 : Int) = false then (22, (p : Int))
     else nmE s (n + 1) (p + (Utf8.decode s p).2))
  else (0, 0)
termination_by s.size - p
decreasing_by
  have := decode_fits s p (by assumption)
  omega
theorem nmE_out (s : ByteArray) (n p : Nat) (h : ¬ p < s.size) : nmE s n p = (0, 0) := by rw [nmE, dif_neg h]
theorem nmE_long (s : ByteArray) (n p : Nat) (h : p < s.size) (hn : 48 ≤ n) : nmE s n p = (23, (p : Int)) := by rw [nmE, dif_pos h, if_pos hn]
theorem nmE_stray (s : ByteArray) (n p : Nat) (h : p < s.size) (hn : ¬ 48 ≤ n) (hs : stray s p = true) : nmE s n p = (21, (p : Int)) := by rw [nmE, dif_pos h, if_neg hn, if_pos hs]
theorem nmE_bad (s : ByteArray) (n p : Nat) (h : p < s.size) (hn : ¬ 48 ≤ n) (hs : stray s p = false) (hb : (p = 0 ∧ among lets ((Utf8.decode s p).1 : Int) = false) ∨ nmR ((Utf8.decode s p).1 : Int) = false) : nmE s n p = (22, (p : Int)) := by
  rw [nmE, dif_pos h, if_neg hn, if_neg (by simp [hs]), if_pos hb]
theorem nmE_step (s : ByteArray) (n p : Nat) (h : p < s.size) (hn : ¬ 48 ≤ n) (hs : stray s p = false) (hb : ¬ ((p = 0 ∧ among lets ((Utf8.decode s p).1 : Int) = false) ∨ nmR ((Utf8.decode s p).1 : Int) = false)) : nmE s n p = nmE s (n + 1) (p + (Utf8.decode s p).2) := by
  rw [nmE, dif_pos h, if_neg hn, if_neg (by simp [hs]), if_neg hb]
theorem stray_rune (s : ByteArray) (p : Nat) (h : stray s p = true) : (Utf8.decode s p).1 = 65533 := by
  rw [stray_eq] at h
  simp at h
  exact h.1
theorem nmR_no : nmR 65533 = false := by decide +kernel
/-- the answer of Name -/
def nmA (s : ByteArray) : Int × Int := if s.size = 0 then (20, 0) else nmE s 0 0
end Tx
end Go.Proofs.YtneifdbcjicfgaaDoor
