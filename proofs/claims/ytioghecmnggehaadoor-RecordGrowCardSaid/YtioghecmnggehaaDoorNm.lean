/-
  Package text: digit, nameRune, odd; the reference's nameRune.
-/
import Derived.Test.YtioghecmnggehaaDoorRLet
namespace Go.Proofs.YtioghecmnggehaaDoor.Text
open Go Go.RowKit
open Tx

namespace Tx
def dig (r : Int) : Bool := decide (48 ≤ r) && decide (r ≤ 57)
def nmR (r : Int) : Bool := among lets r || (dig r || (decide (r = 45) || (decide (r = 95) || decide (r = 46))))
end Tx
theorem digit_any (r : Int) (w : World) :
    Calls Tryd.prog 52 #[.int .i32 r] w fun e w' => e = .returned (.bool (dig r)) ∧ w' = w := by
  by_cases h1 : 48 ≤ r
  · have H1 : Hid (dig r = decide (r ≤ 57)) := by show _ = _; unfold dig; rw [decide_eq_true h1, Bool.true_and]
    rw [H1.out]
    go_enter Tryd.func52, Tryd.ntmps52
    go_wp2
    go_ret
    exact ⟨rfl, rfl⟩
  · have H1 : Hid (dig r = false) := by show _ = _; unfold dig; rw [decide_eq_false h1, Bool.false_and]
    rw [H1.out]
    go_enter Tryd.func52, Tryd.ntmps52
    go_wp2
    go_ret
    exact ⟨rfl, rfl⟩

theorem nmR_cases (r : Int) : (among lets r = true ∧ nmR r = true) ∨ (among lets r = false ∧ dig r = true ∧ nmR r = true) ∨ (among lets r = false ∧ dig r = false ∧ ((r = 45 ∧ nmR r = true) ∨ (¬ r = 45 ∧ ((r = 95 ∧ nmR r = true) ∨ (¬ r = 95 ∧ ((r = 46 ∧ nmR r = true) ∨ (¬ r = 46 ∧ nmR r = false))))))) := by
  unfold nmR
  cases among lets r with
  | true => simp
  | false =>
    cases dig r with
    | true => simp
    | false =>
      by_cases h1 : r = 45
      · simp [h1]
      · by_cases h2 : r = 95
        · simp [h2]
        · by_cases h3 : r = 46
          · simp [h3]
          · simp [h1, h2, h3]

set_option maxRecDepth 100000 in
set_option maxHeartbeats 1000000 in
theorem namer_any (r : Int) (w : World) (hT : TabP 1 .i32 lets w) :
    Calls Tryd.prog 49 #[.int .i32 r] w fun e w' => e = .returned (.bool (nmR r)) ∧ Below w.heap.size w w' := by
  rcases nmR_cases r with ⟨a, n⟩ | ⟨a, d, n⟩ | ⟨a, d, h⟩
  · have HA : Hid (among lets r = true) := a
    rw [n]
    clear a n
    go_enter Tryd.func49, Tryd.ntmps49
    go_wp2_with fail
    refine (letter_any r _ hT).mono ?_
    rw [HA.out]
    rintro e w1 ⟨rfl, b1⟩
    go_wp2
    go_ret
    exact ⟨rfl, b1⟩
  · have HA : Hid (among lets r = false) := a
    have HD : Hid (dig r = true) := d
    rw [n]
    clear a n d
    go_enter Tryd.func49, Tryd.ntmps49
    go_wp2_with fail
    refine (letter_any r _ hT).mono ?_
    rw [HA.out]
    rintro e w1 ⟨rfl, b1⟩
    go_wp2_with fail
    refine (digit_any r _).mono ?_
    rw [HD.out]
    rintro e w2 ⟨rfl, rfl⟩
    go_wp2
    go_ret
    exact ⟨rfl, b1⟩
  · have HA : Hid (among lets r = false) := a
    have HD : Hid (dig r = false) := d
    clear a d
    rcases h with ⟨rfl, n⟩ | ⟨h1, ⟨rfl, n⟩ | ⟨h2, ⟨rfl, n⟩ | ⟨h3, n⟩⟩⟩
    all_goals
      rw [n]
      clear n
      try have e1 : (r == 45) = false := by simp [h1]
      try have e2 : (r == 95) = false := by simp [h2]
      try have e3 : (r == 46) = false := by simp [h3]
      go_enter Tryd.func49, Tryd.ntmps49
      go_wp2_with fail
      refine (letter_any _ _ hT).mono ?_
      rw [HA.out]
      rintro e w1 ⟨rfl, b1⟩
      go_wp2_with fail
      refine (digit_any _ _).mono ?_
      rw [HD.out]
      rintro e w2 ⟨rfl, rfl⟩
      go_wp2
      go_ret
      exact ⟨rfl, b1⟩

theorem odd_any (s : ByteArray) (i : Nat) (w : World) (h : i < s.size) :
    Calls Tryd.prog 51 #[.string s, .int .i64 (i : Int), .int .i32 ((Utf8.decode s i).1 : Int)] w fun e w' => e = .returned (.int .i64 (if stray s i then 21 else 22)) ∧ w' = w := by
  have HS : Hid (∀ w', Calls Tryd.prog 54 #[.string s, .int .i64 (i : Int), .int .i32 ((Utf8.decode s i).1 : Int)] w' fun e w'' => e = .returned (.bool (stray s i)) ∧ w'' = w') := fun w' => stray_any s i w' h
  generalize (Utf8.decode s i).1 = r at *
  cases hb : stray s i with
  | true =>
    rw [hb] at HS
    clear hb
    go_enter Tryd.func51, Tryd.ntmps51
    go_wp2_with fail
    refine (HS.out _).mono ?_
    rintro e w1 ⟨rfl, rfl⟩
    go_wp2
    go_ret
    exact ⟨rfl, rfl⟩
  | false =>
    rw [hb] at HS
    clear hb
    go_enter Tryd.func51, Tryd.ntmps51
    go_wp2_with fail
    refine (HS.out _).mono ?_
    rintro e w1 ⟨rfl, rfl⟩
    go_wp2
    go_ret
    exact ⟨rfl, rfl⟩
end Go.Proofs.YtioghecmnggehaaDoor.Text
