/-
  The reference's table of letters: within, Letter.
-/
import Derived.Test.YtbabckchfabbkaaDoorLet
import Derived.Deep.QuietTactic
import Derived.BigQuiet
import Derived.WalkSmall
namespace Go.Proofs.YtbabckchfabbkaaDoor
open Go Go.RowKit
open Tx

theorem within_any (r a b : Int) (w : World) :
    Calls Tryd.prog 56 #[.int .i64 r, .int .i64 a, .int .i64 b] w fun e w' => e = .returned (.bool (decide (a ≤ r) && decide (r ≤ b))) ∧ ∃ n, w' = w.drewN n := by
  by_cases h1 : a ≤ r
  · have H1 : Hid ((decide (a ≤ r) && decide (r ≤ b)) = decide (r ≤ b)) := by show _ = _; rw [decide_eq_true h1, Bool.true_and]
    rw [H1.out]
    go_enter Tryd.func56, Tryd.ntmps56
    go_wp2
    go_ret
    exact ⟨rfl, 0, rfl⟩
  · have H1 : Hid ((decide (a ≤ r) && decide (r ≤ b)) = false) := by show _ = _; rw [decide_eq_false h1, Bool.false_and]
    rw [H1.out]
    go_enter Tryd.func56, Tryd.ntmps56
    go_wp2
    go_ret
    exact ⟨rfl, 0, rfl⟩

set_option maxRecDepth 100000 in
theorem rletter_any (r : Int) (w : World) (hT : TabP 2 .i64 lets w) :
    Calls Tryd.prog 48 #[.int .i64 r] w fun e w' => e = .returned (.bool (among lets r)) ∧ ∃ n, w' = w.drewN n := by
  have HC : Hid (∀ (k : Nat) (hk : k < lets.length), w.cell? ⟨2, 2 * k, none⟩ = some (.int .i64 lets[k].1) ∧ w.cell? ⟨2, 2 * k + 1, none⟩ = some (.int .i64 lets[k].2)) := by
    intro k hk
    have hg := flat_get lets k hk
    obtain ⟨a1, e1⟩ := List.getElem?_eq_some_iff.1 hg.1
    obtain ⟨a2, e2⟩ := List.getElem?_eq_some_iff.1 hg.2
    have h1 := hT (2 * k) a1
    have h2 := hT (2 * k + 1) a2
    rw [e1] at h1
    rw [e2] at h2
    exact ⟨h1, h2⟩
  have HL : Hid (lets.length = 22) := rfl
  clear hT
  go_enter Tryd.func48, Tryd.ntmps48
  go_wp2
  have H0 : Hid (among (lets.take 0) r = false) := rfl
  go_loopw [3] (fun i wr => ∃ k : Nat, k ≤ 22 ∧ i = .int .i64 (k : Int) ∧ among (lets.take k) r = false ∧ ∃ n, wr = w.drewN n) (fun i _ => 22 - (intOf i).toNat)
  case atStart => exact ⟨0, by omega, rfl, H0.out, 0, rfl⟩
  case round =>
    obtain ⟨k, hk, rfl, ha, n, hw⟩ := hrel
    have HW : Hid (wr = w.drewN n) := hw
    clear hw
    have HA : Hid (among (lets.take k) r = false) := ha
    clear ha
    by_cases hlt : k < 22
    · have hkl : k < lets.length := by rw [HL.out]; exact hlt
      have hc := HC.out k hkl
      have HS : Hid (among (lets.take (k + 1)) r = (among (lets.take k) r || (decide (lets[k].1 ≤ r) && decide (r ≤ lets[k].2)))) := among_take lets r k hkl
      have HY : Hid (lets[k].1 ≤ r → r ≤ lets[k].2 → among lets r = true) := among_yes lets r k hkl
      generalize lets[k].1 = lo at *
      generalize lets[k].2 = hi at *
      obtain ⟨c1, c2⟩ := hc
      have c3 : wr.cell? ⟨2, k * 2, none⟩ = some (.int .i64 lo) := by rw [Nat.mul_comm, HW.out]; exact c1
      have c4 : wr.cell? ⟨2, k * 2 + 1, none⟩ = some (.int .i64 hi) := by rw [Nat.mul_comm, HW.out]; exact c2
      clear HC hkl c1 c2
      go_wp2
      go_quiet (first | (go_at_call 56; refine Calls.quiet_of (within_any _ _ _ _)))
      by_cases hh : lo ≤ r ∧ r ≤ hi
      · have HT : Hid ((decide (lo ≤ r) && decide (r ≤ hi)) = true) := by show _ = _; simp [hh]
        have HY2 : Hid (among lets r = true) := HY.out hh.1 hh.2
        rw [HT.out]
        clear HY HS
        go_wp2
        go_ret
        rw [HY2.out, HW.out]
        exact ⟨rfl, _, World.drewN_drewN _ _ _⟩
      · have HT : Hid ((decide (lo ≤ r) && decide (r ≤ hi)) = false) := by show _ = _; simp; omega
        have HS2 : Hid (among (lets.take (k + 1)) r = false) := by show _ = _; rw [HS.out, HA.out, HT.out]; rfl
        rw [HT.out]
        clear HY HS
        go_wp2
        go_roundw
        case rel => exact ⟨k + 1, by omega, by go_num, HS2.out, _, by rw [HW.out]; exact World.drewN_drewN _ _ _⟩
        case measure => simp [intOf]; omega
    · obtain rfl : k = 22 := by omega
      have HF : Hid (among lets r = false) := HA.out
      go_wp2
      go_ret
      rw [HF.out]
      exact ⟨rfl, n, HW.out⟩
end Go.Proofs.YtbabckchfabbkaaDoor
