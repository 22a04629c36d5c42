/-
  Package manifest: Check.
-/
import Derived.Test.YtfccimacloagiaaDoorMp2
namespace Go.Proofs.YtfccimacloagiaaDoor
open Go Go.RowKit
open Wb

set_option maxRecDepth 100000 in
set_option maxHeartbeats 4000000 in
theorem check_any (m : Mf) (v : Value) (w : World) (h : SgsAt w v m.l) :
    Calls Tryd.prog 8 #[mfv m v] w fun e w' => e = .returned (.int .i64 (chkM m : Int)) ∧ Below w.heap.size w w' := by
  have HSA : Hid (∀ w', Below w.heap.size w w' → SgsAt w' v m.l) := fun w' hb => h.kept hb
  obtain ⟨ao, cap, rfl, hc1, hc2, _⟩ := h
  unfold maxLen at hc2
  obtain ⟨g, vv, x, t, l⟩ := m
  unfold mfv
  simp only at *
  have HI : Hid (∀ n w', Calls Tryd.prog 26 #[.int .i64 n] w' fun e w'' => e = .returned (.bool (decide (1 ≤ n ∧ n ≤ 1099511627776))) ∧ w'' = w') := isnum_any
  by_cases h1 : 1 ≤ g ∧ g ≤ 1099511627776
  · by_cases h2 : vv < 1 ∨ 3 < vv
    · have HC : Hid (chkM ⟨g, vv, x, t, l⟩ = 3) := by
        show _ = _
        unfold chkM
        rw [if_neg (fun h => h h1), if_pos h2]
      have d1 : decide (1 ≤ g ∧ g ≤ 1099511627776) = true := decide_eq_true h1
      clear HSA h1
      rcases h2 with h2 | h2
      · go_enter Tryd.func8, Tryd.ntmps8
        go_wp2_with (go_at_call 26; refine (HI.out _ _).mono ?_; rintro e w1 ⟨rfl, rfl⟩; rw [d1])
        go_ret
        exact ⟨by rw [HC.out]; rfl, up0 _ _⟩
      · go_enter Tryd.func8, Tryd.ntmps8
        go_wp2_with (go_at_call 26; refine (HI.out _ _).mono ?_; rintro e w1 ⟨rfl, rfl⟩; rw [d1])
        go_ret
        exact ⟨by rw [HC.out]; rfl, up0 _ _⟩
    · have h2a : ¬ vv < 1 := fun h => h2 (.inl h)
      have h2b : ¬ 3 < vv := fun h => h2 (.inr h)
      have d1 : decide (1 ≤ g ∧ g ≤ 1099511627776) = true := decide_eq_true h1
      by_cases h3 : 1 ≤ x ∧ x ≤ 1099511627776
      · have d3 : decide (1 ≤ x ∧ x ≤ 1099511627776) = true := decide_eq_true h3
        by_cases h4 : t < 0
        · have HC : Hid (chkM ⟨g, vv, x, t, l⟩ = 86) := by
            show _ = _
            unfold chkM
            rw [if_neg (fun h => h h1), if_neg h2, if_neg (fun h => h h3), if_pos h4]
          clear HSA h1 h2 h3
          go_enter Tryd.func8, Tryd.ntmps8
          go_wp2_with (go_at_call 26; refine (HI.out _ _).mono ?_; rintro e w1 ⟨rfl, rfl⟩; first | rw [d1] | rw [d3])
          go_ret
          exact ⟨by rw [HC.out]; rfl, up0 _ _⟩
        · by_cases h5 : l.length = 0 ∨ 128 < l.length
          · have HC : Hid (chkM ⟨g, vv, x, t, l⟩ = 82) := by
              show _ = _
              unfold chkM
              rw [if_neg (fun h => h h1), if_neg h2, if_neg (fun h => h h3), if_neg h4, if_pos h5]
            clear HSA h1 h2 h3
            rcases h5 with h5 | h5
            · rw [h5]
              go_enter Tryd.func8, Tryd.ntmps8
              go_wp2_with (go_at_call 26; refine (HI.out _ _).mono ?_; rintro e w1 ⟨rfl, rfl⟩; first | rw [d1] | rw [d3])
              go_ret
              exact ⟨by rw [HC.out]; rfl, up0 _ _⟩
            · have h5z : ((l.length : Int) == 0) = false := by rw [beq_eq_false_iff_ne]; omega
              go_enter Tryd.func8, Tryd.ntmps8
              go_wp2_with (go_at_call 26; refine (HI.out _ _).mono ?_; rintro e w1 ⟨rfl, rfl⟩; first | rw [d1] | rw [d3])
              go_ret
              exact ⟨by rw [HC.out]; rfl, up0 _ _⟩
          · have HA : Hid (∀ w', Below w.heap.size w w' → Calls Tryd.prog 27 #[.slice ao l.length cap, .int .i64 x] w' fun e w'' => e = .returned (.bool (sgsOk x 0 l)) ∧ Below w'.heap.size w' w'') := fun w' hb => areSegs_any _ l x w' (HSA.out w' hb) (by omega) (by omega)
            have h5a : ¬ l.length = 0 := fun h => h5 (.inl h)
            have h5b : ¬ 128 < l.length := fun h => h5 (.inr h)
            have h5z : ((l.length : Int) == 0) = false := by rw [beq_eq_false_iff_ne]; omega
            have HC : Hid (chkM ⟨g, vv, x, t, l⟩ = if sgsOk x 0 l = true then 0 else 83) := by
              show _ = _
              unfold chkM
              rw [if_neg (fun h => h h1), if_neg h2, if_neg (fun h => h h3), if_neg h4, if_neg h5]
            clear HSA h1 h2 h3 h5
            cases hs : sgsOk x 0 l with
            | true =>
              rw [hs] at HA HC
              clear hs
              go_enter Tryd.func8, Tryd.ntmps8
              go_wp2_with (first
                | (go_at_call 26; refine (HI.out _ _).mono ?_; rintro e w1 ⟨rfl, rfl⟩; first | rw [d1] | rw [d3])
                | (go_at_call 27; refine (HA.out _ (up0 _ _)).mono ?_; rintro e w1 ⟨rfl, b1⟩; have B1 := andThen (up0 w _) b1))
              go_ret
              exact ⟨by rw [HC.out]; rfl, B1⟩
            | false =>
              rw [hs] at HA HC
              clear hs
              go_enter Tryd.func8, Tryd.ntmps8
              go_wp2_with (first
                | (go_at_call 26; refine (HI.out _ _).mono ?_; rintro e w1 ⟨rfl, rfl⟩; first | rw [d1] | rw [d3])
                | (go_at_call 27; refine (HA.out _ (up0 _ _)).mono ?_; rintro e w1 ⟨rfl, b1⟩; have B1 := andThen (up0 w _) b1))
              go_ret
              exact ⟨by rw [HC.out]; rfl, B1⟩
      · have d3 : decide (1 ≤ x ∧ x ≤ 1099511627776) = false := decide_eq_false h3
        have HC : Hid (chkM ⟨g, vv, x, t, l⟩ = 81) := by
          show _ = _
          unfold chkM
          rw [if_neg (fun h => h h1), if_neg h2, if_pos h3]
        clear HSA h1 h2 h3
        go_enter Tryd.func8, Tryd.ntmps8
        go_wp2_with (go_at_call 26; refine (HI.out _ _).mono ?_; rintro e w1 ⟨rfl, rfl⟩; first | rw [d1] | rw [d3])
        go_ret
        exact ⟨by rw [HC.out]; rfl, up0 _ _⟩
  · have HC : Hid (chkM ⟨g, vv, x, t, l⟩ = 80) := by
      show _ = _
      unfold chkM
      rw [if_pos h1]
    have d1 : decide (1 ≤ g ∧ g ≤ 1099511627776) = false := decide_eq_false h1
    clear HSA h1
    go_enter Tryd.func8, Tryd.ntmps8
    go_wp2_with (go_at_call 26; refine (HI.out _ _).mono ?_; rintro e w1 ⟨rfl, rfl⟩; rw [d1])
    go_ret
    exact ⟨by rw [HC.out]; rfl, up0 _ _⟩
end Go.Proofs.YtfccimacloagiaaDoor
