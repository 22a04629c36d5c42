/-
  TextLetters: the law's walk.
-/
import Derived.Test.YtklingmjlfjibaaDoorRLet
namespace Go.Proofs.YtklingmjlfjibaaDoor
open Go Go.RowKit
open Tx

theorem among_a : among lets 97 = true := by decide +kernel
theorem among_0 : among lets 48 = false := by decide +kernel

set_option maxRecDepth 100000 in
set_option maxHeartbeats 1000000 in
theorem letters_any (r : Int) (w : World) (hR : TabP 1 .i64 lets w) (hT : TabP 0 .i32 lets w) (hr : (Lit.int .i32 r).wf = true) :
    Calls Tryd.prog 3 #[.int .i32 r] w fun e w' => e = .returned (.bool true) ∧ Below w.heap.size w w' := by
  have HT : Hid (∀ w', Below w.heap.size w w' → TabP 0 .i32 lets w') := fun w' hb => hT.kept hb
  have HR : Hid (∀ w', Below w.heap.size w w' → TabP 1 .i64 lets w') := fun w' hb => hR.kept hb
  obtain ⟨h0, h1⟩ : -2147483648 ≤ r ∧ r ≤ 2147483647 := by
    have h9 : IntKind.i32.min ≤ r ∧ r ≤ IntKind.i32.max := by simpa [Lit.wf] using hr
    exact h9
  clear hr
  have A1 : Hid (among lets 97 = true) := among_a
  have A2 : Hid (among lets 48 = false) := among_0
  clear hT hR
  go_enter Tryd.func3, Tryd.ntmps3
  go_wp2_with fail
  refine (letter_any 97 _ (HT.out _ (Below.refl _ _))).mono ?_
  rw [A1.out]
  rintro e w1 ⟨rfl, b1⟩
  go_wp2_with fail
  refine (letter_any 48 _ (HT.out _ b1)).mono ?_
  rw [A2.out]
  rintro e w2 ⟨rfl, b2⟩
  have B2 := andThen b1 b2
  clear b1 b2
  by_cases c1 : -2147483648 < r
  · by_cases c2 : r < 2147483647
    · go_wp2_with fail
      refine (letter_any _ _ (HT.out _ B2)).mono ?_
      rintro e w3 ⟨rfl, b3⟩
      have B3 := andThen B2 b3
      clear b3
      go_wp2_with fail
      refine (rletter_any _ _ (HR.out _ B3)).mono ?_
      rintro e w4 ⟨rfl, n4, hn4⟩
      have B4 := below_drewN B3 n4
      rw [← hn4] at B4
      clear hn4
      generalize among lets r = x1 at *
      go_wp2_with fail
      refine (letter_any _ _ (HT.out _ B4)).mono ?_
      rintro e w5 ⟨rfl, b5⟩
      have B5 := andThen B4 b5
      clear b5
      go_wp2_with fail
      refine (rletter_any _ _ (HR.out _ B5)).mono ?_
      rintro e w6 ⟨rfl, n6, hn6⟩
      have B6 := below_drewN B5 n6
      rw [← hn6] at B6
      clear hn6
      generalize among lets (r - 1) = x2 at *
      go_wp2_with fail
      refine (letter_any _ _ (HT.out _ B6)).mono ?_
      rintro e w7 ⟨rfl, b7⟩
      have B7 := andThen B6 b7
      clear b7
      go_wp2_with fail
      refine (rletter_any _ _ (HR.out _ B7)).mono ?_
      rintro e w8 ⟨rfl, n8, hn8⟩
      have B8 := below_drewN B7 n8
      rw [← hn8] at B8
      clear hn8
      generalize among lets (r + 1) = x3 at *
      go_wp2
      go_ret
      exact ⟨rfl, B8⟩
    · go_wp2_with fail
      refine (letter_any _ _ (HT.out _ B2)).mono ?_
      rintro e w3 ⟨rfl, b3⟩
      have B3 := andThen B2 b3
      clear b3
      go_wp2_with fail
      refine (rletter_any _ _ (HR.out _ B3)).mono ?_
      rintro e w4 ⟨rfl, n4, hn4⟩
      have B4 := below_drewN B3 n4
      rw [← hn4] at B4
      clear hn4
      generalize among lets r = x1 at *
      go_wp2_with fail
      refine (letter_any _ _ (HT.out _ B4)).mono ?_
      rintro e w5 ⟨rfl, b5⟩
      have B5 := andThen B4 b5
      clear b5
      go_wp2_with fail
      refine (rletter_any _ _ (HR.out _ B5)).mono ?_
      rintro e w6 ⟨rfl, n6, hn6⟩
      have B6 := below_drewN B5 n6
      rw [← hn6] at B6
      clear hn6
      generalize among lets (r - 1) = x2 at *
      go_wp2_with fail
      refine (letter_any _ _ (HT.out _ B6)).mono ?_
      rintro e w7 ⟨rfl, b7⟩
      have B7 := andThen B6 b7
      clear b7
      go_wp2_with fail
      refine (rletter_any _ _ (HR.out _ B7)).mono ?_
      rintro e w8 ⟨rfl, n8, hn8⟩
      have B8 := below_drewN B7 n8
      rw [← hn8] at B8
      clear hn8
      go_wp2
      go_ret
      exact ⟨rfl, B8⟩
  · have c2 : r < 2147483647 := by omega
    go_wp2_with fail
    refine (letter_any _ _ (HT.out _ B2)).mono ?_
    rintro e w3 ⟨rfl, b3⟩
    have B3 := andThen B2 b3
    clear b3
    go_wp2_with fail
    refine (rletter_any _ _ (HR.out _ B3)).mono ?_
    rintro e w4 ⟨rfl, n4, hn4⟩
    have B4 := below_drewN B3 n4
    rw [← hn4] at B4
    clear hn4
    generalize among lets r = x1 at *
    go_wp2_with fail
    refine (letter_any _ _ (HT.out _ B4)).mono ?_
    rintro e w5 ⟨rfl, b5⟩
    have B5 := andThen B4 b5
    clear b5
    go_wp2_with fail
    refine (rletter_any _ _ (HR.out _ B5)).mono ?_
    rintro e w6 ⟨rfl, n6, hn6⟩
    have B6 := below_drewN B5 n6
    rw [← hn6] at B6
    clear hn6
    go_wp2_with fail
    refine (letter_any _ _ (HT.out _ B6)).mono ?_
    rintro e w7 ⟨rfl, b7⟩
    have B7 := andThen B6 b7
    clear b7
    go_wp2_with fail
    refine (rletter_any _ _ (HR.out _ B7)).mono ?_
    rintro e w8 ⟨rfl, n8, hn8⟩
    have B8 := below_drewN B7 n8
    rw [← hn8] at B8
    clear hn8
    generalize among lets (r + 1) = x3 at *
    go_wp2
    go_ret
    exact ⟨rfl, B8⟩
end Go.Proofs.YtklingmjlfjibaaDoor
