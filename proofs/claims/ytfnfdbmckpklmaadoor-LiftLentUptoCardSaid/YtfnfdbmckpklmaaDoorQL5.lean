import Derived.Test.YtfnfdbmckpklmaaDoorQL4
import Derived.Test.YtfnfdbmckpklmaaDoorQL3
/-
  LiftBack: the law's walk.
-/
namespace Go.Proofs.YtfnfdbmckpklmaaDoor
open Go Go.RowKit
open Wb

theorem lnum_any (z : Int) (w : World) : Calls Tryd.prog 56 #[.int .i64 z] w fun e w' => e = .returned (.int .i64 z) ∧ w' = w := by
  go_enter Tryd.func56, Tryd.ntmps56
  go_wp2
  go_ret
  exact ⟨rfl, rfl⟩
def endR : Rec := ⟨⟨1, 7, 5, 0, 0, 0, 0, 0, 0, 0⟩, ⟨#[]⟩, []⟩
theorem end_up : upP 3 endR = (0, ⟨⟨3, 7, 5, 0, 0, 0, 0, 0, 0, 0⟩, ⟨#[]⟩, []⟩) := by kernel_rfl
theorem end_fit : endR.x.fit := by
  rw [fit_iff]
  simp only [endR]
  omega
set_option maxRecDepth 100000 in
set_option maxHeartbeats 1000000 in
theorem lstarted_any (w : World) (hT : LTabs w) : Calls Tryd.prog 31 #[] w fun e w' => e = .returned (.bool true) ∧ Below w.heap.size w w' := by
  have HU : Hid (∀ w', Below w.heap.size w w' → Calls Tryd.prog 55 #[.agg #[.int .i64 1, .int .i64 7, .int .i64 5, .int .i64 0, .int .i64 0, .int .i64 0, .int .i64 0, .int .i64 0, .int .i64 0, .int .i64 0, .string ⟨#[]⟩, .slice none 0 0], .int .i64 3] w' fun e w'' => ∃ ao, ∃ cap : Nat, e = .returned (.tuple #[.agg #[.int .i64 3, .int .i64 7, .int .i64 5, .int .i64 0, .int .i64 0, .int .i64 0, .int .i64 0, .int .i64 0, .int .i64 0, .int .i64 0, .string ⟨#[]⟩, .slice ao 0 cap], .int .i64 0]) ∧ Bs w'' (.slice ao 0 cap) [] ∧ Below w'.heap.size w' w'') := fun w' hb => by
    have h := up_any 3 endR (.slice none 0 0) w' (Bs.nil w') (hT.kept hb) (by decide) end_fit
    rw [end_up] at h
    exact h
  have HS : Hid (∀ w' ao (cap : Nat), Bs w' (.slice ao 0 cap) [] → Calls Tryd.prog 15 #[.agg #[.int .i64 3, .int .i64 7, .int .i64 5, .int .i64 0, .int .i64 0, .int .i64 0, .int .i64 0, .int .i64 0, .int .i64 0, .int .i64 0, .string ⟨#[]⟩, .slice ao 0 cap], .agg #[.int .i64 3, .int .i64 7, .int .i64 5, .int .i64 0, .int .i64 0, .int .i64 0, .int .i64 0, .int .i64 0, .int .i64 0, .int .i64 0, .string ⟨#[]⟩, .slice none 0 0]] w' fun e w'' => e = .returned (.bool true) ∧ Below w'.heap.size w' w'') := fun w' ao cap hb => (refsame_any ⟨3, 7, 5, 0, 0, 0, 0, 0, 0, 0⟩ ⟨3, 7, 5, 0, 0, 0, 0, 0, 0, 0⟩ ⟨#[]⟩ ⟨#[]⟩ _ _ [] [] w' hb (Bs.nil _)).mono fun e w'' ⟨he, hk⟩ => ⟨by rw [he, recEq_self], hk⟩
  clear hT
  go_enter Tryd.func31, Tryd.ntmps31
  go_wp2_with fail
  refine (HU.out _ (Below.refl _ _)).mono ?_
  rintro e w1 ⟨ao, cap, rfl, hbs, b1⟩
  have HW : Hid (∀ o, Bs (w1.alloc o) (.slice ao 0 cap) [] ∧ Below w.heap.size w (w1.alloc o)) := fun o => ⟨hbs.alloc o, up b1 o⟩
  clear hbs b1
  go_wp2_with fail
  refine (lnum_any 0 _).mono ?_
  rintro e w2 ⟨rfl, rfl⟩
  go_wp2_with fail
  refine (HS.out _ _ _ (HW.out _).1).mono ?_
  rintro e w3 ⟨rfl, b3⟩
  have B3 := andThen (HW.out _).2 b3
  clear b3
  go_wp2
  go_ret
  exact ⟨rfl, B3⟩
end Go.Proofs.YtfnfdbmckpklmaaDoor
