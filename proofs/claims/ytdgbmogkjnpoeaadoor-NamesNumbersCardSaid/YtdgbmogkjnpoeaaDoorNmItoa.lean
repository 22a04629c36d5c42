/-
  strconv.Itoa at two numbers.
-/
import Derived.Test.YtdgbmogkjnpoeaaDoorChecked
import Derived.WalkKit
import Derived.Below
import Derived.LoopN
import Derived.Handy
import Derived.Laws.BytesString
import Derived.Laws.IdiomStrings
import Derived.Laws.Rows
namespace Go.Proofs.YtdgbmogkjnpoeaaDoor
open Go Go.RowKit

set_option maxRecDepth 1000000 in
set_option maxHeartbeats 4000000 in
theorem small_64 (w : World) : Calls Tryd.prog 46 #[.int .i64 64] w fun e w' => e = .returned (.string ⟨#[54, 52]⟩) ∧ w' = w := by
  go_enter Tryd.func46, Tryd.ntmps46
  go_wp2
  go_ret
  exact ⟨rfl, rfl⟩
set_option maxRecDepth 1000000 in
set_option maxHeartbeats 4000000 in
theorem len64_5 (w : World) : Calls Tryd.prog 51 #[.int .u64 5] w fun e w' => e = .returned (.int .i64 3) ∧ w' = w := by
  go_enter Tryd.func51, Tryd.ntmps51
  go_wp2
  go_ret
  exact ⟨congrArg (fun x => Ending.returned (.int .i64 x)) (by decide +kernel), rfl⟩
theorem logp_3 (w : World) : Calls Tryd.prog 50 #[.int .i64 3] w fun e w' => e = .returned (.int .i64 0) ∧ w' = w := by
  go_enter Tryd.func50, Tryd.ntmps50
  go_wp2
  go_ret
  exact ⟨rfl, rfl⟩
theorem b2i_t (w : World) : Calls Tryd.prog 52 #[.bool true] w fun e w' => e = .returned (.int .i64 1) ∧ w' = w := by
  go_enter Tryd.func52, Tryd.ntmps52
  go_wp2
  go_ret
  exact ⟨rfl, rfl⟩
set_option maxRecDepth 1000000 in
set_option maxHeartbeats 4000000 in
theorem ndig_5 (w : World) (h : w.cell? ⟨1, 0, none⟩ = some (.int .u64 1)) : Calls Tryd.prog 47 #[.int .u64 5] w fun e w' => e = .returned (.int .i64 1) ∧ w' = w := by
  go_enter Tryd.func47, Tryd.ntmps47
  go_wp2_with fail
  refine (len64_5 _).mono ?_
  rintro e w1 ⟨rfl, rfl⟩
  go_wp2_with fail
  refine (logp_3 _).mono ?_
  rintro e w1 ⟨rfl, rfl⟩
  go_wp2_with fail
  refine (b2i_t _).mono ?_
  rintro e w1 ⟨rfl, rfl⟩
  go_wp2
  go_ret
  exact ⟨rfl, rfl⟩
set_option maxRecDepth 1000000 in
set_option maxHeartbeats 4000000 in
theorem fb10_5 (w : World) (g cap : Nat) (c : Value) (h : w.cell? ⟨g, 1, none⟩ = some c) (hf : w.frozen? ⟨g, 1, none⟩ = false) : Calls Tryd.prog 48 #[.slice (some ⟨g, 1, none⟩) 1 cap, .int .u64 5] w fun e w' => e = .returned (.tuple #[]) ∧ w' = w.setCell ⟨g, 1, none⟩ (.int .u8 53) := by
  go_enter Tryd.func48, Tryd.ntmps48
  go_wp2
  go_rounds 1
  go_end0
  exact ⟨rfl, rfl⟩
set_option maxRecDepth 1000000 in
set_option maxHeartbeats 4000000 in
theorem fmt_m5 (w : World) (h : w.cell? ⟨1, 0, none⟩ = some (.int .u64 1)) : Calls Tryd.prog 45 #[.int .i64 (-5), .int .i64 10] w fun e w' => e = .returned (.string ⟨#[45, 53]⟩) ∧ Below w.heap.size w w' := by
  have HP : Hid (∀ w', Below w.heap.size w w' → w'.cell? ⟨1, 0, none⟩ = some (.int .u64 1)) := fun w' hb => (hb.cell (p := ⟨1, 0, none⟩) (World.block_lt_of_cell? _ _ h)).trans h
  clear h
  have hw1 : IntKind.u64.wrap (-IntKind.u64.wrap (-5)) = 5 := by decide
  have hw2 : IntKind.u64.wrap (-5) = 18446744073709551611 := by decide
  have hw3 : IntKind.u64.wrap (-18446744073709551611) = 5 := by decide
  go_enter Tryd.func45, Tryd.ntmps45
  go_wp2_with fail
  obtain ⟨wA, hA⟩ : ∃ wA, wA = (w.alloc (.cells #[.int .u8 0, .int .u8 0, .int .u8 0, .int .u8 0, .int .u8 0, .int .u8 0, .int .u8 0, .int .u8 0, .int .u8 0, .int .u8 0, .int .u8 0, .int .u8 0, .int .u8 0, .int .u8 0, .int .u8 0, .int .u8 0, .int .u8 0, .int .u8 0, .int .u8 0, .int .u8 0, .int .u8 0, .int .u8 0, .int .u8 0, .int .u8 0] 74)) := ⟨_, rfl⟩
  have hB : Below w.heap.size w wA := by rw [hA]; exact (Below.refl _ _).alloc (Nat.le_refl _) _
  have hg : wA.heap[w.heap.size]? = some (.cells #[.int .u8 0, .int .u8 0, .int .u8 0, .int .u8 0, .int .u8 0, .int .u8 0, .int .u8 0, .int .u8 0, .int .u8 0, .int .u8 0, .int .u8 0, .int .u8 0, .int .u8 0, .int .u8 0, .int .u8 0, .int .u8 0, .int .u8 0, .int .u8 0, .int .u8 0, .int .u8 0, .int .u8 0, .int .u8 0, .int .u8 0, .int .u8 0] 74) := by
    rw [hA]
    show (w.heap.push _)[w.heap.size]? = _
    simp
  have c0 : wA.cell? ⟨w.heap.size, 0, none⟩ = some (.int .u8 0) := by unfold World.cell?; rw [hg]; rfl
  have c1 : wA.cell? ⟨w.heap.size, 1, none⟩ = some (.int .u8 0) := by unfold World.cell?; rw [hg]; rfl
  have f0 : wA.frozen? ⟨w.heap.size, 0, none⟩ = false := by unfold World.frozen?; rw [hg]; rfl
  have f1 : wA.frozen? ⟨w.heap.size, 1, none⟩ = false := by unfold World.frozen?; rw [hg]; rfl
  have g2 := Go.heap_setCell_same _ w.heap.size 0 _ _ (.int .u8 45) (Go.heap_setCell_same wA w.heap.size 1 _ _ (.int .u8 53) hg)
  have hcv : (convert 25 9 (.slice (some ⟨w.heap.size, 0, none⟩) 2 24)).run Tryd.prog ((wA.setCell ⟨w.heap.size, 1, none⟩ (.int .u8 53)).setCell ⟨w.heap.size, 0, none⟩ (.int .u8 45)) = .ok (.string ⟨#[45, 53]⟩) ((wA.setCell ⟨w.heap.size, 1, none⟩ (.int .u8 53)).setCell ⟨w.heap.size, 0, none⟩ (.int .u8 45)) :=
    run_convert_bytes_back _ 25 9 5 ⟨w.heap.size, 0, none⟩ 24 [45, 53] Tryd.underlying25 Tryd.underlying5 Tryd.underlying9 (fun j hj => by
      match j, hj with
      | 0, _ => unfold World.cell?; rw [Addr.add_lit, g2]; rfl
      | 1, _ => unfold World.cell?; rw [Addr.add_lit, g2]; rfl)
  have hB2 : Below w.heap.size w ((wA.setCell ⟨w.heap.size, 1, none⟩ (.int .u8 53)).setCell ⟨w.heap.size, 0, none⟩ (.int .u8 45)) := (hB.setCell (Nat.le_refl _) _).setCell (Nat.le_refl _) _
  rw [← hA]
  clear hg hA g2
  refine (ndig_5 _ (HP.out _ hB)).mono ?_
  rintro e w1 ⟨rfl, rfl⟩
  go_wp2_with fail
  refine (fb10_5 _ _ _ _ c1 f1).mono ?_
  rintro e w1 ⟨rfl, rfl⟩
  go_wp2
  go_ret
  exact ⟨rfl, hB2⟩
set_option maxRecDepth 1000000 in
theorem fmt_64 (w : World) : Calls Tryd.prog 45 #[.int .i64 64, .int .i64 10] w fun e w' => e = .returned (.string ⟨#[54, 52]⟩) ∧ w' = w := by
  go_enter Tryd.func45, Tryd.ntmps45
  go_wp2_with fail
  refine (small_64 _).mono ?_
  rintro e w1 ⟨rfl, rfl⟩
  go_wp2
  go_ret
  exact ⟨rfl, rfl⟩
theorem error_64 (w : World) : Calls Tryd.prog 21 #[.int .i64 64] w fun e w' => e = .returned (.string ⟨#[101, 114, 114, 111, 114, 32, 54, 52]⟩) ∧ w' = w := by
  have h2 : ∀ w, Calls Tryd.prog 42 #[.int .i64 64] w fun e w' => e = .returned (.string ⟨#[54, 52]⟩) ∧ w' = w := fun w => by
    go_enter Tryd.func42, Tryd.ntmps42
    go_wp2_with fail
    refine (fmt_64 _).mono ?_
    rintro e w1 ⟨rfl, rfl⟩
    go_wp2
    go_ret
    exact ⟨rfl, rfl⟩
  have h3 : ∀ w, Calls Tryd.prog 35 #[.int .i64 64] w fun e w' => e = .returned (.string ⟨#[54, 52]⟩) ∧ w' = w := fun w => by
    go_enter Tryd.func35, Tryd.ntmps35
    go_wp2_with fail
    refine (h2 _).mono ?_
    rintro e w1 ⟨rfl, rfl⟩
    go_wp2
    go_ret
    exact ⟨rfl, rfl⟩
  have H3 : Hid (∀ w, Calls Tryd.prog 35 #[.int .i64 64] w fun e w' => e = .returned (.string ⟨#[54, 52]⟩) ∧ w' = w) := h3
  clear h2 h3
  go_enter Tryd.func21, Tryd.ntmps21
  go_wp2_with fail
  refine (H3.out _).mono ?_
  rintro e w1 ⟨rfl, rfl⟩
  go_wp2
  go_ret
  exact ⟨rfl, rfl⟩
theorem error_m5 (w : World) (h : w.cell? ⟨1, 0, none⟩ = some (.int .u64 1)) : Calls Tryd.prog 21 #[.int .i64 (-5)] w fun e w' => e = .returned (.string ⟨#[101, 114, 114, 111, 114, 32, 45, 53]⟩) ∧ Below w.heap.size w w' := by
  have h2 : ∀ w, w.cell? ⟨1, 0, none⟩ = some (.int .u64 1) → Calls Tryd.prog 42 #[.int .i64 (-5)] w fun e w' => e = .returned (.string ⟨#[45, 53]⟩) ∧ Below w.heap.size w w' := fun w h => by
    go_enter Tryd.func42, Tryd.ntmps42
    go_wp2_with fail
    refine (fmt_m5 _ h).mono ?_
    rintro e w1 ⟨rfl, b1⟩
    go_wp2
    go_ret
    exact ⟨rfl, b1⟩
  have h3 : ∀ w, w.cell? ⟨1, 0, none⟩ = some (.int .u64 1) → Calls Tryd.prog 35 #[.int .i64 (-5)] w fun e w' => e = .returned (.string ⟨#[45, 53]⟩) ∧ Below w.heap.size w w' := fun w h => by
    go_enter Tryd.func35, Tryd.ntmps35
    go_wp2_with fail
    refine (h2 _ h).mono ?_
    rintro e w1 ⟨rfl, b1⟩
    go_wp2
    go_ret
    exact ⟨rfl, b1⟩
  have H3 : Hid (Calls Tryd.prog 35 #[.int .i64 (-5)] w fun e w' => e = .returned (.string ⟨#[45, 53]⟩) ∧ Below w.heap.size w w') := h3 w h
  clear h2 h3 h
  go_enter Tryd.func21, Tryd.ntmps21
  go_wp2_with fail
  refine H3.out.mono ?_
  rintro e w1 ⟨rfl, b1⟩
  go_wp2
  go_ret
  exact ⟨rfl, b1⟩
end Go.Proofs.YtdgbmogkjnpoeaaDoor
