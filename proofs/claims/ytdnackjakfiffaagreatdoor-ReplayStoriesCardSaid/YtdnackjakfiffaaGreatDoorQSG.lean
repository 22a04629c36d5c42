import Derived.Test.YtdnackjakfiffaaGreatDoorQS4
import Derived.Test.YtdnackjakfiffaaGreatDoorQF1
/-
  Package saga: Allowed.
-/
namespace Go.Proofs.YtdnackjakfiffaaGreatDoor
open Go Go.RowKit
open Wb

/-- the kinds below j that may come -/
def upK (x : SN) (j : Nat) : List Int := (([2, 3, 4, 5, 6, 7] : List Int).take (j - 2)).filter x.may
theorem upK_next (x : SN) (j : Nat) (h2 : 2 ≤ j) (h7 : j ≤ 7) : upK x (j + 1) = if x.may j then upK x j ++ [(j : Int)] else upK x j := by
  have e : ([2, 3, 4, 5, 6, 7] : List Int).take (j + 1 - 2) = ([2, 3, 4, 5, 6, 7] : List Int).take (j - 2) ++ [(j : Int)] := by
    obtain rfl | rfl | rfl | rfl | rfl | rfl : j = 2 ∨ j = 3 ∨ j = 4 ∨ j = 5 ∨ j = 6 ∨ j = 7 := by omega
    all_goals rfl
  unfold upK
  rw [e, List.filter_append]
  by_cases h : x.may j = true <;> simp [h]
theorem roI_weak {B B2 : Nat} {w : World} {v : Value} {l : List Int} (h : Fld.RoI B2 w v l) (hB : B ≤ B2) : Fld.RoI B w v l := by
  refine ⟨h.1, ?_⟩
  rcases h.2 with h1 | ⟨g, cap, cur, e, hb, rest⟩
  · exact .inl h1
  · exact .inr ⟨g, cap, cur, e, Nat.le_trans hB hb, rest⟩
theorem roI_block {B : Nat} {w : World} {v : Value} {l : List Int} (h : Fld.RoI B w v l) (g : Nat) (e : v.ownBlock = some g) : B ≤ g := by
  rcases h.2 with ⟨rfl, _⟩ | ⟨g', cap, cur, rfl, h1, _⟩
  · simp [Value.ownBlock] at e
  · simp [Value.ownBlock] at e
    omega
theorem upK_len (x : SN) (j : Nat) : (upK x j).length ≤ 6 := by
  unfold upK
  refine Nat.le_trans (List.length_filter_le _ _) ?_
  simp
  omega
theorem kinds_bool (w : World) (h : KindsT w) (j : Nat) (hj : j < 8) : w.cell? ⟨3, j * 2 + 1, none⟩ = some (.bool (lands j)) := by
  have e := (h j hj).2
  rwa [Nat.mul_comm] at e
end Go.Proofs.YtdnackjakfiffaaGreatDoor
