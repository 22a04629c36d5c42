import Derived.Test.YtdnackjakfiffaaGreatDoorQR3
import Derived.Test.YtdnackjakfiffaaGreatDoorQF1
import Derived.Test.YtdnackjakfiffaaGreatDoorQT2
/-
  The reference's record: within, label, stands, zero, bounds.
-/
namespace Go.Proofs.YtdnackjakfiffaaGreatDoor
open Go Go.RowKit
open Wb

end Go.Proofs.YtdnackjakfiffaaGreatDoor

/-
  The reference's record: bounds.
-/
namespace Go.Proofs.YtdnackjakfiffaaGreatDoor
open Go Go.RowKit
open Wb

theorem old_tt {x : Nums} (h1 : x.v = 1) (h2 : x.k = 1) : x.old = true := by unfold Nums.old; simp [h1, h2]
theorem old_v {x : Nums} (h1 : ¬ x.v = 1) : x.old = false := by unfold Nums.old; simp [h1]
theorem old_k {x : Nums} (h1 : ¬ x.k = 1) : x.old = false := by unfold Nums.old; simp [h1]

end Go.Proofs.YtdnackjakfiffaaGreatDoor

/-
  The reference's record: Check.
-/
namespace Go.Proofs.YtdnackjakfiffaaGreatDoor
open Go Go.RowKit
open Wb

theorem nz_mem (l : List Int) (t : Int) (h : t ≠ 0) : (Fld.nz l).contains t = l.contains t := by
  have : ((Fld.nz l).contains t = true) ↔ (l.contains t = true) := by
    rw [List.contains_iff_mem, List.contains_iff_mem]
    unfold Fld.nz
    rw [List.mem_filter]
    constructor
    · exact fun h1 => h1.1
    · exact fun h1 => ⟨h1, by simpa using h⟩
  cases h1 : (Fld.nz l).contains t <;> cases h2 : l.contains t <;> simp_all
theorem fl_row (x : Nums) (t : Nat) (hv : 1 ≤ x.v ∧ x.v ≤ 3) (hk : 1 ≤ x.k ∧ x.k ≤ 7) (h1 : 1 ≤ t) : (Fld.fl x.v x.k).contains (t : Int) = x.row.contains (t : Int) := by
  have e : Fld.fl x.v x.k = Fld.nz (Fld.tagR ((x.k.toNat - 1) * 3 + (x.v.toNat - 1))) := by unfold Fld.fl; rw [if_pos ⟨hv.1, hv.2, hk.1, hk.2⟩]
  rw [e, nz_mem _ _ (by omega)]
  rfl
end Go.Proofs.YtdnackjakfiffaaGreatDoor
