import Derived.Deep.RegionHeld
import Derived.Test.YtdnackjakfiffaaGreatDoorQR3
/-
  Package record: Same.
-/
namespace Go.Proofs.YtdnackjakfiffaaGreatDoor
open Go Go.RowKit
open Wb

set_option maxRecDepth 100000 in
theorem apart_gen (v0 v1 v2 v3 v4 v5 v6 v7 v8 v9 : Int) (nm : ByteArray) (ao : Option Addr) (n cap : Nat) (w : World) :
    Calls Tryz.prog 65 #[.agg #[.int .i64 v0, .int .i64 v1, .int .i64 v2, .int .i64 v3, .int .i64 v4, .int .i64 v5, .int .i64 v6, .int .i64 v7, .int .i64 v8, .int .i64 v9, .string nm, .slice ao n cap]] w fun e w' => e = .returned (.agg #[.int .i64 0, .int .i64 v1, .int .i64 v2, .int .i64 v3, .int .i64 v4, .int .i64 v5, .int .i64 v6, .int .i64 v7, .int .i64 v8, .int .i64 v9, .string nm, .slice ao n cap]) ∧ w' = (w.alloc (.cells #[.int .i64 v0, .int .i64 v1, .int .i64 v2, .int .i64 v3, .int .i64 v4, .int .i64 v5, .int .i64 v6, .int .i64 v7, .int .i64 v8, .int .i64 v9, .string nm, .slice ao n cap] 32)).alloc (.cells #[.int .i64 0, .int .i64 v1, .int .i64 v2, .int .i64 v3, .int .i64 v4, .int .i64 v5, .int .i64 v6, .int .i64 v7, .int .i64 v8, .int .i64 v9, .string nm, .slice ao n cap] 97) := by
  go_enter Tryz.func65, Tryz.ntmps65
  go_wp2
  go_returns
  exact ⟨rfl, rfl⟩
theorem infoI : ∃ i, Tryz.prog.info? 3 = some i ∧ i.size = 1 := by
  have h : (Tryz.prog.info? 3).map (·.size) = some 1 := by kernel_rfl
  cases hq : Tryz.prog.info? 3 with
  | none => rw [hq] at h; simp at h
  | some i => rw [hq] at h; exact ⟨i, rfl, by simpa using h⟩
set_option maxRecDepth 100000 in
set_option maxHeartbeats 400000 in
/-- two arrays of ten numbers -/
theorem eq10 (a1 a2 a3 a4 a5 a6 a7 a8 a9 b1 b2 b3 b4 b5 b6 b7 b8 b9 : Int) (w : World) :
    (Op.equalIn 10000 95 (.agg #[.int .i64 0, .int .i64 a1, .int .i64 a2, .int .i64 a3, .int .i64 a4, .int .i64 a5, .int .i64 a6, .int .i64 a7, .int .i64 a8, .int .i64 a9]) (.agg #[.int .i64 0, .int .i64 b1, .int .i64 b2, .int .i64 b3, .int .i64 b4, .int .i64 b5, .int .i64 b6, .int .i64 b7, .int .i64 b8, .int .i64 b9])).run Tryz.prog w = .ok (decide (a1 = b1 ∧ a2 = b2 ∧ a3 = b3 ∧ a4 = b4 ∧ a5 = b5 ∧ a6 = b6 ∧ a7 = b7 ∧ a8 = b8 ∧ a9 = b9)) w := by
  obtain ⟨i, hi, hs⟩ := infoI
  have hagg : ∀ w', (isAgg 3).run Tryz.prog w' = .ok false w' := fun w' => by
    unfold isAgg
    rw [Sem.run_bind, run_underlying Tryz.underlying3 w']
    rfl
  have hel : ∀ a b w', (Op.equalIn 9999 3 (.int .i64 a) (.int .i64 b)).run Tryz.prog w' = .ok (a == b) w' := fun a b w' => run_equalIn_int w' 9998 3 .i64 .i64 a b Tryz.underlying3
  unfold Op.equalIn
  simp [run_underlying Tryz.underlying95, sizeOf, typeInfo, hi, hs, part, hagg, Std.Legacy.Range.forIn_eq_forIn_range', List.range', hel, go_sem]
  repeat' split
  all_goals simp_all

end Go.Proofs.YtdnackjakfiffaaGreatDoor
