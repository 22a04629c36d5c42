/-
  Package lift: what a way does.
-/
import Derived.Test.YtfkkjhcfmncieaaDoorChecked
import Derived.Deep.MidRow
import Derived.Laws.AppendOwnNone
import Derived.Maps.AppendAt
import Derived.WalkSpells
import Derived.WalkLawsBesides
import Derived.OwnWalk
import Derived.Deep.QuietTactic
import Derived.BigQuiet
import Derived.WalkSmall
namespace Go.Proofs.YtfkkjhcfmncieaaDoor
open Go Go.RowKit

theorem up {w w1 : World} (h : Below w.heap.size w w1) (o : Obj) : Below w.heap.size w (w1.alloc o) := h.alloc h.size o
theorem andThen {w w1 w2 : World} (h : Below w.heap.size w w1) (k : Below w1.heap.size w1 w2) : Below w.heap.size w w2 := h.trans (k.mono h.size)
theorem up0 (w : World) (o : Obj) : Below w.heap.size w (w.alloc o) := up (Below.refl _ _) o
theorem isV_any (v : Int) (w : World) : Calls Tryd.prog 6 #[.int .i64 v] w fun e w' => e = .returned (.bool (decide (1 ≤ v) && decide (v ≤ 3))) ∧ w' = w := by
  by_cases h1 : 1 ≤ v
  · have H1 : Hid ((decide (1 ≤ v) && decide (v ≤ 3)) = decide (v ≤ 3)) := by show _ = _; rw [decide_eq_true h1, Bool.true_and]
    rw [H1.out]
    go_enter Tryd.func6, Tryd.ntmps6
    go_wp2
    go_ret
    exact ⟨rfl, rfl⟩
  · have H1 : Hid ((decide (1 ≤ v) && decide (v ≤ 3)) = false) := by show _ = _; rw [decide_eq_false h1, Bool.false_and]
    rw [H1.out]
    go_enter Tryd.func6, Tryd.ntmps6
    go_wp2
    go_ret
    exact ⟨rfl, rfl⟩
theorem infoI : ∃ i, Tryd.prog.info? 3 = some i ∧ i.size = 1 := by
  have h : (Tryd.prog.info? 3).map (·.size) = some 1 := by kernel_rfl
  cases hq : Tryd.prog.info? 3 with
  | none => rw [hq] at h; simp at h
  | some i => rw [hq] at h; exact ⟨i, rfl, by simpa using h⟩
set_option maxRecDepth 100000 in
/-- two arrays of two numbers -/
theorem eq2 (a1 a2 b1 b2 : Int) (w : World) :
    (Op.equalIn 10000 36 (.agg #[.int .i64 a1, .int .i64 a2]) (.agg #[.int .i64 b1, .int .i64 b2])).run Tryd.prog w = .ok (decide (a1 = b1 ∧ a2 = b2)) w := by
  obtain ⟨i, hi, hs⟩ := infoI
  have hagg : ∀ w', (isAgg 3).run Tryd.prog w' = .ok false w' := fun w' => by
    unfold isAgg
    rw [Sem.run_bind, run_underlying Tryd.underlying3 w']
    rfl
  have hel : ∀ a b w', (Op.equalIn 9999 3 (.int .i64 a) (.int .i64 b)).run Tryd.prog w' = .ok (a == b) w' := fun a b w' => run_equalIn_int w' 9998 3 .i64 .i64 a b Tryd.underlying3
  unfold Op.equalIn
  simp [run_underlying Tryd.underlying36, sizeOf, typeInfo, hi, hs, part, hagg, Std.Legacy.Range.forIn_eq_forIn_range', List.range', hel, go_sem]
  repeat' split
  all_goals simp_all
/-- the ways -/
def wF (k : Nat) : Int := if k = 0 then 1 else if k = 1 then 2 else if k = 2 then 3 else 2
def wT (k : Nat) : Int := if k = 0 then 2 else if k = 1 then 3 else if k = 2 then 2 else 1
def wN (k : Nat) : ByteArray := ⟨if k = 0 then #[49, 116, 111, 50] else if k = 1 then #[50, 116, 111, 51] else if k = 2 then #[51, 116, 111, 50] else #[50, 116, 111, 49]⟩
set_option maxRecDepth 100000 in
set_option maxHeartbeats 1000000 in
theorem deed_any (k : Nat) (hk : k < 4) (nm : ByteArray) (w : World) :
    Calls Tryd.prog 8 #[.agg #[.int .i64 (wF k), .int .i64 (wT k), .string nm]] w fun e w' => e = .returned (.func (.func (9 + k)) #[] #[]) ∧ w' = w.alloc (.cells #[.int .i64 (wF k), .int .i64 (wT k), .string nm] 33) := by
  have hq := fun w' a1 a2 b1 b2 => eq2 a1 a2 b1 b2 w'
  obtain rfl | rfl | rfl | rfl : k = 0 ∨ k = 1 ∨ k = 2 ∨ k = 3 := by omega
  all_goals
    simp only [wF, wT]
    go_enter Tryd.func8, Tryd.ntmps8
    go_wp2
    go_ret
    exact ⟨rfl, rfl⟩
end Go.Proofs.YtfkkjhcfmncieaaDoor
