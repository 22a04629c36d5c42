/-
  The tables of names: errs, limits.
-/
import Derived.Test.YtdgbmogkjnpoeaaDoorChecked
import Derived.WalkKit
import Derived.Below
namespace Go.Proofs.YtdgbmogkjnpoeaaDoor
open Go Go.RowKit

def tabE : List Int := [0, 1, 2, 3, 10, 11, 12, 13, 14, 15, 16, 20, 21, 22, 23, 24, 25, 26, 27, 28, 29, 31, 32, 33, 34, 35, 36, 37, 38, 40, 41, 50, 51, 52, 53, 60, 61, 62, 63, 64, 65, 70, 72, 73, 74, 75, 76, 80, 81, 82, 83, 84, 85, 86, 90, 91, 92, 93, 94, 95, 100, 101, 102, 103, 104, 105, 106, 107, 108, 109, 110, 111, 130, 131, 132, 133, 134, 135, 136, 137, 138, 139, 140, 141, 142, 150, 151, 152, 153, 154, 155, 156, 160, 161, 162, 163, 170, 171, 172, 173, 174, 175, 176, 180, 181, 182, 183, 184, 190, 191, 192, 193, 200, 201, 202, 203, 204, 205, 206, 207, 208, 209]
def tabM : List Int := [9223372036854775807, 32, 1000, 48, 16384, 1048576, 16, 64, 65536, 524288, 128, 1099511627776, 40, 4194304, 16, 16, 16777216, 8388608, 1024, 65536, 256, 64, 165, 1, 2, 3, 4, 5, 6, 7, 1, 2, 3, 4, 1, 2, 3, 4, 0, 1, 2, 3, 4, 5, 0, 1, 2, 3, 4, 5, 6, 1, 2, 3, 4, 0, 1, 2, 3, 0, 1, 2, 3, 4, 5, 6, 7, 8, 9, 10, 11, 12, 13, 0, 1, 2, 3, 4, 1, 2]
def twin (t : List Int) : List Value := t.flatMap fun n => [.int .i64 n, .int .i64 n]
theorem twin_get (t : List Int) : ∀ (k : Nat) (h : k < t.length), (twin t)[k * 2]? = some (.int .i64 t[k]) ∧ (twin t)[k * 2 + 1]? = some (.int .i64 t[k]) := by
  induction t with
  | nil => intro k h; simp at h
  | cons p t ih =>
    intro k h
    cases k with
    | zero => exact ⟨rfl, rfl⟩
    | succ k =>
      have := ih k (by simpa using h)
      simp only [twin, List.flatMap_cons] at *
      rw [show (k + 1) * 2 = k * 2 + 2 by omega, show k * 2 + 2 + 1 = k * 2 + 1 + 2 by omega]
      exact this
set_option maxRecDepth 1000000 in
set_option maxHeartbeats 10000000 in
theorem errs_any (w : World) :
    Calls Tryd.prog 18 #[] w fun e w' => e = .returned (.slice (some ⟨w.heap.size, 0, none⟩) 122 122) ∧ w' = w.alloc (.cells (twin tabE).toArray 44) := by
  go_enter Tryd.func18, Tryd.ntmps18
  go_wp2
  go_ret
  exact ⟨rfl, rfl⟩
set_option maxRecDepth 1000000 in
set_option maxHeartbeats 10000000 in
theorem limits_any (w : World) :
    Calls Tryd.prog 19 #[] w fun e w' => e = .returned (.slice (some ⟨w.heap.size, 0, none⟩) 80 80) ∧ w' = w.alloc (.cells (twin tabM).toArray 44) := by
  go_enter Tryd.func19, Tryd.ntmps19
  go_wp2
  go_ret
  exact ⟨rfl, rfl⟩
end Go.Proofs.YtdgbmogkjnpoeaaDoor
