/-
  The tables of names: errs, limits.
-/
import Derived.Test.YtdgbmogkjnpoeaaDoorChecked
import Derived.WalkKit
import Derived.Below
import Derived.Laws.Tables
import Derived.Great.Walk
namespace Go.Proofs.YtdgbmogkjnpoeaaDoor
open Go Go.RowKit

def tabE : List Int := [0, 1, 2, 3, 10, 11, 12, 13, 14, 15, 16, 20, 21, 22, 23, 24, 25, 26, 27, 28, 29, 31, 32, 33, 34, 35, 36, 37, 38, 40, 41, 50, 51, 52, 53, 60, 61, 62, 63, 64, 65, 70, 72, 73, 74, 75, 76, 80, 81, 82, 83, 84, 85, 86, 90, 91, 92, 93, 94, 95, 100, 101, 102, 103, 104, 105, 106, 107, 108, 109, 110, 111, 130, 131, 132, 133, 134, 135, 136, 137, 138, 139, 140, 141, 142, 150, 151, 152, 153, 154, 155, 156, 160, 161, 162, 163, 170, 171, 172, 173, 174, 175, 176, 180, 181, 182, 183, 184, 190, 191, 192, 193, 200, 201, 202, 203, 204, 205, 206, 207, 208, 209]
def tabM : List Int := [9223372036854775807, 32, 1000, 48, 16384, 1048576, 16, 64, 65536, 524288, 128, 1099511627776, 40, 4194304, 16, 16, 16777216, 8388608, 1024, 65536, 256, 64, 165, 1, 2, 3, 4, 5, 6, 7, 1, 2, 3, 4, 1, 2, 3, 4, 0, 1, 2, 3, 4, 5, 0, 1, 2, 3, 4, 5, 6, 1, 2, 3, 4, 0, 1, 2, 3, 0, 1, 2, 3, 4, 5, 6, 7, 8, 9, 10, 11, 12, 13, 0, 1, 2, 3, 4, 1, 2]
def twin (t : List Int) : List Value := t.flatMap fun n => [.int .i64 n, .int .i64 n]
theorem twin_get (t : List Int) : ∀ (k : Nat) (h : k < t.length), (twin t)[k * 2]? = some (.int .i64 t[k]) ∧ (twin t)[k * 2 + 1]? = some (.int .i64 t[k]) := by
  induction t with
  | nil => intro k h; simp at h
  | cons p t ih =>
    intro k h
    cases k with
    | zero => exact ⟨rfl, rfl⟩
    | succ k =>
      have := ih k (by simpa using h)
      simp only [twin, List.flatMap_cons] at *
      rw [show (k + 1) * 2 = k * 2 + 2 by omega, show k * 2 + 2 + 1 = k * 2 + 1 + 2 by omega]
      exact this
attribute [local irreducible] wpList Code.wp
set_option maxRecDepth 1000000 in
set_option maxHeartbeats 10000000 in
theorem errs_any (w : World) :
    Calls Tryd.prog 18 #[] w fun e w' => e = .returned (.slice (some ⟨w.heap.size, 0, none⟩) 122 122) ∧ w' = w.alloc (.cells (twin tabE).toArray 44) := by
  refine calls_of_wp Tryd.func18 rfl ?_
  apply wp_seq_k
  intro K hK
  apply wp_region_lit
  refine Go.Great.wpList_readTo rfl (some 0) rfl (.slice none 0 0) (by kernel_rfl) ?_
  apply wpList_nil
  refine hK _ _ ?_
  clear hK K
  apply wp_seq_k
  intro K hK
  apply wp_region_lit
  refine Go.Great.wpList_readTo rfl (some 1) rfl (.agg #[.int .i64 0, .int .i64 0]) (by kernel_rfl) ?_
  refine Go.Great.wpList_readTo rfl (some 2) rfl (.agg #[.int .i64 1, .int .i64 1]) (by kernel_rfl) ?_
  refine Go.Great.wpList_readTo rfl (some 3) rfl (.agg #[.int .i64 2, .int .i64 2]) (by kernel_rfl) ?_
  refine Go.Great.wpList_readTo rfl (some 4) rfl (.agg #[.int .i64 3, .int .i64 3]) (by kernel_rfl) ?_
  refine Go.Great.wpList_readTo rfl (some 5) rfl (.agg #[.int .i64 10, .int .i64 10]) (by kernel_rfl) ?_
  refine Go.Great.wpList_readTo rfl (some 6) rfl (.agg #[.int .i64 11, .int .i64 11]) (by kernel_rfl) ?_
  refine Go.Great.wpList_readTo rfl (some 7) rfl (.agg #[.int .i64 12, .int .i64 12]) (by kernel_rfl) ?_
  refine Go.Great.wpList_readTo rfl (some 8) rfl (.agg #[.int .i64 13, .int .i64 13]) (by kernel_rfl) ?_
  refine Go.Great.wpList_readTo rfl (some 9) rfl (.agg #[.int .i64 14, .int .i64 14]) (by kernel_rfl) ?_
  refine Go.Great.wpList_readTo rfl (some 10) rfl (.agg #[.int .i64 15, .int .i64 15]) (by kernel_rfl) ?_
  refine Go.Great.wpList_readTo rfl (some 11) rfl (.agg #[.int .i64 16, .int .i64 16]) (by kernel_rfl) ?_
  refine Go.Great.wpList_readTo rfl (some 12) rfl (.agg #[.int .i64 20, .int .i64 20]) (by kernel_rfl) ?_
  refine Go.Great.wpList_readTo rfl (some 13) rfl (.agg #[.int .i64 21, .int .i64 21]) (by kernel_rfl) ?_
  refine Go.Great.wpList_readTo rfl (some 14) rfl (.agg #[.int .i64 22, .int .i64 22]) (by kernel_rfl) ?_
  refine Go.Great.wpList_readTo rfl (some 15) rfl (.agg #[.int .i64 23, .int .i64 23]) (by kernel_rfl) ?_
  refine Go.Great.wpList_readTo rfl (some 16) rfl (.agg #[.int .i64 24, .int .i64 24]) (by kernel_rfl) ?_
  refine Go.Great.wpList_readTo rfl (some 17) rfl (.agg #[.int .i64 25, .int .i64 25]) (by kernel_rfl) ?_
  refine Go.Great.wpList_readTo rfl (some 18) rfl (.agg #[.int .i64 26, .int .i64 26]) (by kernel_rfl) ?_
  refine Go.Great.wpList_readTo rfl (some 19) rfl (.agg #[.int .i64 27, .int .i64 27]) (by kernel_rfl) ?_
  refine Go.Great.wpList_readTo rfl (some 20) rfl (.agg #[.int .i64 28, .int .i64 28]) (by kernel_rfl) ?_
  refine Go.Great.wpList_readTo rfl (some 21) rfl (.agg #[.int .i64 29, .int .i64 29]) (by kernel_rfl) ?_
  refine Go.Great.wpList_readTo rfl (some 22) rfl (.agg #[.int .i64 31, .int .i64 31]) (by kernel_rfl) ?_
  refine Go.Great.wpList_readTo rfl (some 23) rfl (.agg #[.int .i64 32, .int .i64 32]) (by kernel_rfl) ?_
  refine Go.Great.wpList_readTo rfl (some 24) rfl (.agg #[.int .i64 33, .int .i64 33]) (by kernel_rfl) ?_
  refine Go.Great.wpList_readTo rfl (some 25) rfl (.agg #[.int .i64 34, .int .i64 34]) (by kernel_rfl) ?_
  refine Go.Great.wpList_readTo rfl (some 26) rfl (.agg #[.int .i64 35, .int .i64 35]) (by kernel_rfl) ?_
  refine Go.Great.wpList_readTo rfl (some 27) rfl (.agg #[.int .i64 36, .int .i64 36]) (by kernel_rfl) ?_
  refine Go.Great.wpList_readTo rfl (some 28) rfl (.agg #[.int .i64 37, .int .i64 37]) (by kernel_rfl) ?_
  refine Go.Great.wpList_readTo rfl (some 29) rfl (.agg #[.int .i64 38, .int .i64 38]) (by kernel_rfl) ?_
  refine Go.Great.wpList_readTo rfl (some 30) rfl (.agg #[.int .i64 40, .int .i64 40]) (by kernel_rfl) ?_
  refine Go.Great.wpList_readTo rfl (some 31) rfl (.agg #[.int .i64 41, .int .i64 41]) (by kernel_rfl) ?_
  refine Go.Great.wpList_readTo rfl (some 32) rfl (.agg #[.int .i64 50, .int .i64 50]) (by kernel_rfl) ?_
  refine Go.Great.wpList_readTo rfl (some 33) rfl (.agg #[.int .i64 51, .int .i64 51]) (by kernel_rfl) ?_
  refine Go.Great.wpList_readTo rfl (some 34) rfl (.agg #[.int .i64 52, .int .i64 52]) (by kernel_rfl) ?_
  refine Go.Great.wpList_readTo rfl (some 35) rfl (.agg #[.int .i64 53, .int .i64 53]) (by kernel_rfl) ?_
  refine Go.Great.wpList_readTo rfl (some 36) rfl (.agg #[.int .i64 60, .int .i64 60]) (by kernel_rfl) ?_
  refine Go.Great.wpList_readTo rfl (some 37) rfl (.agg #[.int .i64 61, .int .i64 61]) (by kernel_rfl) ?_
  refine Go.Great.wpList_readTo rfl (some 38) rfl (.agg #[.int .i64 62, .int .i64 62]) (by kernel_rfl) ?_
  refine Go.Great.wpList_readTo rfl (some 39) rfl (.agg #[.int .i64 63, .int .i64 63]) (by kernel_rfl) ?_
  refine Go.Great.wpList_readTo rfl (some 40) rfl (.agg #[.int .i64 64, .int .i64 64]) (by kernel_rfl) ?_
  refine Go.Great.wpList_readTo rfl (some 41) rfl (.agg #[.int .i64 65, .int .i64 65]) (by kernel_rfl) ?_
  refine Go.Great.wpList_readTo rfl (some 42) rfl (.agg #[.int .i64 70, .int .i64 70]) (by kernel_rfl) ?_
  refine Go.Great.wpList_readTo rfl (some 43) rfl (.agg #[.int .i64 72, .int .i64 72]) (by kernel_rfl) ?_
  refine Go.Great.wpList_readTo rfl (some 44) rfl (.agg #[.int .i64 73, .int .i64 73]) (by kernel_rfl) ?_
  refine Go.Great.wpList_readTo rfl (some 45) rfl (.agg #[.int .i64 74, .int .i64 74]) (by kernel_rfl) ?_
  refine Go.Great.wpList_readTo rfl (some 46) rfl (.agg #[.int .i64 75, .int .i64 75]) (by kernel_rfl) ?_
  refine Go.Great.wpList_readTo rfl (some 47) rfl (.agg #[.int .i64 76, .int .i64 76]) (by kernel_rfl) ?_
  refine Go.Great.wpList_readTo rfl (some 48) rfl (.agg #[.int .i64 80, .int .i64 80]) (by kernel_rfl) ?_
  refine Go.Great.wpList_readTo rfl (some 49) rfl (.agg #[.int .i64 81, .int .i64 81]) (by kernel_rfl) ?_
  refine Go.Great.wpList_readTo rfl (some 50) rfl (.agg #[.int .i64 82, .int .i64 82]) (by kernel_rfl) ?_
  refine Go.Great.wpList_readTo rfl (some 51) rfl (.agg #[.int .i64 83, .int .i64 83]) (by kernel_rfl) ?_
  refine Go.Great.wpList_readTo rfl (some 52) rfl (.agg #[.int .i64 84, .int .i64 84]) (by kernel_rfl) ?_
  refine Go.Great.wpList_readTo rfl (some 53) rfl (.agg #[.int .i64 85, .int .i64 85]) (by kernel_rfl) ?_
  refine Go.Great.wpList_readTo rfl (some 54) rfl (.agg #[.int .i64 86, .int .i64 86]) (by kernel_rfl) ?_
  refine Go.Great.wpList_readTo rfl (some 55) rfl (.agg #[.int .i64 90, .int .i64 90]) (by kernel_rfl) ?_
  refine Go.Great.wpList_readTo rfl (some 56) rfl (.agg #[.int .i64 91, .int .i64 91]) (by kernel_rfl) ?_
  refine Go.Great.wpList_readTo rfl (some 57) rfl (.agg #[.int .i64 92, .int .i64 92]) (by kernel_rfl) ?_
  refine Go.Great.wpList_readTo rfl (some 58) rfl (.agg #[.int .i64 93, .int .i64 93]) (by kernel_rfl) ?_
  refine Go.Great.wpList_readTo rfl (some 59) rfl (.agg #[.int .i64 94, .int .i64 94]) (by kernel_rfl) ?_
  refine Go.Great.wpList_readTo rfl (some 60) rfl (.agg #[.int .i64 95, .int .i64 95]) (by kernel_rfl) ?_
  refine Go.Great.wpList_readTo rfl (some 61) rfl (.agg #[.int .i64 100, .int .i64 100]) (by kernel_rfl) ?_
  refine Go.Great.wpList_readTo rfl (some 62) rfl (.agg #[.int .i64 101, .int .i64 101]) (by kernel_rfl) ?_
  refine Go.Great.wpList_readTo rfl (some 63) rfl (.agg #[.int .i64 102, .int .i64 102]) (by kernel_rfl) ?_
  refine Go.Great.wpList_readTo rfl (some 64) rfl (.agg #[.int .i64 103, .int .i64 103]) (by kernel_rfl) ?_
  refine Go.Great.wpList_readTo rfl (some 65) rfl (.agg #[.int .i64 104, .int .i64 104]) (by kernel_rfl) ?_
  refine Go.Great.wpList_readTo rfl (some 66) rfl (.agg #[.int .i64 105, .int .i64 105]) (by kernel_rfl) ?_
  refine Go.Great.wpList_readTo rfl (some 67) rfl (.agg #[.int .i64 106, .int .i64 106]) (by kernel_rfl) ?_
  refine Go.Great.wpList_readTo rfl (some 68) rfl (.agg #[.int .i64 107, .int .i64 107]) (by kernel_rfl) ?_
  refine Go.Great.wpList_readTo rfl (some 69) rfl (.agg #[.int .i64 108, .int .i64 108]) (by kernel_rfl) ?_
  refine Go.Great.wpList_readTo rfl (some 70) rfl (.agg #[.int .i64 109, .int .i64 109]) (by kernel_rfl) ?_
  refine Go.Great.wpList_readTo rfl (some 71) rfl (.agg #[.int .i64 110, .int .i64 110]) (by kernel_rfl) ?_
  refine Go.Great.wpList_readTo rfl (some 72) rfl (.agg #[.int .i64 111, .int .i64 111]) (by kernel_rfl) ?_
  refine Go.Great.wpList_readTo rfl (some 73) rfl (.agg #[.int .i64 130, .int .i64 130]) (by kernel_rfl) ?_
  refine Go.Great.wpList_readTo rfl (some 74) rfl (.agg #[.int .i64 131, .int .i64 131]) (by kernel_rfl) ?_
  refine Go.Great.wpList_readTo rfl (some 75) rfl (.agg #[.int .i64 132, .int .i64 132]) (by kernel_rfl) ?_
  refine Go.Great.wpList_readTo rfl (some 76) rfl (.agg #[.int .i64 133, .int .i64 133]) (by kernel_rfl) ?_
  refine Go.Great.wpList_readTo rfl (some 77) rfl (.agg #[.int .i64 134, .int .i64 134]) (by kernel_rfl) ?_
  refine Go.Great.wpList_readTo rfl (some 78) rfl (.agg #[.int .i64 135, .int .i64 135]) (by kernel_rfl) ?_
  refine Go.Great.wpList_readTo rfl (some 79) rfl (.agg #[.int .i64 136, .int .i64 136]) (by kernel_rfl) ?_
  refine Go.Great.wpList_readTo rfl (some 80) rfl (.agg #[.int .i64 137, .int .i64 137]) (by kernel_rfl) ?_
  refine Go.Great.wpList_readTo rfl (some 81) rfl (.agg #[.int .i64 138, .int .i64 138]) (by kernel_rfl) ?_
  refine Go.Great.wpList_readTo rfl (some 82) rfl (.agg #[.int .i64 139, .int .i64 139]) (by kernel_rfl) ?_
  refine Go.Great.wpList_readTo rfl (some 83) rfl (.agg #[.int .i64 140, .int .i64 140]) (by kernel_rfl) ?_
  refine Go.Great.wpList_readTo rfl (some 84) rfl (.agg #[.int .i64 141, .int .i64 141]) (by kernel_rfl) ?_
  refine Go.Great.wpList_readTo rfl (some 85) rfl (.agg #[.int .i64 142, .int .i64 142]) (by kernel_rfl) ?_
  refine Go.Great.wpList_readTo rfl (some 86) rfl (.agg #[.int .i64 150, .int .i64 150]) (by kernel_rfl) ?_
  refine Go.Great.wpList_readTo rfl (some 87) rfl (.agg #[.int .i64 151, .int .i64 151]) (by kernel_rfl) ?_
  refine Go.Great.wpList_readTo rfl (some 88) rfl (.agg #[.int .i64 152, .int .i64 152]) (by kernel_rfl) ?_
  refine Go.Great.wpList_readTo rfl (some 89) rfl (.agg #[.int .i64 153, .int .i64 153]) (by kernel_rfl) ?_
  refine Go.Great.wpList_readTo rfl (some 90) rfl (.agg #[.int .i64 154, .int .i64 154]) (by kernel_rfl) ?_
  refine Go.Great.wpList_readTo rfl (some 91) rfl (.agg #[.int .i64 155, .int .i64 155]) (by kernel_rfl) ?_
  refine Go.Great.wpList_readTo rfl (some 92) rfl (.agg #[.int .i64 156, .int .i64 156]) (by kernel_rfl) ?_
  refine Go.Great.wpList_readTo rfl (some 93) rfl (.agg #[.int .i64 160, .int .i64 160]) (by kernel_rfl) ?_
  refine Go.Great.wpList_readTo rfl (some 94) rfl (.agg #[.int .i64 161, .int .i64 161]) (by kernel_rfl) ?_
  refine Go.Great.wpList_readTo rfl (some 95) rfl (.agg #[.int .i64 162, .int .i64 162]) (by kernel_rfl) ?_
  refine Go.Great.wpList_readTo rfl (some 96) rfl (.agg #[.int .i64 163, .int .i64 163]) (by kernel_rfl) ?_
  refine Go.Great.wpList_readTo rfl (some 97) rfl (.agg #[.int .i64 170, .int .i64 170]) (by kernel_rfl) ?_
  refine Go.Great.wpList_readTo rfl (some 98) rfl (.agg #[.int .i64 171, .int .i64 171]) (by kernel_rfl) ?_
  refine Go.Great.wpList_readTo rfl (some 99) rfl (.agg #[.int .i64 172, .int .i64 172]) (by kernel_rfl) ?_
  refine Go.Great.wpList_readTo rfl (some 100) rfl (.agg #[.int .i64 173, .int .i64 173]) (by kernel_rfl) ?_
  refine Go.Great.wpList_readTo rfl (some 101) rfl (.agg #[.int .i64 174, .int .i64 174]) (by kernel_rfl) ?_
  refine Go.Great.wpList_readTo rfl (some 102) rfl (.agg #[.int .i64 175, .int .i64 175]) (by kernel_rfl) ?_
  refine Go.Great.wpList_readTo rfl (some 103) rfl (.agg #[.int .i64 176, .int .i64 176]) (by kernel_rfl) ?_
  refine Go.Great.wpList_readTo rfl (some 104) rfl (.agg #[.int .i64 180, .int .i64 180]) (by kernel_rfl) ?_
  refine Go.Great.wpList_readTo rfl (some 105) rfl (.agg #[.int .i64 181, .int .i64 181]) (by kernel_rfl) ?_
  refine Go.Great.wpList_readTo rfl (some 106) rfl (.agg #[.int .i64 182, .int .i64 182]) (by kernel_rfl) ?_
  refine Go.Great.wpList_readTo rfl (some 107) rfl (.agg #[.int .i64 183, .int .i64 183]) (by kernel_rfl) ?_
  refine Go.Great.wpList_readTo rfl (some 108) rfl (.agg #[.int .i64 184, .int .i64 184]) (by kernel_rfl) ?_
  refine Go.Great.wpList_readTo rfl (some 109) rfl (.agg #[.int .i64 190, .int .i64 190]) (by kernel_rfl) ?_
  refine Go.Great.wpList_readTo rfl (some 110) rfl (.agg #[.int .i64 191, .int .i64 191]) (by kernel_rfl) ?_
  refine Go.Great.wpList_readTo rfl (some 111) rfl (.agg #[.int .i64 192, .int .i64 192]) (by kernel_rfl) ?_
  refine Go.Great.wpList_readTo rfl (some 112) rfl (.agg #[.int .i64 193, .int .i64 193]) (by kernel_rfl) ?_
  refine Go.Great.wpList_readTo rfl (some 113) rfl (.agg #[.int .i64 200, .int .i64 200]) (by kernel_rfl) ?_
  refine Go.Great.wpList_readTo rfl (some 114) rfl (.agg #[.int .i64 201, .int .i64 201]) (by kernel_rfl) ?_
  refine Go.Great.wpList_readTo rfl (some 115) rfl (.agg #[.int .i64 202, .int .i64 202]) (by kernel_rfl) ?_
  refine Go.Great.wpList_readTo rfl (some 116) rfl (.agg #[.int .i64 203, .int .i64 203]) (by kernel_rfl) ?_
  refine Go.Great.wpList_readTo rfl (some 117) rfl (.agg #[.int .i64 204, .int .i64 204]) (by kernel_rfl) ?_
  refine Go.Great.wpList_readTo rfl (some 118) rfl (.agg #[.int .i64 205, .int .i64 205]) (by kernel_rfl) ?_
  refine Go.Great.wpList_readTo rfl (some 119) rfl (.agg #[.int .i64 206, .int .i64 206]) (by kernel_rfl) ?_
  refine Go.Great.wpList_readTo rfl (some 120) rfl (.agg #[.int .i64 207, .int .i64 207]) (by kernel_rfl) ?_
  refine Go.Great.wpList_readTo rfl (some 121) rfl (.agg #[.int .i64 208, .int .i64 208]) (by kernel_rfl) ?_
  refine Go.Great.wpList_readTo rfl (some 122) rfl (.agg #[.int .i64 209, .int .i64 209]) (by kernel_rfl) ?_
  refine Go.Great.wpList_buildSliceTo rfl 41 44 122 _ rfl w.heap.size rfl (some 123) rfl Tryd.underlying41 (twin tabE).toArray (by kernel_rfl) ?_
  refine Go.Great.wpList_readTo rfl (some 0) rfl (.slice (some ⟨w.heap.size, 0, none⟩) 122 122) (by kernel_rfl) ?_
  apply wpList_nil
  refine hK _ _ ?_
  apply wp_ret
  refine bodyPost_ret (results_tmp rfl _ _ _) rfl ?_
  exact ⟨by kernel_rfl, rfl⟩
set_option maxRecDepth 1000000 in
set_option maxHeartbeats 10000000 in
theorem limits_any (w : World) :
    Calls Tryd.prog 19 #[] w fun e w' => e = .returned (.slice (some ⟨w.heap.size, 0, none⟩) 80 80) ∧ w' = w.alloc (.cells (twin tabM).toArray 44) := by
  refine calls_of_wp Tryd.func19 rfl ?_
  apply wp_seq_k
  intro K hK
  apply wp_region_lit
  refine Go.Great.wpList_readTo rfl (some 0) rfl (.slice none 0 0) (by kernel_rfl) ?_
  apply wpList_nil
  refine hK _ _ ?_
  clear hK K
  apply wp_seq_k
  intro K hK
  apply wp_region_lit
  refine Go.Great.wpList_readTo rfl (some 1) rfl (.agg #[.int .i64 9223372036854775807, .int .i64 9223372036854775807]) (by kernel_rfl) ?_
  refine Go.Great.wpList_readTo rfl (some 2) rfl (.agg #[.int .i64 32, .int .i64 32]) (by kernel_rfl) ?_
  refine Go.Great.wpList_readTo rfl (some 3) rfl (.agg #[.int .i64 1000, .int .i64 1000]) (by kernel_rfl) ?_
  refine Go.Great.wpList_readTo rfl (some 4) rfl (.agg #[.int .i64 48, .int .i64 48]) (by kernel_rfl) ?_
  refine Go.Great.wpList_readTo rfl (some 5) rfl (.agg #[.int .i64 16384, .int .i64 16384]) (by kernel_rfl) ?_
  refine Go.Great.wpList_readTo rfl (some 6) rfl (.agg #[.int .i64 1048576, .int .i64 1048576]) (by kernel_rfl) ?_
  refine Go.Great.wpList_readTo rfl (some 7) rfl (.agg #[.int .i64 16, .int .i64 16]) (by kernel_rfl) ?_
  refine Go.Great.wpList_readTo rfl (some 8) rfl (.agg #[.int .i64 64, .int .i64 64]) (by kernel_rfl) ?_
  refine Go.Great.wpList_readTo rfl (some 9) rfl (.agg #[.int .i64 65536, .int .i64 65536]) (by kernel_rfl) ?_
  refine Go.Great.wpList_readTo rfl (some 10) rfl (.agg #[.int .i64 524288, .int .i64 524288]) (by kernel_rfl) ?_
  refine Go.Great.wpList_readTo rfl (some 11) rfl (.agg #[.int .i64 128, .int .i64 128]) (by kernel_rfl) ?_
  refine Go.Great.wpList_readTo rfl (some 12) rfl (.agg #[.int .i64 1099511627776, .int .i64 1099511627776]) (by kernel_rfl) ?_
  refine Go.Great.wpList_readTo rfl (some 13) rfl (.agg #[.int .i64 40, .int .i64 40]) (by kernel_rfl) ?_
  refine Go.Great.wpList_readTo rfl (some 14) rfl (.agg #[.int .i64 4194304, .int .i64 4194304]) (by kernel_rfl) ?_
  refine Go.Great.wpList_readTo rfl (some 15) rfl (.agg #[.int .i64 16, .int .i64 16]) (by kernel_rfl) ?_
  refine Go.Great.wpList_readTo rfl (some 16) rfl (.agg #[.int .i64 16, .int .i64 16]) (by kernel_rfl) ?_
  refine Go.Great.wpList_readTo rfl (some 17) rfl (.agg #[.int .i64 16777216, .int .i64 16777216]) (by kernel_rfl) ?_
  refine Go.Great.wpList_readTo rfl (some 18) rfl (.agg #[.int .i64 8388608, .int .i64 8388608]) (by kernel_rfl) ?_
  refine Go.Great.wpList_readTo rfl (some 19) rfl (.agg #[.int .i64 1024, .int .i64 1024]) (by kernel_rfl) ?_
  refine Go.Great.wpList_readTo rfl (some 20) rfl (.agg #[.int .i64 65536, .int .i64 65536]) (by kernel_rfl) ?_
  refine Go.Great.wpList_readTo rfl (some 21) rfl (.agg #[.int .i64 256, .int .i64 256]) (by kernel_rfl) ?_
  refine Go.Great.wpList_readTo rfl (some 22) rfl (.agg #[.int .i64 64, .int .i64 64]) (by kernel_rfl) ?_
  refine Go.Great.wpList_readTo rfl (some 23) rfl (.agg #[.int .i64 165, .int .i64 165]) (by kernel_rfl) ?_
  refine Go.Great.wpList_readTo rfl (some 24) rfl (.agg #[.int .i64 1, .int .i64 1]) (by kernel_rfl) ?_
  refine Go.Great.wpList_readTo rfl (some 25) rfl (.agg #[.int .i64 2, .int .i64 2]) (by kernel_rfl) ?_
  refine Go.Great.wpList_readTo rfl (some 26) rfl (.agg #[.int .i64 3, .int .i64 3]) (by kernel_rfl) ?_
  refine Go.Great.wpList_readTo rfl (some 27) rfl (.agg #[.int .i64 4, .int .i64 4]) (by kernel_rfl) ?_
  refine Go.Great.wpList_readTo rfl (some 28) rfl (.agg #[.int .i64 5, .int .i64 5]) (by kernel_rfl) ?_
  refine Go.Great.wpList_readTo rfl (some 29) rfl (.agg #[.int .i64 6, .int .i64 6]) (by kernel_rfl) ?_
  refine Go.Great.wpList_readTo rfl (some 30) rfl (.agg #[.int .i64 7, .int .i64 7]) (by kernel_rfl) ?_
  refine Go.Great.wpList_readTo rfl (some 31) rfl (.agg #[.int .i64 1, .int .i64 1]) (by kernel_rfl) ?_
  refine Go.Great.wpList_readTo rfl (some 32) rfl (.agg #[.int .i64 2, .int .i64 2]) (by kernel_rfl) ?_
  refine Go.Great.wpList_readTo rfl (some 33) rfl (.agg #[.int .i64 3, .int .i64 3]) (by kernel_rfl) ?_
  refine Go.Great.wpList_readTo rfl (some 34) rfl (.agg #[.int .i64 4, .int .i64 4]) (by kernel_rfl) ?_
  refine Go.Great.wpList_readTo rfl (some 35) rfl (.agg #[.int .i64 1, .int .i64 1]) (by kernel_rfl) ?_
  refine Go.Great.wpList_readTo rfl (some 36) rfl (.agg #[.int .i64 2, .int .i64 2]) (by kernel_rfl) ?_
  refine Go.Great.wpList_readTo rfl (some 37) rfl (.agg #[.int .i64 3, .int .i64 3]) (by kernel_rfl) ?_
  refine Go.Great.wpList_readTo rfl (some 38) rfl (.agg #[.int .i64 4, .int .i64 4]) (by kernel_rfl) ?_
  refine Go.Great.wpList_readTo rfl (some 39) rfl (.agg #[.int .i64 0, .int .i64 0]) (by kernel_rfl) ?_
  refine Go.Great.wpList_readTo rfl (some 40) rfl (.agg #[.int .i64 1, .int .i64 1]) (by kernel_rfl) ?_
  refine Go.Great.wpList_readTo rfl (some 41) rfl (.agg #[.int .i64 2, .int .i64 2]) (by kernel_rfl) ?_
  refine Go.Great.wpList_readTo rfl (some 42) rfl (.agg #[.int .i64 3, .int .i64 3]) (by kernel_rfl) ?_
  refine Go.Great.wpList_readTo rfl (some 43) rfl (.agg #[.int .i64 4, .int .i64 4]) (by kernel_rfl) ?_
  refine Go.Great.wpList_readTo rfl (some 44) rfl (.agg #[.int .i64 5, .int .i64 5]) (by kernel_rfl) ?_
  refine Go.Great.wpList_readTo rfl (some 45) rfl (.agg #[.int .i64 0, .int .i64 0]) (by kernel_rfl) ?_
  refine Go.Great.wpList_readTo rfl (some 46) rfl (.agg #[.int .i64 1, .int .i64 1]) (by kernel_rfl) ?_
  refine Go.Great.wpList_readTo rfl (some 47) rfl (.agg #[.int .i64 2, .int .i64 2]) (by kernel_rfl) ?_
  refine Go.Great.wpList_readTo rfl (some 48) rfl (.agg #[.int .i64 3, .int .i64 3]) (by kernel_rfl) ?_
  refine Go.Great.wpList_readTo rfl (some 49) rfl (.agg #[.int .i64 4, .int .i64 4]) (by kernel_rfl) ?_
  refine Go.Great.wpList_readTo rfl (some 50) rfl (.agg #[.int .i64 5, .int .i64 5]) (by kernel_rfl) ?_
  refine Go.Great.wpList_readTo rfl (some 51) rfl (.agg #[.int .i64 6, .int .i64 6]) (by kernel_rfl) ?_
  refine Go.Great.wpList_readTo rfl (some 52) rfl (.agg #[.int .i64 1, .int .i64 1]) (by kernel_rfl) ?_
  refine Go.Great.wpList_readTo rfl (some 53) rfl (.agg #[.int .i64 2, .int .i64 2]) (by kernel_rfl) ?_
  refine Go.Great.wpList_readTo rfl (some 54) rfl (.agg #[.int .i64 3, .int .i64 3]) (by kernel_rfl) ?_
  refine Go.Great.wpList_readTo rfl (some 55) rfl (.agg #[.int .i64 4, .int .i64 4]) (by kernel_rfl) ?_
  refine Go.Great.wpList_readTo rfl (some 56) rfl (.agg #[.int .i64 0, .int .i64 0]) (by kernel_rfl) ?_
  refine Go.Great.wpList_readTo rfl (some 57) rfl (.agg #[.int .i64 1, .int .i64 1]) (by kernel_rfl) ?_
  refine Go.Great.wpList_readTo rfl (some 58) rfl (.agg #[.int .i64 2, .int .i64 2]) (by kernel_rfl) ?_
  refine Go.Great.wpList_readTo rfl (some 59) rfl (.agg #[.int .i64 3, .int .i64 3]) (by kernel_rfl) ?_
  refine Go.Great.wpList_readTo rfl (some 60) rfl (.agg #[.int .i64 0, .int .i64 0]) (by kernel_rfl) ?_
  refine Go.Great.wpList_readTo rfl (some 61) rfl (.agg #[.int .i64 1, .int .i64 1]) (by kernel_rfl) ?_
  refine Go.Great.wpList_readTo rfl (some 62) rfl (.agg #[.int .i64 2, .int .i64 2]) (by kernel_rfl) ?_
  refine Go.Great.wpList_readTo rfl (some 63) rfl (.agg #[.int .i64 3, .int .i64 3]) (by kernel_rfl) ?_
  refine Go.Great.wpList_readTo rfl (some 64) rfl (.agg #[.int .i64 4, .int .i64 4]) (by kernel_rfl) ?_
  refine Go.Great.wpList_readTo rfl (some 65) rfl (.agg #[.int .i64 5, .int .i64 5]) (by kernel_rfl) ?_
  refine Go.Great.wpList_readTo rfl (some 66) rfl (.agg #[.int .i64 6, .int .i64 6]) (by kernel_rfl) ?_
  refine Go.Great.wpList_readTo rfl (some 67) rfl (.agg #[.int .i64 7, .int .i64 7]) (by kernel_rfl) ?_
  refine Go.Great.wpList_readTo rfl (some 68) rfl (.agg #[.int .i64 8, .int .i64 8]) (by kernel_rfl) ?_
  refine Go.Great.wpList_readTo rfl (some 69) rfl (.agg #[.int .i64 9, .int .i64 9]) (by kernel_rfl) ?_
  refine Go.Great.wpList_readTo rfl (some 70) rfl (.agg #[.int .i64 10, .int .i64 10]) (by kernel_rfl) ?_
  refine Go.Great.wpList_readTo rfl (some 71) rfl (.agg #[.int .i64 11, .int .i64 11]) (by kernel_rfl) ?_
  refine Go.Great.wpList_readTo rfl (some 72) rfl (.agg #[.int .i64 12, .int .i64 12]) (by kernel_rfl) ?_
  refine Go.Great.wpList_readTo rfl (some 73) rfl (.agg #[.int .i64 13, .int .i64 13]) (by kernel_rfl) ?_
  refine Go.Great.wpList_readTo rfl (some 74) rfl (.agg #[.int .i64 0, .int .i64 0]) (by kernel_rfl) ?_
  refine Go.Great.wpList_readTo rfl (some 75) rfl (.agg #[.int .i64 1, .int .i64 1]) (by kernel_rfl) ?_
  refine Go.Great.wpList_readTo rfl (some 76) rfl (.agg #[.int .i64 2, .int .i64 2]) (by kernel_rfl) ?_
  refine Go.Great.wpList_readTo rfl (some 77) rfl (.agg #[.int .i64 3, .int .i64 3]) (by kernel_rfl) ?_
  refine Go.Great.wpList_readTo rfl (some 78) rfl (.agg #[.int .i64 4, .int .i64 4]) (by kernel_rfl) ?_
  refine Go.Great.wpList_readTo rfl (some 79) rfl (.agg #[.int .i64 1, .int .i64 1]) (by kernel_rfl) ?_
  refine Go.Great.wpList_readTo rfl (some 80) rfl (.agg #[.int .i64 2, .int .i64 2]) (by kernel_rfl) ?_
  refine Go.Great.wpList_buildSliceTo rfl 41 44 80 _ rfl w.heap.size rfl (some 81) rfl Tryd.underlying41 (twin tabM).toArray (by kernel_rfl) ?_
  refine Go.Great.wpList_readTo rfl (some 0) rfl (.slice (some ⟨w.heap.size, 0, none⟩) 80 80) (by kernel_rfl) ?_
  apply wpList_nil
  refine hK _ _ ?_
  apply wp_ret
  refine bodyPost_ret (results_tmp rfl _ _ _) rfl ?_
  exact ⟨by kernel_rfl, rfl⟩
end Go.Proofs.YtdgbmogkjnpoeaaDoor
