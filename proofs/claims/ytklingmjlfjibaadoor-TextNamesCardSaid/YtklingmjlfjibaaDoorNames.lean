/-
  TextNames: the law's walk.
-/
import Derived.Test.YtklingmjlfjibaaDoorNam3
import Derived.OpenShut
namespace Go.Proofs.YtklingmjlfjibaaDoor
open Go Go.RowKit
open Tx

set_option maxRecDepth 100000 in
set_option maxHeartbeats 1000000 in
theorem names_any (s : ByteArray) (n : Int) (w : World) (hR : TabP 1 .i64 lets w) (hT : TabP 0 .i32 lets w) (_hs : s.size ≤ maxLen) (hn : (Lit.int .i64 n).wf = true) :
    Calls Tryd.prog 4 #[.string s, .int .i64 n] w fun e w' => e = .returned (.bool true) ∧ Below w.heap.size w w' := by
  have HT : Hid (∀ w', Below w.heap.size w w' → TabP 0 .i32 lets w') := fun w' hb => hT.kept hb
  have HR : Hid (∀ w', Below w.heap.size w w' → TabP 1 .i64 lets w') := fun w' hb => hR.kept hb
  have hb := bounds_i64 hn
  have hb1 : n < 9223372036854775808 := by omega
  clear hT hR hn hb _hs
  go_enter Tryd.func4, Tryd.ntmps4
  go_wp2_with fail
  refine (cut_any s _).mono ?_
  rintro e w1 ⟨rfl, rfl⟩
  have hS0 := cutT_le s
  generalize cutT s = S at *
  have hS : S.size ≤ 1000000 := by omega
  obtain ⟨A, hA⟩ : ∃ A, nmA S = A := ⟨_, rfl⟩
  have HA : Hid (nmA S = A) := hA
  obtain ⟨V, hV⟩ : ∃ V, vld S 0 = V := ⟨_, rfl⟩
  have HV : Hid (vld S 0 = V) := hV
  obtain ⟨C, hC⟩ : ∃ C, clip S n = C := ⟨_, rfl⟩
  have HC : Hid (clip S n = C) := hC
  clear hA hV hC
  go_wp2_with fail
  refine (name_any S _ hS (HT.out _ (Below.refl _ _))).mono ?_
  rw [HA.out]
  rintro e w2 ⟨rfl, b2⟩
  go_wp2_with fail
  refine (rname_any S _ hS (HR.out _ b2)).mono ?_
  rw [HA.out]
  rintro e w3 ⟨rfl, b3⟩
  have B3 := andThen b2 b3
  clear b2 b3
  go_wp2_with fail
  refine (valid_any S _).mono ?_
  rw [HV.out]
  rintro e w4 ⟨rfl, b4⟩
  have B4 := andThen B3 b4
  clear B3 b4
  go_wp2_with fail
  refine (rvalid_any S _ hS).mono ?_
  rw [HV.out]
  rintro e w5 ⟨rfl, b5⟩
  have B5 := andThen B4 b5
  clear B4 b5
  go_wp2_with fail
  refine (clip_any S n _ hb1).mono ?_
  rw [HC.out]
  rintro e w6 ⟨rfl, b6⟩
  have B6 := andThen B5 b6
  clear B5 b6
  go_wp2_with fail
  refine (rclip_any S n _ hS hb1).mono ?_
  rw [HC.out]
  rintro e w7 ⟨rfl, b7⟩
  have B7 := andThen B6 b7
  clear B6 b7
  go_wp2
  go_ret
  exact ⟨rfl, B7⟩
end Go.Proofs.YtklingmjlfjibaaDoor
