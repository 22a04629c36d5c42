/-
  Of the law package: stretches at a Sum.
-/
import Derived.Test.YtdoclmkldfemhaaDoorPlays2
namespace Go.Proofs.YtdoclmkldfemhaaDoor
open Go Go.RowKit
open Wb

set_option maxHeartbeats 1000000 in
theorem stretches_sum (u i a m : Int) (bv pv : Value) (ls : List (List Nat)) (w : World) (hT : Tab w) (h : Ps w pv ls) (hlen : ls.flatten.length ≤ 140737488355328) :
    Calls Tryd.prog 11 #[.agg #[.int .i64 7, .int .u64 u, .int .i64 i, .int .i64 a, .int .i64 m, bv, pv]] w fun e w' => e = .returned (.bool true) ∧ Below w.heap.size w w' := by
  have HP : Hid (∀ o, Ps (w.alloc o) pv ls) := fun o => h.kept (up0 _ _)
  have HT : Hid (∀ o, Tab (w.alloc o)) := fun o => hT.kept (up0 _ _)
  clear h hT
  go_enter Tryd.func11, Tryd.ntmps11
  go_wp2_with fail
  refine (sum_any _ ls _ (HT.out _) (HP.out _)).mono ?_
  rintro e w1 ⟨rfl, rfl⟩
  generalize hf : ls.flatten = f at *
  have HF : Hid (ls.flatten = f) := hf
  clear hf
  go_wp2_with fail
  refine (rjoin_any _ ls _ (HP.out _) (by rw [HF.out]; exact hlen)).mono ?_
  rw [HF.out]
  rintro e w2 ⟨v2, rfl, ho2, b2⟩
  have hb2 := andThen (up0 w _) b2
  obtain ⟨ao2, cap2, rfl, _⟩ := ho2.bs.shape
  have ho3 := ho2.bs
  clear ho2 b2
  go_wp2_with fail
  refine (rsum_any _ f _ ho3).mono ?_
  rintro e w3 ⟨rfl, rfl⟩
  go_wp2
  go_ret
  exact ⟨rfl, hb2⟩
end Go.Proofs.YtdoclmkldfemhaaDoor
