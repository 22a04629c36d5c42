/-
  WireSums: the law's walk.
-/
import Derived.Test.YtnglcadhleefiabDoorUpTo
namespace Go.Proofs.YtnglcadhleefiabDoor
open Go Go.RowKit
open Wb

theorem Script.kept {w w' : World} {v : Value} {n : Nat} (h : Script w v n) (hb : Below w.heap.size w w') : Script w' v n := by
  obtain ⟨ao, cap, e, hn, hc⟩ := h
  refine ⟨ao, cap, e, hn, fun k hk => ?_⟩
  obtain ⟨b, off, kd, u, i, a, m, bv, pv, l, ls, e2, hop⟩ := hc k hk
  exact ⟨b, off, kd, u, i, a, m, bv, pv, l, ls, e2, hop.kept hb⟩
theorem crc_a : Wm.crc [[97]].flatten = 3904355907 := by decide +kernel

set_option maxHeartbeats 1000000 in
theorem sums_any (v : Value) (n : Nat) (w : World) (hT : Tab w) (h : Script w v n) :
    Calls Tryd.prog 6 #[v] w fun e w' => e = .returned (.bool true) ∧ Below w.heap.size w w' := by
  have HS : Hid (∀ w', Below w.heap.size w w' → Script w' v n) := fun w' hb => h.kept hb
  have HT : Hid (∀ w', Below w.heap.size w w' → Tab w') := fun w' hb => hT.kept hb
  obtain ⟨ao, cap, rfl, _⟩ := h
  clear hT
  go_enter Tryd.func6, Tryd.ntmps6
  go_wp2_with fail
  have B2 : Below w.heap.size w ((w.alloc (.cells #[.int .u8 97] 5)).alloc (.cells #[.slice (some ⟨w.heap.size, 0, none⟩) 1 1] 25)) := up (up0 w _) _
  refine (sum_any _ [[97]] _ (HT.out _ B2) (ps1 _ _ (box_size w _).symm _ (Bs.one w 97 (by decide) _ rfl))).mono ?_
  rw [crc_a]
  rintro e w1 ⟨rfl, rfl⟩
  have HU := HS.out _ B2
  have HTU := HT.out _ B2
  clear HS HT
  generalize ((w.alloc (.cells #[.int .u8 97] 5)).alloc (.cells #[.slice (some ⟨w.heap.size, 0, none⟩) 1 1] 25)) = w2 at *
  go_wp2_with fail
  refine (upTo_sum _ n _ HTU HU).mono ?_
  rintro e w3 ⟨rfl, b3⟩
  have hb3 := andThen B2 b3
  clear B2 b3 HU HTU
  go_wp2
  go_ret
  exact ⟨rfl, hb3⟩
end Go.Proofs.YtnglcadhleefiabDoor
