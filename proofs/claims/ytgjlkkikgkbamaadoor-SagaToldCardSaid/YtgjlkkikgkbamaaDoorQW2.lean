import Derived.Test.YtgjlkkikgkbamaaDoorQW1
/-
  The document's answer: annalsref1's Uint, Part, Join, Bytes, Sum.
-/
namespace Go.Proofs.YtgjlkkikgkbamaaDoor
open Go Go.RowKit
open Wb

theorem rseg_snoc (l : List Nat) (lo k : Nat) (h1 : lo ≤ k) (h2 : k < l.length) : (l.take (k + 1)).drop lo = (l.take k).drop lo ++ [l[k]] := by
  rw [List.take_succ_eq_append_getElem h2, List.drop_append_of_le_length (by simp; omega)]

theorem rstep_num (r : Nat) (hr : r < 4294967296) : bits .xor .u32 ((r : Int) / 2) 3988292384 = ((r / 2 ^^^ 3988292384 : Nat) : Int) := by
  rw [show ((r : Int) / 2) = ((r / 2 : Nat) : Int) by omega]
  exact u32_xor_nat (r / 2) 3988292384 (by omega) (by decide)
def stp : Nat → Nat → Nat
  | 0, r => r
  | k + 1, r => Wm.step (stp k r)
theorem stp8 (r c : Nat) : stp 8 (r ^^^ c) = Wm.feed r c := rfl
theorem stp_lt : ∀ k r, r < 4294967296 → stp k r < 4294967296
  | 0, _, h => h
  | k + 1, r, h => Wm.step_lt _ (stp_lt k r h)

end Go.Proofs.YtgjlkkikgkbamaaDoor
