/-
  Package text: the answer of Name.
-/
import Derived.Test.YtioghecmnggehaaDoorNm
import Derived.Test.YtioghecmnggehaaDoorItr
namespace Go.Proofs.YtioghecmnggehaaDoor.Text
open Go Go.RowKit
open Tx

namespace Tx
/-- Name from the n-th rune on, at p -/
def nmE (s : ByteArray) (n p : Nat) : Int × Int :=
  if _h : p < s.size then
    (if 48 ≤ n then (23, (p : Int))
     else if stray s p then (21, (p : Int))
     else if (p = 0 ∧ among lets ((Utf8.decode s p).1 : Int) = false) ∨ nmR ((Utf8.decode s p).1 : Int) = false then (22, (p : Int))
     else nmE s (n + 1) (p + (Utf8.decode s p).2))
  else (0, 0)
termination_by s.size - p
decreasing_by
  have := decode_fits s p (by assumption)
  omega
theorem nmE_out (s : ByteArray) (n p : Nat) (h : ¬ p < s.size) : nmE s n p = (0, 0) := by rw [nmE, dif_neg h]
theorem nmE_long (s : ByteArray) (n p : Nat) (h : p < s.size) (hn : 48 ≤ n) : nmE s n p = (23, (p : Int)) := by rw [nmE, dif_pos h, if_pos hn]
theorem nmE_stray (s : ByteArray) (n p : Nat) (h : p < s.size) (hn : ¬ 48 ≤ n) (hs : stray s p = true) : nmE s n p = (21, (p : Int)) := by rw [nmE, dif_pos h, if_neg hn, if_pos hs]
theorem nmE_bad (s : ByteArray) (n p : Nat) (h : p < s.size) (hn : ¬ 48 ≤ n) (hs : stray s p = false) (hb : (p = 0 ∧ among lets ((Utf8.decode s p).1 : Int) = false) ∨ nmR ((Utf8.decode s p).1 : Int) = false) : nmE s n p = (22, (p : Int)) := by
  rw [nmE, dif_pos h, if_neg hn, if_neg (by simp [hs]), if_pos hb]
theorem nmE_step (s : ByteArray) (n p : Nat) (h : p < s.size) (hn : ¬ 48 ≤ n) (hs : stray s p = false) (hb : ¬ ((p = 0 ∧ among lets ((Utf8.decode s p).1 : Int) = false) ∨ nmR ((Utf8.decode s p).1 : Int) = false)) : nmE s n p = nmE s (n + 1) (p + (Utf8.decode s p).2) := by
  rw [nmE, dif_pos h, if_neg hn, if_neg (by simp [hs]), if_neg hb]
theorem stray_rune (s : ByteArray) (p : Nat) (h : stray s p = true) : (Utf8.decode s p).1 = 65533 := by
  rw [stray_eq] at h
  simp at h
  exact h.1
theorem nmR_no : nmR 65533 = false := by decide +kernel
/-- the answer of Name -/
def nmA (s : ByteArray) : Int × Int := if s.size = 0 then (20, 0) else nmE s 0 0
end Tx
end Go.Proofs.YtioghecmnggehaaDoor.Text
