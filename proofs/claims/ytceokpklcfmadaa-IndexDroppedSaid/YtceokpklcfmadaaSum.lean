/-
  wire.Sum: the register over all bytes of all parts.
-/
import Derived.Test.YtceokpklcfmadaaChecked
import Derived.Test.YtceokpklcfmadaaBase
import Derived.Test.YtceokpklcfmadaaCrc
import Derived.WalkSpells
import Derived.WalkLawsBesides
namespace Go.Proofs.Ytceokpklcfmadaa
open Go Go.RowKit
open Wb

/-- the walk's numbers -/
theorem num_x (S c : Nat) (hS : S < 4294967296) (hc : c < 256) : bits .xor .u32 (S : Int) (c : Int) = ((S ^^^ c : Nat) : Int) := u32_xor_nat S c hS (by omega)
theorem num_a (X : Nat) (hX : X < 4294967296) : bits .and .u32 (X : Int) 15 = ((X % 16 : Nat) : Int) := by
  have h := u32_and_nat X 15 hX (by decide)
  have e : X &&& 15 = X % 16 := Nat.and_two_pow_sub_one_eq_mod X 4
  rw [e] at h
  exact h
theorem num_s (X t Y : Nat) (hX : X < 4294967296) (ht : t = Wm.tab.getD (X % 16) 0) (hY : Y = Wm.step4 X) : bits .xor .u32 ((X : Int) / 16) (t : Int) = (Y : Int) := by
  rw [show ((X : Int) / 16) = ((X / 16 : Nat) : Int) by omega, hY, Wm.step4_tab, ← ht]
  have hl : ∀ m, m < 16 → Wm.tab.getD m 0 < 4294967296 := by decide
  exact u32_xor_nat (X / 16) t (by omega) (by rw [ht]; exact hl _ (Nat.mod_lt _ (by decide)))
theorem num_n (R : Nat) (hR : R < 4294967296) : bits .xor .u32 IntKind.u32.max (R : Int) = ((4294967295 ^^^ R : Nat) : Int) := u32_xor_nat 4294967295 R (by decide) hR

end Go.Proofs.Ytceokpklcfmadaa
