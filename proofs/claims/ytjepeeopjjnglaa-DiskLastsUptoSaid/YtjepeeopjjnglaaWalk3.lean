/-
  wire: Uint, ReadUint.
-/
import Derived.Test.YtjepeeopjjnglaaWalk2
namespace Go.Proofs.Ytjepeeopjjnglaa
open Go Go.RowKit
open Wb

theorem or128 (u : Nat) : bits .or .u8 ((u : Int) % 256) 128 = ((128 + u % 128 : Nat) : Int) := by
  rw [show ((u : Int) % 256) = ((u % 256 : Nat) : Int) by omega]
  have h0 := u8_or_nat (u % 256) 128 (by omega) (by decide)
  refine h0.trans ?_
  congr 1
  have h : (u % 256) ||| 128 = 128 + u % 128 := by
    have e : u % 256 = u % 128 + (u / 128 % 2) * 2 ^ 7 := by omega
    have hb : u % 128 < 2 ^ 7 := by omega
    rcases Nat.mod_two_eq_zero_or_one (u / 128) with h0 | h0
    · rw [e, h0]
      have := or_add 7 (u % 128) 1 hb
      simp at this ⊢
      omega
    · rw [e, h0, Nat.one_mul, ← Nat.one_mul (2 ^ 7), ← or_add 7 (u % 128) 1 hb, Nat.or_assoc]
      have e2 : (1 * 2 ^ 7 ||| 128 : Nat) = 1 * 2 ^ 7 := by decide
      rw [e2, or_add 7 (u % 128) 1 hb]
      omega
  exact h

end Go.Proofs.Ytjepeeopjjnglaa
