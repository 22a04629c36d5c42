/-
  wire: readSum, own, bodySize, Uint.
-/
import Derived.Test.YtjepeeopjjnglaaWalk1
import Derived.Laws.BitsAllLaws
namespace Go.Proofs.Ytjepeeopjjnglaa
open Go Go.RowKit
open Wb

theorem or_add (k a b : Nat) (ha : a < 2 ^ k) : a ||| (b * 2 ^ k) = a + b * 2 ^ k := by
  rw [Nat.mul_comm, Nat.or_comm, ← Nat.two_pow_add_eq_or_of_lt ha, Nat.add_comm]
theorem or4 (a b c d : Nat) (g0 : a < 256) (g1 : b < 256) (g2 : c < 256) (g3 : d < 256) :
    bits BinOp.or IntKind.u32 (bits BinOp.or IntKind.u32 (bits BinOp.or IntKind.u32 (a : Int) ((b : Int) * 256)) ((c : Int) * 65536)) ((d : Int) * 16777216) = ((a + 256 * b + 65536 * c + 16777216 * d : Nat) : Int) := by
  rw [show ((b : Int) * 256) = ((b * 2 ^ 8 : Nat) : Int) by omega, u32_or_nat a (b * 2 ^ 8) (by omega) (by omega), or_add 8 a b g0,
    show ((c : Int) * 65536) = ((c * 2 ^ 16 : Nat) : Int) by omega, u32_or_nat _ (c * 2 ^ 16) (by omega) (by omega), or_add 16 (a + b * 2 ^ 8) c (by omega),
    show ((d : Int) * 16777216) = ((d * 2 ^ 24 : Nat) : Int) by omega, u32_or_nat _ (d * 2 ^ 24) (by omega) (by omega), or_add 24 (a + b * 2 ^ 8 + c * 2 ^ 16) d (by omega)]
  omega

end Go.Proofs.Ytjepeeopjjnglaa
