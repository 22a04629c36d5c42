/-
  wire: ReadUint.
-/
import Derived.Test.YtjepeeopjjnglaaWalk3
namespace Go.Proofs.Ytjepeeopjjnglaa
open Go Go.RowKit
open Wb

def tup3 (a : Nat) (b : Int) (c : Nat) : Value := .tuple #[.int .u64 (a : Int), .int .i64 b, .int .i64 (c : Int)]

theorem and127 (c : Nat) (hc : c < 256) : bits .and .u8 (c : Int) 127 = ((c % 128 : Nat) : Int) := by
  have h0 := u8_and_nat c 127 hc (by decide)
  have e : c &&& 127 = c % 128 := Nat.and_two_pow_sub_one_eq_mod c 7
  rw [e] at h0
  exact h0
theorem shift_or (acc c j : Nat) (hc : c < 256) (hacc : acc < 2 ^ (7 * j)) (hj : j ≤ 9) (h9 : j = 9 → c ≤ 1) :
    bits .or .u64 (acc : Int) (IntKind.u64.wrap (IntKind.u64.wrap (bits .and .u8 (c : Int) 127) * 2 ^ (7 * j))) = ((acc + c % 128 * 2 ^ (7 * j) : Nat) : Int) := by
  rw [and127 c hc]
  have hlt : c % 128 * 2 ^ (7 * j) < 18446744073709551616 := by
    by_cases h : j = 9
    · have := h9 h
      subst h
      have h3 : c % 128 ≤ 1 := by omega
      exact Nat.lt_of_le_of_lt (Nat.mul_le_mul_right (2 ^ (7 * 9)) h3) (by decide)
    · have h1 : 2 ^ (7 * j) ≤ 2 ^ (7 * 8) := Nat.pow_le_pow_right (by decide) (by omega)
      have h2 : c % 128 * 2 ^ (7 * j) ≤ 127 * 2 ^ (7 * 8) := Nat.mul_le_mul (by omega) h1
      exact Nat.lt_of_le_of_lt h2 (by decide)
  have hal : acc < 18446744073709551616 := by
    have h1 : 2 ^ (7 * j) ≤ 2 ^ (7 * 9) := Nat.pow_le_pow_right (by decide) (by omega)
    exact Nat.lt_trans (Nat.lt_of_lt_of_le hacc h1) (by decide)
  have w1 : IntKind.u64.wrap ((c % 128 : Nat) : Int) = ((c % 128 : Nat) : Int) := by rw [IntKind.wrap_u64]; omega
  have cast : ((c % 128 : Nat) : Int) * 2 ^ (7 * j) = ((c % 128 * 2 ^ (7 * j) : Nat) : Int) := by
    rw [Int.natCast_mul, Int.natCast_pow]
    rfl
  rw [w1, cast]
  have w2 : IntKind.u64.wrap ((c % 128 * 2 ^ (7 * j) : Nat) : Int) = ((c % 128 * 2 ^ (7 * j) : Nat) : Int) := by
    rw [IntKind.wrap_u64]
    omega
  rw [w2, u64_or_nat acc _ hal hlt, or_add (7 * j) acc (c % 128) hacc]

end Go.Proofs.Ytjepeeopjjnglaa
