/-
  Package text: escapedRune.
-/
import Derived.Test.YtbabckchfabbkaaDoorIrn3
namespace Go.Proofs.YtbabckchfabbkaaDoor
open Go Go.RowKit Go.Lib
open Tx

theorem dec_low (s : ByteArray) (i : Nat) (h : (Utf8.decode s i).1 < 128) : (Utf8.decode s i).2 = 1 := by
  revert h
  unfold Utf8.decode
  dsimp only [Utf8.runeError]
  repeat' split
  all_goals (intro h; first | rfl | (exfalso; simp_all; omega))
theorem dec_valid (s : ByteArray) (i : Nat) : Utf8.valid ((Utf8.decode s i).1 : Int) = true := by
  unfold Utf8.decode
  dsimp only [Utf8.runeError]
  have h0 : (s.get! (i + 0)).toNat < 256 := (s.get! (i + 0)).toNat_lt
  have h1 : (s.get! (i + 1)).toNat < 256 := (s.get! (i + 1)).toNat_lt
  repeat' split
  all_goals first | decide | (simp_all [Utf8.valid]; done) | (simp_all [Utf8.valid]; omega)
/-- what escapedRune reads behind its brace -/
def Tx.erL (t : ByteArray) (p v : Nat) : ByteArray × Nat :=
  if _h : p < t.size then
    if (Utf8.decode t p).1 = 125 ∧ 0 < p ∧ Utf8.valid (v : Int) = true then (Utf8.encode (v : Int), p + 4)
    else match hv (Utf8.decode t p).1 with
      | none => (⟨#[]⟩, 0)
      | some d => if p = 6 then (⟨#[]⟩, 0) else erL t (p + 1) (v * 16 + d)
  else (⟨#[]⟩, 0)
termination_by t.size - p
theorem hvi_some {r d : Nat} (h : hv r = some d) : hvi r = (d : Int) := by unfold hvi; rw [h]; rfl
theorem hvi_none {r : Nat} (h : hv r = none) : hvi r = -1 := by unfold hvi; rw [h]; rfl
theorem hv_low {r d : Nat} (h : hv r = some d) : r < 128 := by
  unfold hv at h
  split at h
  · omega
  · split at h
    · omega
    · simp at h
theorem shl4or32 (x d : Int) (h0 : 0 ≤ x) (h1 : x < 1048576) (h2 : 0 ≤ d) (h3 : d < 16) : bits .or .i32 (x * 16) d = x * 16 + d := by
  obtain ⟨X, rfl⟩ := Int.eq_ofNat_of_zero_le h0
  obtain ⟨D, rfl⟩ := Int.eq_ofNat_of_zero_le h2
  have hb : D < 2 ^ 4 := by omega
  have e : (X * 16) ||| D = X * 16 + D := by
    have := Nat.two_pow_add_eq_or_of_lt hb X
    rw [Nat.mul_comm X 16]
    exact this.symm
  show IntKind.i32.wrap ((BitVec.ofInt 32 ((X : Int) * 16) ||| BitVec.ofInt 32 (D : Int)).toNat : Int) = _
  have e1 : (BitVec.ofInt 32 ((X : Int) * 16)).toNat = X * 16 := by
    rw [BitVec.toNat_ofInt]
    omega
  have e2 : (BitVec.ofInt 32 (D : Int)).toNat = D := by
    rw [BitVec.toNat_ofInt]
    omega
  rw [BitVec.toNat_or, e1, e2, e]
  simp [IntKind.wrap, IntKind.bits, IntKind.signed]
  omega
end Go.Proofs.YtbabckchfabbkaaDoor
