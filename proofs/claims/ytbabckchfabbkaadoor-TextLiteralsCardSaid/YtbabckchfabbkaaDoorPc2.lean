/-
  The reference's pieces and the model's reading are one.
-/
import Derived.Test.YtbabckchfabbkaaDoorPc
namespace Go.Proofs.YtbabckchfabbkaaDoor
open Go Go.RowKit
open Tx

namespace Tx
/-- the reference's way: a rune and its width, or a stray byte -/
def pcF (f : Nat → Nat) (n : Nat) : Option (Nat × Nat) :=
  if f 0 < 128 then some (f 0, 1)
  else if f 0 < 192 then none
  else if f 0 < 224 then (if 2 ≤ n ∧ 128 ≤ f 1 ∧ f 1 ≤ 191 ∧ 128 ≤ (f 0 - 192) * 64 + (f 1 - 128) then some ((f 0 - 192) * 64 + (f 1 - 128), 2) else none)
  else if f 0 < 240 then (if 3 ≤ n ∧ 128 ≤ f 1 ∧ f 1 ≤ 191 ∧ 128 ≤ f 2 ∧ f 2 ≤ 191 ∧ 2048 ≤ (f 0 - 224) * 4096 + (f 1 - 128) * 64 + (f 2 - 128) ∧ ¬ (55296 ≤ (f 0 - 224) * 4096 + (f 1 - 128) * 64 + (f 2 - 128) ∧ (f 0 - 224) * 4096 + (f 1 - 128) * 64 + (f 2 - 128) ≤ 57343) then some ((f 0 - 224) * 4096 + (f 1 - 128) * 64 + (f 2 - 128), 3) else none)
  else if f 0 < 248 then (if 4 ≤ n ∧ 128 ≤ f 1 ∧ f 1 ≤ 191 ∧ 128 ≤ f 2 ∧ f 2 ≤ 191 ∧ 128 ≤ f 3 ∧ f 3 ≤ 191 ∧ 65536 ≤ (f 0 - 240) * 262144 + (f 1 - 128) * 4096 + (f 2 - 128) * 64 + (f 3 - 128) ∧ (f 0 - 240) * 262144 + (f 1 - 128) * 4096 + (f 2 - 128) * 64 + (f 3 - 128) ≤ 1114111 then some ((f 0 - 240) * 262144 + (f 1 - 128) * 4096 + (f 2 - 128) * 64 + (f 3 - 128), 4) else none)
  else none

set_option maxRecDepth 100000 in
theorem pcF_eq (f : Nat → Nat) (n : Nat) (h0 : f 0 < 256) (h1 : f 1 < 256) (h2 : f 2 < 256) (h3 : f 3 < 256) : pcF f n = if 128 ≤ f 0 ∧ (rd f n).2 = 1 then none else some (rd f n) := by
  unfold pcF rd
  generalize f 0 = b0 at *
  generalize f 1 = b1 at *
  generalize f 2 = b2 at *
  generalize f 3 = b3 at *
  by_cases a0 : b0 < 128
  · simp [a0]
  simp only [a0, if_false]
  have a0' : 128 ≤ b0 := by omega
  by_cases a1 : b0 < 192
  · have e1 : ¬ b0 / 32 = 6 := by omega
    have e2 : ¬ b0 / 16 = 14 := by omega
    have e3 : ¬ b0 / 8 = 30 := by omega
    simp [a1, e1, e2, e3, a0']
  simp only [a1, if_false]
  by_cases a2 : b0 < 224
  · have e1 : b0 / 32 = 6 := by omega
    simp only [a2, if_true, e1]
    by_cases c1 : 1 < n ∧ b1 / 64 = 2
    · have c2 : 2 ≤ n ∧ 128 ≤ b1 ∧ b1 ≤ 191 := by omega
      have r : (b0 - 192) * 64 + (b1 - 128) = b0 % 32 * 64 + b1 % 64 := by omega
      simp only [r]
      by_cases c3 : 128 ≤ b0 % 32 * 64 + b1 % 64
      · simp [c1, c2, c3]
      · simp [c1, c2, c3, a0']
    · have c2 : ¬ (2 ≤ n ∧ 128 ≤ b1 ∧ b1 ≤ 191 ∧ 128 ≤ (b0 - 192) * 64 + (b1 - 128)) := by omega
      rw [if_neg c2]
      have c3 : ¬ (decide (1 < n) && b1 / 64 == 2) = true := by simpa using c1
      simp [c3, a0']
  simp only [a2, if_false]
  have e1 : ¬ b0 / 32 = 6 := by omega
  by_cases a3 : b0 < 240
  · have e2 : b0 / 16 = 14 := by omega
    have e3 : ¬ b0 / 8 = 30 := by omega
    simp only [a3, if_true]
    by_cases c1 : 1 < n ∧ b1 / 64 = 2 ∧ 2 < n ∧ b2 / 64 = 2
    · have c2 : 3 ≤ n ∧ 128 ≤ b1 ∧ b1 ≤ 191 ∧ 128 ≤ b2 ∧ b2 ≤ 191 := by omega
      have r : (b0 - 224) * 4096 + (b1 - 128) * 64 + (b2 - 128) = b0 % 16 * 4096 + b1 % 64 * 64 + b2 % 64 := by omega
      simp only [r]
      have cc : (b0 / 16 == 14 && (decide (1 < n) && b1 / 64 == 2) && (decide (2 < n) && b2 / 64 == 2)) = true := by simp [e2, c1]
      have c0 : ¬ (b0 / 32 == 6 && (decide (1 < n) && b1 / 64 == 2)) = true := by simp [e1]
      rw [if_neg c0, if_pos cc]
      obtain ⟨v, hv⟩ : ∃ v, b0 % 16 * 4096 + b1 % 64 * 64 + b2 % 64 = v := ⟨_, rfl⟩
      have hv2 : v ≤ 65535 := by omega
      simp only [hv]
      clear hv r
      by_cases c3 : 2048 ≤ v ∧ ¬ (55296 ≤ v ∧ v ≤ 57343)
      · have c4 : (decide (v ≥ 2048) && Utf8.valid (v : Int)) = true := by simp [Utf8.valid]; omega
        rw [if_pos ⟨c2.1, c2.2.1, c2.2.2.1, c2.2.2.2.1, c2.2.2.2.2, c3.1, c3.2⟩, if_pos c4]
        simp
      · have c4 : ¬ (decide (v ≥ 2048) && Utf8.valid (v : Int)) = true := by simp [Utf8.valid]; omega
        rw [if_neg (by omega), if_neg c4]
        simp [a0']
    · have c2 : ¬ (3 ≤ n ∧ 128 ≤ b1 ∧ b1 ≤ 191 ∧ 128 ≤ b2 ∧ b2 ≤ 191) := by omega
      have cc : ¬ (b0 / 16 == 14 && (decide (1 < n) && b1 / 64 == 2) && (decide (2 < n) && b2 / 64 == 2)) = true := by simp; omega
      have c0 : ¬ (b0 / 32 == 6 && (decide (1 < n) && b1 / 64 == 2)) = true := by simp [e1]
      have cd : ¬ (b0 / 8 == 30 && (decide (1 < n) && b1 / 64 == 2) && (decide (2 < n) && b2 / 64 == 2) && (decide (3 < n) && b3 / 64 == 2)) = true := by simp [e3]
      rw [if_neg c0, if_neg cc, if_neg cd, if_neg (fun h => c2 ⟨h.1, h.2.1, h.2.2.1, h.2.2.2.1, h.2.2.2.2.1⟩)]
      simp [a0']
  simp only [a3, if_false]
  have e2 : ¬ b0 / 16 = 14 := by omega
  have c0 : ¬ (b0 / 32 == 6 && (decide (1 < n) && b1 / 64 == 2)) = true := by simp [e1]
  have cc : ¬ (b0 / 16 == 14 && (decide (1 < n) && b1 / 64 == 2) && (decide (2 < n) && b2 / 64 == 2)) = true := by simp [e2]
  rw [if_neg c0, if_neg cc]
  by_cases a4 : b0 < 248
  · have e3 : b0 / 8 = 30 := by omega
    simp only [a4, if_true]
    by_cases c1 : 1 < n ∧ b1 / 64 = 2 ∧ 2 < n ∧ b2 / 64 = 2 ∧ 3 < n ∧ b3 / 64 = 2
    · have c2 : 4 ≤ n ∧ 128 ≤ b1 ∧ b1 ≤ 191 ∧ 128 ≤ b2 ∧ b2 ≤ 191 ∧ 128 ≤ b3 ∧ b3 ≤ 191 := by omega
      have r : (b0 - 240) * 262144 + (b1 - 128) * 4096 + (b2 - 128) * 64 + (b3 - 128) = b0 % 8 * 262144 + b1 % 64 * 4096 + b2 % 64 * 64 + b3 % 64 := by omega
      simp only [r]
      have cd : (b0 / 8 == 30 && (decide (1 < n) && b1 / 64 == 2) && (decide (2 < n) && b2 / 64 == 2) && (decide (3 < n) && b3 / 64 == 2)) = true := by simp [e3, c1]
      rw [if_pos cd]
      obtain ⟨v, hv⟩ : ∃ v, b0 % 8 * 262144 + b1 % 64 * 4096 + b2 % 64 * 64 + b3 % 64 = v := ⟨_, rfl⟩
      simp only [hv]
      clear hv r
      by_cases c3 : 65536 ≤ v ∧ v ≤ 1114111
      · have c4 : (decide (v ≥ 65536) && Utf8.valid (v : Int)) = true := by simp [Utf8.valid]; omega
        rw [if_pos ⟨c2.1, c2.2.1, c2.2.2.1, c2.2.2.2.1, c2.2.2.2.2.1, c2.2.2.2.2.2.1, c2.2.2.2.2.2.2, c3.1, c3.2⟩, if_pos c4]
        simp
      · have c4 : ¬ (decide (v ≥ 65536) && Utf8.valid (v : Int)) = true := by simp [Utf8.valid]; omega
        rw [if_neg (by omega), if_neg c4]
        simp [a0']
    · have c2 : ¬ (4 ≤ n ∧ 128 ≤ b1 ∧ b1 ≤ 191 ∧ 128 ≤ b2 ∧ b2 ≤ 191 ∧ 128 ≤ b3 ∧ b3 ≤ 191) := by omega
      have cd : ¬ (b0 / 8 == 30 && (decide (1 < n) && b1 / 64 == 2) && (decide (2 < n) && b2 / 64 == 2) && (decide (3 < n) && b3 / 64 == 2)) = true := by simp; omega
      rw [if_neg cd, if_neg (fun h => c2 ⟨h.1, h.2.1, h.2.2.1, h.2.2.2.1, h.2.2.2.2.1, h.2.2.2.2.2.1, h.2.2.2.2.2.2.1⟩)]
      simp [a0']
  · have e3 : ¬ b0 / 8 = 30 := by omega
    have cd : ¬ (b0 / 8 == 30 && (decide (1 < n) && b1 / 64 == 2) && (decide (2 < n) && b2 / 64 == 2) && (decide (3 < n) && b3 / 64 == 2)) = true := by simp [e3]
    rw [if_neg cd]
    simp [a4, a0']
/-- a piece's number -/
def pcR (s : ByteArray) (i : Nat) : Int := if stray s i then -1 else ((Utf8.decode s i).1 : Int)
theorem pc_of (s : ByteArray) (i : Nat) : pcF (fun k => at' s (i + k)) (s.size - i) = if stray s i then none else some (Utf8.decode s i) := by
  rw [pcF_eq (fun k => at' s (i + k)) (s.size - i) (at_lt _ _) (at_lt _ _) (at_lt _ _) (at_lt _ _), ← decode_eq]
  unfold stray
  simp
theorem pc_none (s : ByteArray) (i : Nat) (h : pcF (fun k => at' s (i + k)) (s.size - i) = none) : pcR s i = -1 ∧ (Utf8.decode s i).2 = 1 := by
  rw [pc_of] at h
  unfold pcR
  cases hs : stray s i with
  | false => rw [hs] at h; simp at h
  | true =>
    unfold stray at hs
    simp at hs
    exact ⟨rfl, hs.2⟩
theorem pc_some (s : ByteArray) (i : Nat) (r n : Nat) (h : pcF (fun k => at' s (i + k)) (s.size - i) = some (r, n)) : pcR s i = (r : Int) ∧ (Utf8.decode s i).2 = n := by
  rw [pc_of] at h
  unfold pcR
  cases hs : stray s i with
  | true => rw [hs] at h; simp at h
  | false =>
    rw [hs] at h
    simp at h
    rw [h]
    exact ⟨rfl, rfl⟩
end Tx
end Go.Proofs.YtbabckchfabbkaaDoor
