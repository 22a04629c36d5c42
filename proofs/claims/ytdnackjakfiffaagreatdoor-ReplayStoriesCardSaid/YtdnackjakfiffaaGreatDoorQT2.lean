import Derived.LoopN
import Derived.Handy
import Derived.Laws.AppendOwnNone
import Derived.Maps.AppendAt
import Derived.WalkSpells
import Derived.WalkLawsBesides
import Derived.Test.YtdnackjakfiffaaGreatDoorQT1
/-
  The reference's pieces: what stands at a place.
-/
namespace Go.Proofs.YtdnackjakfiffaaGreatDoor.Text
open Go Go.RowKit
open Tx

theorem two_new (w : World) (o p : Obj) : ((w.alloc o).alloc p).heap[w.heap.size]? = some o := by
  show ((w.heap.push o).push p)[w.heap.size]? = some o
  rw [Array.getElem?_push_lt (by simp)]
  simp
theorem up2 (w : World) (o p : Obj) : Below w.heap.size w ((w.alloc o).alloc p) := up (up0 w o) p


end Go.Proofs.YtdnackjakfiffaaGreatDoor.Text

/-
  The reference's pieces and the model's reading are one.
-/
namespace Go.Proofs.YtdnackjakfiffaaGreatDoor.Text
open Go Go.RowKit
open Tx

namespace Tx
/-- the reference's way: a rune and its width, or a stray byte -/
def pcF (f : Nat → Nat) (n : Nat) : Option (Nat × Nat) :=
  if f 0 < 128 then some (f 0, 1)
  else if f 0 < 192 then none
  else if f 0 < 224 then (if 2 ≤ n ∧ 128 ≤ f 1 ∧ f 1 ≤ 191 ∧ 128 ≤ (f 0 - 192) * 64 + (f 1 - 128) then some ((f 0 - 192) * 64 + (f 1 - 128), 2) else none)
  else if f 0 < 240 then (if 3 ≤ n ∧ 128 ≤ f 1 ∧ f 1 ≤ 191 ∧ 128 ≤ f 2 ∧ f 2 ≤ 191 ∧ 2048 ≤ (f 0 - 224) * 4096 + (f 1 - 128) * 64 + (f 2 - 128) ∧ ¬ (55296 ≤ (f 0 - 224) * 4096 + (f 1 - 128) * 64 + (f 2 - 128) ∧ (f 0 - 224) * 4096 + (f 1 - 128) * 64 + (f 2 - 128) ≤ 57343) then some ((f 0 - 224) * 4096 + (f 1 - 128) * 64 + (f 2 - 128), 3) else none)
  else if f 0 < 248 then (if 4 ≤ n ∧ 128 ≤ f 1 ∧ f 1 ≤ 191 ∧ 128 ≤ f 2 ∧ f 2 ≤ 191 ∧ 128 ≤ f 3 ∧ f 3 ≤ 191 ∧ 65536 ≤ (f 0 - 240) * 262144 + (f 1 - 128) * 4096 + (f 2 - 128) * 64 + (f 3 - 128) ∧ (f 0 - 240) * 262144 + (f 1 - 128) * 4096 + (f 2 - 128) * 64 + (f 3 - 128) ≤ 1114111 then some ((f 0 - 240) * 262144 + (f 1 - 128) * 4096 + (f 2 - 128) * 64 + (f 3 - 128), 4) else none)
  else none

set_option maxRecDepth 100000 in
theorem pcF_eq (f : Nat → Nat) (n : Nat) (h0 : f 0 < 256) (h1 : f 1 < 256) (h2 : f 2 < 256) (h3 : f 3 < 256) : pcF f n = if 128 ≤ f 0 ∧ (rd f n).2 = 1 then none else some (rd f n) := by
  unfold pcF rd
  generalize f 0 = b0 at *
  generalize f 1 = b1 at *
  generalize f 2 = b2 at *
  generalize f 3 = b3 at *
  by_cases a0 : b0 < 128
  · simp [a0]
  simp only [a0, if_false]
  have a0' : 128 ≤ b0 := by omega
  by_cases a1 : b0 < 192
  · have e1 : ¬ b0 / 32 = 6 := by omega
    have e2 : ¬ b0 / 16 = 14 := by omega
    have e3 : ¬ b0 / 8 = 30 := by omega
    simp [a1, e1, e2, e3, a0']
  simp only [a1, if_false]
  by_cases a2 : b0 < 224
  · have e1 : b0 / 32 = 6 := by omega
    simp only [a2, if_true, e1]
    by_cases c1 : 1 < n ∧ b1 / 64 = 2
    · have c2 : 2 ≤ n ∧ 128 ≤ b1 ∧ b1 ≤ 191 := by omega
      have r : (b0 - 192) * 64 + (b1 - 128) = b0 % 32 * 64 + b1 % 64 := by omega
      simp only [r]
      by_cases c3 : 128 ≤ b0 % 32 * 64 + b1 % 64
      · simp [c1, c2, c3]
      · simp [c1, c2, c3, a0']
    · have c2 : ¬ (2 ≤ n ∧ 128 ≤ b1 ∧ b1 ≤ 191 ∧ 128 ≤ (b0 - 192) * 64 + (b1 - 128)) := by omega
      rw [if_neg c2]
      have c3 : ¬ (decide (1 < n) && b1 / 64 == 2) = true := by simpa using c1
      simp [c3, a0']
  simp only [a2, if_false]
  have e1 : ¬ b0 / 32 = 6 := by omega
  by_cases a3 : b0 < 240
  · have e2 : b0 / 16 = 14 := by omega
    have e3 : ¬ b0 / 8 = 30 := by omega
    simp only [a3, if_true]
    by_cases c1 : 1 < n ∧ b1 / 64 = 2 ∧ 2 < n ∧ b2 / 64 = 2
    · have c2 : 3 ≤ n ∧ 128 ≤ b1 ∧ b1 ≤ 191 ∧ 128 ≤ b2 ∧ b2 ≤ 191 := by omega
      have r : (b0 - 224) * 4096 + (b1 - 128) * 64 + (b2 - 128) = b0 % 16 * 4096 + b1 % 64 * 64 + b2 % 64 := by omega
      simp only [r]
      have cc : (b0 / 16 == 14 && (decide (1 < n) && b1 / 64 == 2) && (decide (2 < n) && b2 / 64 == 2)) = true := by simp [e2, c1]
      have c0 : ¬ (b0 / 32 == 6 && (decide (1 < n) && b1 / 64 == 2)) = true := by simp [e1]
      rw [if_neg c0, if_pos cc]
      obtain ⟨v, hv⟩ : ∃ v, b0 % 16 * 4096 + b1 % 64 * 64 + b2 % 64 = v := ⟨_, rfl⟩
      have hv2 : v ≤ 65535 := by omega
      simp only [hv]
      clear hv r
      by_cases c3 : 2048 ≤ v ∧ ¬ (55296 ≤ v ∧ v ≤ 57343)
      · have c4 : (decide (v ≥ 2048) && Utf8.valid (v : Int)) = true := by simp [Utf8.valid]; omega
        rw [if_pos ⟨c2.1, c2.2.1, c2.2.2.1, c2.2.2.2.1, c2.2.2.2.2, c3.1, c3.2⟩, if_pos c4]
        simp
      · have c4 : ¬ (decide (v ≥ 2048) && Utf8.valid (v : Int)) = true := by simp [Utf8.valid]; omega
        rw [if_neg (by omega), if_neg c4]
        simp [a0']
    · have c2 : ¬ (3 ≤ n ∧ 128 ≤ b1 ∧ b1 ≤ 191 ∧ 128 ≤ b2 ∧ b2 ≤ 191) := by omega
      have cc : ¬ (b0 / 16 == 14 && (decide (1 < n) && b1 / 64 == 2) && (decide (2 < n) && b2 / 64 == 2)) = true := by simp; omega
      have c0 : ¬ (b0 / 32 == 6 && (decide (1 < n) && b1 / 64 == 2)) = true := by simp [e1]
      have cd : ¬ (b0 / 8 == 30 && (decide (1 < n) && b1 / 64 == 2) && (decide (2 < n) && b2 / 64 == 2) && (decide (3 < n) && b3 / 64 == 2)) = true := by simp [e3]
      rw [if_neg c0, if_neg cc, if_neg cd, if_neg (fun h => c2 ⟨h.1, h.2.1, h.2.2.1, h.2.2.2.1, h.2.2.2.2.1⟩)]
      simp [a0']
  simp only [a3, if_false]
  have e2 : ¬ b0 / 16 = 14 := by omega
  have c0 : ¬ (b0 / 32 == 6 && (decide (1 < n) && b1 / 64 == 2)) = true := by simp [e1]
  have cc : ¬ (b0 / 16 == 14 && (decide (1 < n) && b1 / 64 == 2) && (decide (2 < n) && b2 / 64 == 2)) = true := by simp [e2]
  rw [if_neg c0, if_neg cc]
  by_cases a4 : b0 < 248
  · have e3 : b0 / 8 = 30 := by omega
    simp only [a4, if_true]
    by_cases c1 : 1 < n ∧ b1 / 64 = 2 ∧ 2 < n ∧ b2 / 64 = 2 ∧ 3 < n ∧ b3 / 64 = 2
    · have c2 : 4 ≤ n ∧ 128 ≤ b1 ∧ b1 ≤ 191 ∧ 128 ≤ b2 ∧ b2 ≤ 191 ∧ 128 ≤ b3 ∧ b3 ≤ 191 := by omega
      have r : (b0 - 240) * 262144 + (b1 - 128) * 4096 + (b2 - 128) * 64 + (b3 - 128) = b0 % 8 * 262144 + b1 % 64 * 4096 + b2 % 64 * 64 + b3 % 64 := by omega
      simp only [r]
      have cd : (b0 / 8 == 30 && (decide (1 < n) && b1 / 64 == 2) && (decide (2 < n) && b2 / 64 == 2) && (decide (3 < n) && b3 / 64 == 2)) = true := by simp [e3, c1]
      rw [if_pos cd]
      obtain ⟨v, hv⟩ : ∃ v, b0 % 8 * 262144 + b1 % 64 * 4096 + b2 % 64 * 64 + b3 % 64 = v := ⟨_, rfl⟩
      simp only [hv]
      clear hv r
      by_cases c3 : 65536 ≤ v ∧ v ≤ 1114111
      · have c4 : (decide (v ≥ 65536) && Utf8.valid (v : Int)) = true := by simp [Utf8.valid]; omega
        rw [if_pos ⟨c2.1, c2.2.1, c2.2.2.1, c2.2.2.2.1, c2.2.2.2.2.1, c2.2.2.2.2.2.1, c2.2.2.2.2.2.2, c3.1, c3.2⟩, if_pos c4]
        simp
      · have c4 : ¬ (decide (v ≥ 65536) && Utf8.valid (v : Int)) = true := by simp [Utf8.valid]; omega
        rw [if_neg (by omega), if_neg c4]
        simp [a0']
    · have c2 : ¬ (4 ≤ n ∧ 128 ≤ b1 ∧ b1 ≤ 191 ∧ 128 ≤ b2 ∧ b2 ≤ 191 ∧ 128 ≤ b3 ∧ b3 ≤ 191) := by omega
      have cd : ¬ (b0 / 8 == 30 && (decide (1 < n) && b1 / 64 == 2) && (decide (2 < n) && b2 / 64 == 2) && (decide (3 < n) && b3 / 64 == 2)) = true := by simp; omega
      rw [if_neg cd, if_neg (fun h => c2 ⟨h.1, h.2.1, h.2.2.1, h.2.2.2.1, h.2.2.2.2.1, h.2.2.2.2.2.1, h.2.2.2.2.2.2.1⟩)]
      simp [a0']
  · have e3 : ¬ b0 / 8 = 30 := by omega
    have cd : ¬ (b0 / 8 == 30 && (decide (1 < n) && b1 / 64 == 2) && (decide (2 < n) && b2 / 64 == 2) && (decide (3 < n) && b3 / 64 == 2)) = true := by simp [e3]
    rw [if_neg cd]
    simp [a4, a0']
/-- a piece's number -/
def pcR (s : ByteArray) (i : Nat) : Int := if stray s i then -1 else ((Utf8.decode s i).1 : Int)
theorem pc_of (s : ByteArray) (i : Nat) : pcF (fun k => at' s (i + k)) (s.size - i) = if stray s i then none else some (Utf8.decode s i) := by
  rw [pcF_eq (fun k => at' s (i + k)) (s.size - i) (at_lt _ _) (at_lt _ _) (at_lt _ _) (at_lt _ _), ← decode_eq]
  unfold stray
  simp
theorem pc_none (s : ByteArray) (i : Nat) (h : pcF (fun k => at' s (i + k)) (s.size - i) = none) : pcR s i = -1 ∧ (Utf8.decode s i).2 = 1 := by
  rw [pc_of] at h
  unfold pcR
  cases hs : stray s i with
  | false => rw [hs] at h; simp at h
  | true =>
    unfold stray at hs
    simp at hs
    exact ⟨rfl, hs.2⟩
theorem pc_some (s : ByteArray) (i : Nat) (r n : Nat) (h : pcF (fun k => at' s (i + k)) (s.size - i) = some (r, n)) : pcR s i = (r : Int) ∧ (Utf8.decode s i).2 = n := by
  rw [pc_of] at h
  unfold pcR
  cases hs : stray s i with
  | true => rw [hs] at h; simp at h
  | false =>
    rw [hs] at h
    simp at h
    rw [h]
    exact ⟨rfl, rfl⟩
end Tx
end Go.Proofs.YtdnackjakfiffaaGreatDoor.Text

/-
  piece: all cases together; Pieces.
-/
namespace Go.Proofs.YtdnackjakfiffaaGreatDoor.Text
open Go Go.RowKit
open Tx

end Go.Proofs.YtdnackjakfiffaaGreatDoor.Text

/-
  The reference's Pieces: a list of pieces in a row of its own.
-/
namespace Go.Proofs.YtdnackjakfiffaaGreatDoor.Text
open Go Go.RowKit
open Tx

namespace Tx
/-- where the pieces from p on begin -/
def pcs (s : ByteArray) (p : Nat) : List Nat := if _h : p < s.size then p :: pcs s (p + (Utf8.decode s p).2) else []
termination_by s.size - p
decreasing_by
  have := decode_fits s p (by assumption)
  omega
theorem pcs_in (s : ByteArray) (p : Nat) (h : p < s.size) : pcs s p = p :: pcs s (p + (Utf8.decode s p).2) := by rw [pcs, dif_pos h]
theorem pcs_out (s : ByteArray) (p : Nat) (h : ¬ p < s.size) : pcs s p = [] := by rw [pcs, dif_neg h]
def cell3 (s : ByteArray) (q : Nat) : List Value := [.int .i64 (pcR s q), .int .i64 (q : Int), .int .i64 ((Utf8.decode s q).2 : Int)]
theorem cells_len (s : ByteArray) (qs : List Nat) : (qs.flatMap (cell3 s)).length = qs.length * 3 := by
  induction qs with
  | nil => rfl
  | cons q qs ih =>
    rw [List.flatMap_cons, List.length_append, ih, List.length_cons]
    show 3 + qs.length * 3 = (qs.length + 1) * 3
    omega
theorem cells_get (s : ByteArray) : ∀ (qs : List Nat) (k : Nat) (h : k < qs.length) (j : Nat), j < 3 → (qs.flatMap (cell3 s))[k * 3 + j]? = (cell3 s qs[k])[j]?
  | q :: qs, 0, _, j, hj => by
    rw [List.flatMap_cons, List.getElem?_append_left (by show 0 * 3 + j < 3; omega)]
    simp
  | q :: qs, k + 1, h, j, hj => by
    rw [List.flatMap_cons, List.getElem?_append_right (by show 3 ≤ _; omega)]
    have := cells_get s qs k (by simpa using h) j hj
    rw [show (k + 1) * 3 + j - (cell3 s q).length = k * 3 + j by show (k + 1) * 3 + j - 3 = _; omega]
    simpa using this
end Tx

theorem three_new (w : World) (o : Obj) (a b c : Value) (t : TypeId) : ∀ j u, [a, b, c][j]? = some u → ((w.alloc o).alloc (.cells #[a, b, c] t)).cell? ⟨w.heap.size + 1, j, none⟩ = some u := by
  intro j u hj
  have e : w.heap.size + 1 = (w.alloc o).heap.size := by
    show w.heap.size + 1 = (w.heap.push o).size
    simp
  rw [e, World.cell?_alloc_new (w.alloc o) _ _ j, ← Array.getElem?_toList]
  exact hj
theorem box3 (w w' : World) (p : Obj) (a b c : Value) (t : TypeId) (g0 : Option Nat) (h : ((w.alloc (.cells #[a, b, c] t)).alloc p).grownBy w' g0) (hg : ∀ k, g0 = some k → k < w.heap.size) :
    w'.cell? ⟨w.heap.size, 0, none⟩ = some a ∧ w'.cell? ⟨w.heap.size, 1, none⟩ = some b ∧ w'.cell? ⟨w.heap.size, 2, none⟩ = some c := by
  have h1 := two_new w (.cells #[a, b, c] t) p
  have h2 : w'.heap[w.heap.size]? = some (.cells #[a, b, c] t) := by
    rw [h.block w.heap.size (Array.getElem?_eq_some_iff.1 h1).1 (fun e => by have := hg w.heap.size e.symm; omega)]
    exact h1
  simp [World.cell?, h2]

end Go.Proofs.YtdnackjakfiffaaGreatDoor.Text

/-
  Package text: Name; the reference's Valid, Clip, Name.
-/
namespace Go.Proofs.YtdnackjakfiffaaGreatDoor.Text
open Go Go.RowKit
open Tx

namespace Tx
theorem pcs_get (s : ByteArray) : ∀ (n p : Nat), p ≤ s.size → (∀ h : n < (pcs s p).length, (pcs s p)[n] = offs s n p) ∧ ((pcs s p).length ≤ n → offs s n p = s.size)
  | 0, p, hp => by
    by_cases h : p < s.size
    · simp only [pcs_in s p h]
      refine ⟨fun _ => rfl, fun hl => by simp at hl⟩
    · simp only [pcs_out s p h]
      exact ⟨fun h => absurd h (by simp), fun _ => by show p = s.size; omega⟩
  | n + 1, p, hp => by
    by_cases h : p < s.size
    · have ih := pcs_get s n (p + (Utf8.decode s p).2) (decode_fits s p h).2.1
      simp only [pcs_in s p h, offs, if_pos h]
      exact ⟨fun hl => ih.1 (by simpa using hl), fun hl => ih.2 (by simpa using hl)⟩
    · simp only [pcs_out s p h]
      exact ⟨fun h => absurd h (by simp), fun _ => by rw [offs_end s (n + 1) p h]; omega⟩
theorem pcs_len (s : ByteArray) : ∀ (k p : Nat), s.size - p ≤ k → (pcs s p).length ≤ s.size - p
  | k, p, hk => by
    by_cases h : p < s.size
    · have hf := decode_fits s p h
      rw [pcs_in s p h, List.length_cons]
      match k, hk with
      | 0, hk => omega
      | k + 1, hk =>
        have := pcs_len s k (p + (Utf8.decode s p).2) (by omega)
        omega
    · rw [pcs_out s p h]
      exact Nat.zero_le _
theorem pcs_head (s : ByteArray) (p : Nat) (q : Nat) (r : List Nat) (h : pcs s p = q :: r) : p < s.size ∧ q = p ∧ r = pcs s (p + (Utf8.decode s p).2) := by
  by_cases hp : p < s.size
  · rw [pcs_in s p hp] at h
    simp only [List.cons.injEq] at h
    exact ⟨hp, h.1.symm, h.2.symm⟩
  · rw [pcs_out s p hp] at h
    cases h
theorem pcR_neg (s : ByteArray) (p : Nat) : (stray s p = true ∧ pcR s p = -1) ∨ (stray s p = false ∧ pcR s p = ((Utf8.decode s p).1 : Int)) := by
  unfold pcR
  cases stray s p <;> simp
end Tx

end Go.Proofs.YtdnackjakfiffaaGreatDoor.Text

/-
  The reference's Name.
-/
namespace Go.Proofs.YtdnackjakfiffaaGreatDoor.Text
open Go Go.RowKit
open Tx

end Go.Proofs.YtdnackjakfiffaaGreatDoor.Text
