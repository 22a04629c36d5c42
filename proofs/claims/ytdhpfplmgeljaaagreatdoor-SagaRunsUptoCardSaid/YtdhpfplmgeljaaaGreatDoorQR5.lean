import Derived.Test.YtdhpfplmgeljaaaGreatDoorQR2
import Derived.Test.YtdhpfplmgeljaaaGreatDoorQR3
namespace Go.Proofs.YtdhpfplmgeljaaaGreatDoor
open Go Go.RowKit
open Wb

def part (x : Nums) (nm : ByteArray) (l : List Nat) (k : Nat) : Pts :=
  ⟨⟨0, if 1 < k then x.k else 0, if 2 < k then x.s else 0, if 3 < k then x.p else 0, if 4 < k then x.t else 0, if 5 < k then x.a else 0, if 6 < k then x.l else 0, if 7 < k then x.c else 0, if 8 < k then x.n else 0, if 9 < k then x.i else 0⟩, if 10 < k then nbs nm else [], if 11 < k then l else []⟩
theorem nmE_short (s : ByteArray) : ∀ (m n p : Nat), s.size - p ≤ m → n ≤ 48 → (Text.Tx.nmE s n p).1 = 0 → s.size ≤ p + 4 * (48 - n)
  | m, n, p, hm, hn, h => by
    by_cases hp : p < s.size
    · rw [Text.Tx.nmE, dif_pos hp] at h
      by_cases h48 : 48 ≤ n
      · rw [if_pos h48] at h; simp at h
      · rw [if_neg h48] at h
        split at h
        · simp at h
        · split at h
          · simp at h
          · have hd := Text.Tx.decode_fits s p hp
            match m, hm with
            | 0, hm => omega
            | m + 1, hm =>
              have := nmE_short s m (n + 1) (p + (Utf8.decode s p).2) (by omega) (by omega) h
              omega
    · omega
theorem lab_short (s : ByteArray) (h : lab s = 0) : s.size ≤ 192 := by
  unfold lab at h
  have h1 : (Text.Tx.nmA s).1 = 0 := by
    by_cases hh : (Text.Tx.nmA s).1 = 0
    · exact hh
    · rw [if_neg hh] at h; simp at h
  unfold Text.Tx.nmA at h1
  by_cases h0 : s.size = 0
  · omega
  · rw [if_neg h0] at h1
    have := nmE_short s s.size 0 0 (by omega) (by omega) h1
    omega
theorem chk_fits (x : Nums) (nm : ByteArray) (l : List Nat) (h : chkN x nm l 9 = 0) : nm.size ≤ 192 ∧ l.length ≤ 16384 := by
  rw [chkN_all] at h
  obtain ⟨_, _, _, _, _, _, _, h10, h11⟩ := h
  constructor
  · unfold tagE at h10
    cases hr : x.row.contains ((10 : Nat) : Int) with
    | true =>
      rw [hr] at h10
      have : fldE x nm l 10 = 0 := by simpa using h10
      exact lab_short nm this
    | false =>
      rw [hr] at h10
      cases hz : zeroT x nm l.length 10 with
      | false => rw [hz] at h10; simp at h10
      | true =>
        have h : nm.toList.isEmpty = true := hz
        have h2 : nm.toList = [] := by simpa using h
        rw [ByteArray.toList_eq] at h2
        have h3 : nm.data.size = 0 := by rw [← Array.length_toList, h2]; rfl
        have h4 : nm.size = 0 := h3
        omega
  · unfold tagE at h11
    cases hr : x.row.contains ((11 : Nat) : Int) with
    | true =>
      rw [hr] at h11
      have h2 : datE x l = 0 := by
        have : fldE x nm l 11 = 0 := by simpa using h11
        exact this
      unfold datE at h2
      by_cases hh : 16384 < l.length
      · rw [if_pos hh] at h2; simp at h2
      · omega
    | false =>
      rw [hr] at h11
      cases hz : zeroT x nm l.length 11 with
      | false => rw [hz] at h11; simp at h11
      | true =>
        have h : decide (l.length = 0) = true := hz
        have : l.length = 0 := by simpa using h
        omega
end Go.Proofs.YtdhpfplmgeljaaaGreatDoor
