/-
  Pure: the bytes of Data stand last.
-/
import Derived.Test.YtioghecmnggehaaDoorReH
namespace Go.Proofs.YtioghecmnggehaaDoor
open Go Go.RowKit
open Wb

theorem fld_indep (x : Nums) (nm : ByteArray) (l l2 : List Nat) (t : Nat) (h : t ≠ 11) : (if zeroT x nm l.length t then [] else Wn.uint t ++ valB x nm l t) = (if zeroT x nm l2.length t then [] else Wn.uint t ++ valB x nm l2 t) := by
  have e1 : zeroT x nm l.length t = zeroT x nm l2.length t := by
    unfold zeroT
    rw [if_neg h, if_neg h]
  have e2 : valB x nm l t = valB x nm l2 t := by
    unfold valB
    rw [if_neg h, if_neg h]
  rw [e1, e2]
theorem encN_pre (x : Nums) (nm : ByteArray) : ∀ n, n ≤ 10 → ∃ A, ∀ l, encN x nm l (n + 1) = A ++ encN x nm l 1
  | 0, _ => ⟨[], fun l => rfl⟩
  | n + 1, h => by
    obtain ⟨A, hA⟩ := encN_pre x nm n (by omega)
    refine ⟨(if zeroT x nm ([] : List Nat).length (11 - (n + 1)) then [] else Wn.uint (11 - (n + 1)) ++ valB x nm [] (11 - (n + 1))) ++ A, fun l => ?_⟩
    rw [encN_succ, hA l, fld_indep x nm l [] (11 - (n + 1)) (by omega), List.append_assoc]
/-- what is written for Data -/
def tailD (l : List Nat) : List Nat := if l.length = 0 then [] else Wn.uint 11 ++ (Wn.uint l.length ++ l)
theorem enc_data (x : Nums) (nm : ByteArray) (l : List Nat) : enc x nm l = enc x nm [] ++ tailD l := by
  obtain ⟨A, hA⟩ := encN_pre x nm 10 (by omega)
  have e1 : ∀ l, encN x nm l 1 = tailD l := by
    intro l
    rw [encN_succ]
    show (if decide (l.length = 0) then [] else Wn.uint 11 ++ (Wn.uint l.length ++ l)) ++ [] = _
    unfold tailD
    rw [List.append_nil]
    by_cases h : l.length = 0
    · rw [decide_eq_true h, if_pos rfl, if_pos h]
    · rw [decide_eq_false h, if_neg (by decide), if_neg h]
  unfold enc
  rw [hA l, hA [], e1, e1]
  show _ = (A ++ []) ++ _
  rw [List.append_nil]
theorem chk_data (x : Nums) (nm : ByteArray) (l l2 : List Nat) (h : chk x nm l = 0) (hr : x.row.contains (11 : Int) = true) (ho : x.old = false) (hl : l2.length ≤ 16384) : chk x nm l2 = 0 := by
  have key : ∀ t, t ≠ 11 → tagE x nm l2 t = tagE x nm l t := by
    intro t ht
    unfold tagE fldE zeroT
    rw [if_neg ht, if_neg ht]
    rw [if_neg ht]
    rw [if_neg ht]
  have h11 : tagE x nm l2 11 = 0 := by
    unfold tagE
    have hr' : x.row.contains ((11 : Nat) : Int) = true := hr
    rw [hr']
    show (if true = true then datE x l2 else _) = 0
    rw [if_pos rfl]
    unfold datE
    rw [if_neg (by omega), ho]
    rfl
  unfold chk at h ⊢
  by_cases hv : 1 ≤ x.v ∧ x.v ≤ 3
  · rw [if_neg (by simpa using hv)] at h ⊢
    by_cases hk : 1 ≤ x.k ∧ x.k ≤ 7
    · rw [if_neg (by simpa using hk)] at h ⊢
      by_cases hs : x.s < 1
      · rw [if_pos hs] at h; simp at h
      · rw [if_neg hs] at h ⊢
        rw [chkN_all] at h ⊢
        obtain ⟨a3, a4, a5, a6, a7, a8, a9, a10, _⟩ := h
        exact ⟨by rw [key 3 (by omega)]; exact a3, by rw [key 4 (by omega)]; exact a4, by rw [key 5 (by omega)]; exact a5, by rw [key 6 (by omega)]; exact a6, by rw [key 7 (by omega)]; exact a7, by rw [key 8 (by omega)]; exact a8, by rw [key 9 (by omega)]; exact a9, by rw [key 10 (by omega)]; exact a10, h11⟩
    · rw [if_pos hk] at h; simp at h
  · rw [if_pos hv] at h; simp at h
/-- the tags of a row that are none of the filling -/
def rowN (r : List Int) : List Int := r.filter fun z => z != 0
theorem row_last : ∀ m, m < 21 → 2 ≤ (rowN (tagR m)).length ∧ (rowN (tagR m)).length ≤ 7 ∧ ((rowN (tagR m)).getD ((rowN (tagR m)).length - 1) 0 == 11) = (tagR m).contains 11 := by decide +kernel
end Go.Proofs.YtioghecmnggehaaDoor
