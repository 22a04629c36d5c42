/-
  Package record: what is read as a record of version 2 is one of version 3.
-/
import Derived.Test.YtioghecmnggehaaDoorRcK
namespace Go.Proofs.YtioghecmnggehaaDoor
open Go Go.RowKit
open Wb

theorem chkN_all (x : Nums) (nm : ByteArray) (l : List Nat) : chkN x nm l 9 = 0 ↔ (tagE x nm l 3 = 0 ∧ tagE x nm l 4 = 0 ∧ tagE x nm l 5 = 0 ∧ tagE x nm l 6 = 0 ∧ tagE x nm l 7 = 0 ∧ tagE x nm l 8 = 0 ∧ tagE x nm l 9 = 0 ∧ tagE x nm l 10 = 0 ∧ tagE x nm l 11 = 0) := by
  simp only [chkN, Nat.reduceSub]
  generalize tagE x nm l 3 = a3
  generalize tagE x nm l 4 = a4
  generalize tagE x nm l 5 = a5
  generalize tagE x nm l 6 = a6
  generalize tagE x nm l 7 = a7
  generalize tagE x nm l 8 = a8
  generalize tagE x nm l 9 = a9
  generalize tagE x nm l 10 = a10
  generalize tagE x nm l 11 = a11
  repeat' split
  all_goals simp_all
theorem fldE_later (x : Nums) (nm : ByteArray) (l : List Nat) (t : Nat) : fldE (x.ofV 3) nm l t = fldE (x.ofV 2) nm l t := by
  have h2 : (x.ofV 2).old = false := rfl
  have h3 : (x.ofV 3).old = false := rfl
  have e1 : (x.ofV 3).lo t = (x.ofV 2).lo t := by unfold Nums.lo; rw [h2, h3]; rfl
  have e2 : (x.ofV 3).hi t = (x.ofV 2).hi t := by unfold Nums.hi; rw [h2, h3]; rfl
  have e3 : (x.ofV 3).tag t = (x.ofV 2).tag t := rfl
  have e4 : datE (x.ofV 3) l = datE (x.ofV 2) l := by unfold datE; rw [h2, h3]
  unfold fldE
  rw [e1, e2, e3, e4]
theorem tag_later (x : Nums) (nm : ByteArray) (l : List Nat) (t : Nat) (hrow : (x.ofV 2).row.contains (t : Int) = true → (x.ofV 3).row.contains (t : Int) = true)
    (hnew : (x.ofV 2).row.contains (t : Int) = false → (x.ofV 3).row.contains (t : Int) = true → zeroT (x.ofV 2) nm l.length t = true → fldE (x.ofV 2) nm l t = 0) (h : tagE (x.ofV 2) nm l t = 0) : tagE (x.ofV 3) nm l t = 0 := by
  have e : zeroT (x.ofV 3) nm l.length t = zeroT (x.ofV 2) nm l.length t := rfl
  unfold tagE at h ⊢
  rw [e, fldE_later]
  cases h2 : (x.ofV 2).row.contains (t : Int) with
  | true =>
    rw [h2] at h
    rw [hrow h2]
    simpa using h
  | false =>
    rw [h2] at h
    cases hz : zeroT (x.ofV 2) nm l.length t with
    | false => rw [hz] at h; simp at h
    | true =>
      cases h3 : (x.ofV 3).row.contains (t : Int) with
      | false => simp
      | true =>
        have := hnew h2 h3 hz
        simpa using this
theorem fld7 (x : Nums) (nm : ByteArray) (l : List Nat) (h : zeroT (x.ofV 2) nm l.length 7 = true) : fldE (x.ofV 2) nm l 7 = 0 := by
  have hc : x.c = 0 := by
    have : decide (x.c = 0) = true := h
    simpa using this
  show (if x.c < (x.ofV 2).lo 7 ∨ (x.ofV 2).hi 7 < x.c then (34 : Int) else 0) = 0
  rw [if_neg]
  have e1 : (x.ofV 2).lo 7 = if x.k = 7 then 0 else -9223372036854775808 := rfl
  have e2 : (x.ofV 2).hi 7 = if x.k = 7 then 2 else 9223372036854775807 := rfl
  rw [e1, e2, hc]
  split <;> decide
theorem fld9 (x : Nums) (nm : ByteArray) (l : List Nat) (h : zeroT (x.ofV 2) nm l.length 9 = true) (hn : 1 ≤ x.n) : fldE (x.ofV 2) nm l 9 = 0 := by
  have hc : x.i = 0 := by
    have : decide (x.i = 0) = true := h
    simpa using this
  show (if x.i < 0 ∨ x.n < x.i then (34 : Int) else 0) = 0
  rw [if_neg (by omega)]
theorem cnt (x : Nums) (nm : ByteArray) (l : List Nat) (hr : (x.ofV 2).row.contains ((8 : Nat) : Int) = true) (h : tagE (x.ofV 2) nm l 8 = 0) : 1 ≤ x.n := by
  unfold tagE at h
  rw [hr] at h
  have h3 : fldE (x.ofV 2) nm l 8 = 0 := by simpa using h
  have h2 : (if x.n < 1 ∨ 32 < x.n then (34 : Int) else 0) = 0 := h3
  split at h2
  · simp at h2
  · omega
theorem rows_later (k : Int) (_h1 : 1 ≤ k) (_h7 : k ≤ 7) (x : Nums) (hk : x.k = k) (v : Int) (_hv : v = 2 ∨ v = 3) : (x.ofV v).row = tagR ((k.toNat - 1) * 3 + (v.toNat - 1)) := by
  show tagR ((x.k.toNat - 1) * 3 + (v.toNat - 1)) = _
  rw [hk]
theorem chk_later (x : Nums) (nm : ByteArray) (l : List Nat) (h : chk (x.ofV 2) nm l = 0) : chk (x.ofV 3) nm l = 0 := by
  have ev2 : (x.ofV 2).v = 2 := rfl
  have ev3 : (x.ofV 3).v = 3 := rfl
  have ek2 : (x.ofV 2).k = x.k := rfl
  have ek3 : (x.ofV 3).k = x.k := rfl
  have es2 : (x.ofV 2).s = x.s := rfl
  have es3 : (x.ofV 3).s = x.s := rfl
  unfold chk at h ⊢
  rw [ev2, ek2, es2, if_neg (by decide)] at h
  rw [ev3, ek3, es3, if_neg (by decide)]
  by_cases hk : 1 ≤ x.k ∧ x.k ≤ 7
  · rw [if_neg (by simpa using hk)] at h
    rw [if_neg (by simpa using hk)]
    by_cases hs : x.s < 1
    · rw [if_pos hs] at h; simp at h
    · rw [if_neg hs] at h
      rw [if_neg hs]
      rw [chkN_all] at h ⊢
      obtain ⟨t3, t4, t5, t6, t7, t8, t9, t10, t11⟩ := h
      have r2 := rows_later x.k hk.1 hk.2 x rfl 2 (.inl rfl)
      have r3 := rows_later x.k hk.1 hk.2 x rfl 3 (.inr rfl)
      obtain h1 | h1 | h1 | h1 | h1 | h1 | h1 : x.k = 1 ∨ x.k = 2 ∨ x.k = 3 ∨ x.k = 4 ∨ x.k = 5 ∨ x.k = 6 ∨ x.k = 7 := by omega
      all_goals
        rw [h1] at r2 r3
        refine ⟨?_, ?_, ?_, ?_, ?_, ?_, ?_, ?_, ?_⟩
        · exact tag_later x nm l 3 (by rw [r2, r3]; decide) (fun a b _ => absurd (And.intro a b) (by rw [r2, r3]; decide)) t3
        · exact tag_later x nm l 4 (by rw [r2, r3]; decide) (fun a b _ => absurd (And.intro a b) (by rw [r2, r3]; decide)) t4
        · exact tag_later x nm l 5 (by rw [r2, r3]; decide) (fun a b _ => absurd (And.intro a b) (by rw [r2, r3]; decide)) t5
        · exact tag_later x nm l 6 (by rw [r2, r3]; decide) (fun a b _ => absurd (And.intro a b) (by rw [r2, r3]; decide)) t6
        · exact tag_later x nm l 7 (by rw [r2, r3]; decide) (fun _ _ z => fld7 x nm l z) t7
        · exact tag_later x nm l 8 (by rw [r2, r3]; decide) (fun a b _ => absurd (And.intro a b) (by rw [r2, r3]; decide)) t8
        · first | exact tag_later x nm l 9 (by rw [r2, r3]; decide) (fun a b _ => absurd (And.intro a b) (by rw [r2, r3]; decide)) t9 | exact tag_later x nm l 9 (by rw [r2, r3]; decide) (fun _ _ z => fld9 x nm l z (cnt x nm l (by rw [r2]; decide) t8)) t9
        · exact tag_later x nm l 10 (by rw [r2, r3]; decide) (fun a b _ => absurd (And.intro a b) (by rw [r2, r3]; decide)) t10
        · exact tag_later x nm l 11 (by rw [r2, r3]; decide) (fun a b _ => absurd (And.intro a b) (by rw [r2, r3]; decide)) t11
  · rw [if_pos hk] at h
    simp at h
theorem dcd_later (b : List Nat) (q : Pts) (h : dcd 2 b = (0, q)) : dcd 3 b = (0, q.ofV 3) ∧ q.x.v = 2 := by
  unfold dcd at h ⊢
  rw [if_neg (by decide)] at h
  rw [if_neg (by decide)]
  generalize rpF b 12 0 0 zeroPts = Q at *
  obtain ⟨er, p⟩ := Q
  simp only at h ⊢
  by_cases he : er = 0
  · rw [if_neg (by simpa using he)] at h
    rw [if_neg (by simpa using he)]
    by_cases hc : chk (p.x.ofV 2) (bstr p.nm) p.l = 0
    · rw [if_neg (by simpa using hc)] at h
      rw [if_neg (by simpa using chk_later p.x (bstr p.nm) p.l hc)]
      obtain ⟨_, rfl⟩ := Prod.mk.inj h
      exact ⟨rfl, rfl⟩
    · rw [if_pos hc] at h
      exact absurd (Prod.mk.inj h).1 hc
  · rw [if_pos he] at h
    have := (Prod.mk.inj h).1
    omega
theorem dcd0 : dcd 2 [1, 2, 2, 5, 4, 1] = (0, ⟨⟨2, 2, 5, 0, 1, 0, 0, 0, 0, 0⟩, [], []⟩) := by kernel_rfl
end Go.Proofs.YtioghecmnggehaaDoor
