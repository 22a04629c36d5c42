import Derived.Test.YtdnackjakfiffaaGreatDoorQL2
import Derived.Test.YtdnackjakfiffaaGreatDoorQK2
import Derived.Test.YtdnackjakfiffaaGreatDoorQR5
import Derived.Test.YtdnackjakfiffaaGreatDoorQR3
/-
  Package lift: check, Up.
-/
namespace Go.Proofs.YtdnackjakfiffaaGreatDoor
open Go Go.RowKit
open Wb

def chkR (r : Rec) : Int := chk r.x r.nm r.l
def zRec : Rec := ⟨zeroNums, ⟨#[]⟩, []⟩
/-- what check answers -/
def lckE (to : Int) (r : Rec) : Int := if chkR r ≠ 0 then chkR r else if 1 ≤ to ∧ to ≤ 3 then 0 else 3
/-- what Up answers -/
def upP (to : Int) (r : Rec) : Int × Rec := if lckE to r ≠ 0 then (lckE to r, zRec) else if to < r.x.v then (41, zRec) else (0, carP to r)
def eqR (a b : Rec) : Bool := recEq a.x b.x a.nm b.nm a.l b.l
/-- what Down answers -/
def downP (to : Int) (r : Rec) : Int × Rec := if lckE to r ≠ 0 then (lckE to r, zRec) else if r.x.v < to then (41, zRec) else if eqR (carP r.x.v (carP to r)) r then (0, carP to r) else (40, zRec)
theorem small_of (r : Rec) (hf : r.x.fit) (hc : chkR r = 0) : r.small := by
  obtain ⟨hx, hv, hk, _, hN⟩ := chk_nice r.x r.nm r.l hc hf
  obtain ⟨hn, hl⟩ := chk_fits r.x r.nm r.l hN
  exact ⟨by omega, by omega⟩
theorem carL_small : ∀ (ks : List Nat) (r : Rec), r.small → (carL ks r).small
  | [], _, h => h
  | k :: ks, r, h => carL_small ks (deedP k r) (deedP_small k r h)
theorem chk_of_lck {to : Int} {r : Rec} (h : lckE to r = 0) : chkR r = 0 := by
  unfold lckE at h
  by_cases hc : chkR r = 0
  · exact hc
  · rw [if_pos hc] at h
    exact absurd h hc
end Go.Proofs.YtdnackjakfiffaaGreatDoor

/-
  Lift, pure: what is valid in each version; there and back.
-/
namespace Go.Proofs.YtdnackjakfiffaaGreatDoor
open Go Go.RowKit
open Wb

theorem chk_exp (x : Nums) (nm : ByteArray) (l : List Nat) : chk x nm l = 0 ↔ (1 ≤ x.v ∧ x.v ≤ 3) ∧ (1 ≤ x.k ∧ x.k ≤ 7) ∧ 1 ≤ x.s ∧ (tagE x nm l 3 = 0 ∧ tagE x nm l 4 = 0 ∧ tagE x nm l 5 = 0 ∧ tagE x nm l 6 = 0 ∧ tagE x nm l 7 = 0 ∧ tagE x nm l 8 = 0 ∧ tagE x nm l 9 = 0 ∧ tagE x nm l 10 = 0 ∧ tagE x nm l 11 = 0) := by
  rw [← chkN_all]
  unfold chk
  by_cases hv : 1 ≤ x.v ∧ x.v ≤ 3
  · rw [if_neg (by simpa using hv)]
    by_cases hk : 1 ≤ x.k ∧ x.k ≤ 7
    · rw [if_neg (by simpa using hk)]
      by_cases hs : x.s < 1
      · rw [if_pos hs]
        constructor
        · intro h; simp at h
        · intro h; omega
      · rw [if_neg hs]
        exact ⟨fun h => ⟨hv, hk, by omega, h⟩, fun h => h.2.2.2⟩
    · rw [if_pos hk]
      exact ⟨fun h => by simp at h, fun h => absurd h.2.1 hk⟩
  · rw [if_pos hv]
    exact ⟨fun h => by simp at h, fun h => absurd h.1 hv⟩
theorem tag_in (x : Nums) (nm : ByteArray) (l : List Nat) (t : Nat) (h : x.row.contains (t : Int) = true) : tagE x nm l t = fldE x nm l t := by unfold tagE; rw [h]; rfl
theorem tag_out (x : Nums) (nm : ByteArray) (l : List Nat) (t : Nat) (h : x.row.contains (t : Int) = false) : tagE x nm l t = 0 ↔ zeroT x nm l.length t = true := by
  unfold tagE
  rw [h]
  cases zeroT x nm l.length t <;> simp
theorem row_at (x : Nums) (v k : Nat) (hv : x.v = v) (hk : x.k = k) : x.row = tagR ((k - 1) * 3 + (v - 1)) := by
  unfold Nums.row
  rw [hv, hk]
  rfl
theorem toList_nil (s : ByteArray) : s.toList = [] ↔ s = ⟨#[]⟩ := by
  constructor
  · intro h
    rw [ByteArray.toList_eq] at h
    apply ByteArray.ext
    simpa using h
  · rintro rfl
    rw [ByteArray.toList_eq]
theorem dat_iff (n : Nat) (z : Int) : (if 16384 < n then (36 : Int) else z) = 0 ↔ n ≤ 16384 ∧ z = 0 := by
  split
  · constructor
    · intro h; simp at h
    · intro h; omega
  · constructor
    · intro h; exact ⟨by omega, h⟩
    · intro h; exact h.2
/-- what stands in a record of version 1 -/
def V1 (r : Rec) : Prop := 1 ≤ r.x.s ∧ r.x.t = 0 ∧ r.x.a = 0 ∧ r.x.l = 0 ∧ r.x.c = 0 ∧ r.x.n = 0 ∧ r.x.i = 0 ∧ r.nm = ⟨#[]⟩ ∧ ((r.x.k = 1 ∧ 1 ≤ r.x.p ∧ r.x.p ≤ 32 ∧ r.l.length ≤ 16384 ∧ lab (bstr r.l) = 0) ∨ ((r.x.k = 2 ∨ r.x.k = 5) ∧ 0 ≤ r.x.p ∧ r.x.p ≤ 31 ∧ r.l = []) ∨ ((r.x.k = 3 ∨ r.x.k = 4 ∨ r.x.k = 6) ∧ 0 ≤ r.x.p ∧ r.x.p ≤ 31 ∧ r.l.length ≤ 16384) ∨ (r.x.k = 7 ∧ r.x.p = 0 ∧ r.l = []))
theorem v1_iff (r : Rec) (hv : r.x.v = 1) : chk r.x r.nm r.l = 0 ↔ V1 r := by
  obtain ⟨x, nm, l⟩ := r
  simp only [V1] at *
  rw [chk_exp, ← toList_nil]
  by_cases hk : 1 ≤ x.k ∧ x.k ≤ 7
  · obtain h | h | h | h | h | h | h : x.k = 1 ∨ x.k = 2 ∨ x.k = 3 ∨ x.k = 4 ∨ x.k = 5 ∨ x.k = 6 ∨ x.k = 7 := by omega
    all_goals
      simp [tagE, Nums.row, tagR, tagRs, fldE, zeroT, Nums.tag, Nums.lo, Nums.hi, Nums.old, datE, hv, h, dat_iff]
      intro _
      constructor <;> (intro hh; simp [hh])
  · constructor
    · intro h; exact absurd h.2.1 hk
    · rintro ⟨_, _, _, _, _, _, _, _, h | h | h | h⟩ <;> omega
/-- what stands in a record of version 2 -/
def V2 (r : Rec) : Prop := 1 ≤ r.x.s ∧ 0 ≤ r.x.a ∧ r.x.a ≤ 9223372036854775807 ∧ r.x.c = 0 ∧ r.x.i = 0 ∧ ((r.x.k = 1 ∧ r.x.p = 0 ∧ r.x.t = 0 ∧ r.x.l = 0 ∧ 1 ≤ r.x.n ∧ r.x.n ≤ 32 ∧ lab r.nm = 0 ∧ r.l.length ≤ 16384) ∨ ((r.x.k = 2 ∨ r.x.k = 5) ∧ 0 ≤ r.x.p ∧ r.x.p ≤ 31 ∧ 1 ≤ r.x.t ∧ r.x.t ≤ 1000 ∧ r.x.l = 0 ∧ r.x.n = 0 ∧ r.nm = ⟨#[]⟩ ∧ r.l = []) ∨ ((r.x.k = 3 ∨ r.x.k = 6) ∧ 0 ≤ r.x.p ∧ r.x.p ≤ 31 ∧ r.x.t = 0 ∧ r.x.l = 0 ∧ r.x.n = 0 ∧ r.nm = ⟨#[]⟩ ∧ r.l.length ≤ 16384) ∨ (r.x.k = 4 ∧ 0 ≤ r.x.p ∧ r.x.p ≤ 31 ∧ r.x.t = 0 ∧ 0 ≤ r.x.l ∧ r.x.l ≤ 1 ∧ r.x.n = 0 ∧ r.nm = ⟨#[]⟩ ∧ r.l.length ≤ 16384) ∨ (r.x.k = 7 ∧ r.x.p = 0 ∧ r.x.t = 0 ∧ r.x.l = 0 ∧ r.x.n = 0 ∧ r.nm = ⟨#[]⟩ ∧ r.l = []))
theorem v2_iff (r : Rec) (hv : r.x.v = 2) : chk r.x r.nm r.l = 0 ↔ V2 r := by
  obtain ⟨x, nm, l⟩ := r
  simp only [V2] at *
  rw [chk_exp, ← toList_nil]
  by_cases hk : 1 ≤ x.k ∧ x.k ≤ 7
  · obtain h | h | h | h | h | h | h : x.k = 1 ∨ x.k = 2 ∨ x.k = 3 ∨ x.k = 4 ∨ x.k = 5 ∨ x.k = 6 ∨ x.k = 7 := by omega
    all_goals
      simp [tagE, Nums.row, tagR, tagRs, fldE, zeroT, Nums.tag, Nums.lo, Nums.hi, Nums.old, datE, hv, h]
      intro _
      constructor <;> (intro hh; simp [hh])
  · constructor
    · intro h; exact absurd h.2.1 hk
    · rintro ⟨_, _, _, _, _, h | h | h | h | h⟩ <;> omega
/-- a record of version 3 without code and pivot is one of version 2 -/
theorem v3_two (r : Rec) (hv : r.x.v = 3) (h0 : r.x.c = 0) (h1 : r.x.i = 0) (hc : chk r.x r.nm r.l = 0) : V2 r := by
  obtain ⟨x, nm, l⟩ := r
  simp only [V2] at *
  rw [chk_exp] at hc
  rw [← toList_nil]
  obtain ⟨_, hk, hs, hh⟩ := hc
  obtain h | h | h | h | h | h | h : x.k = 1 ∨ x.k = 2 ∨ x.k = 3 ∨ x.k = 4 ∨ x.k = 5 ∨ x.k = 6 ∨ x.k = 7 := by omega
  all_goals
    simp [tagE, Nums.row, tagR, tagRs, fldE, zeroT, Nums.tag, Nums.lo, Nums.hi, Nums.old, datE, hv, h, h0, h1] at hh
    simp [h, h0, h1, hs, hh]
end Go.Proofs.YtdnackjakfiffaaGreatDoor

/-
  Lift, pure: up and back, down and up.
-/
namespace Go.Proofs.YtdnackjakfiffaaGreatDoor
open Go Go.RowKit
open Wb

theorem nbs_bstr (l : List Nat) (h : ok l) : nbs (bstr l) = l := by
  unfold nbs bstr
  simp only [List.map_map]
  conv => rhs; rw [← List.map_id l]
  apply List.map_congr_left
  intro x hx
  exact UInt8.toNat_ofNat_of_lt' (show x < 256 from h x hx)
theorem go11 : (Lft.go 1 1 4).2 = [] := by decide +kernel
theorem go12 : (Lft.go 1 2 4).2 = [0] := by decide +kernel
theorem go13 : (Lft.go 1 3 4).2 = [0, 1] := by decide +kernel
theorem go21 : (Lft.go 2 1 4).2 = [3] := by decide +kernel
theorem go22 : (Lft.go 2 2 4).2 = [] := by decide +kernel
theorem go23 : (Lft.go 2 3 4).2 = [1] := by decide +kernel
theorem go31 : (Lft.go 3 1 4).2 = [2, 3] := by decide +kernel
theorem go32 : (Lft.go 3 2 4).2 = [2] := by decide +kernel
theorem go33 : (Lft.go 3 3 4).2 = [] := by decide +kernel
theorem car11 (r : Rec) (h : r.x.v = 1) : carP 1 r = r := by unfold carP; rw [h, go11]; rfl
theorem car12 (r : Rec) (h : r.x.v = 1) : carP 2 r = cOne r := by unfold carP; rw [h, go12]; rfl
theorem car13 (r : Rec) (h : r.x.v = 1) : carP 3 r = cTwo (cOne r) := by unfold carP; rw [h, go13]; rfl
theorem car21 (r : Rec) (h : r.x.v = 2) : carP 1 r = cBack r := by unfold carP; rw [h, go21]; rfl
theorem car22 (r : Rec) (h : r.x.v = 2) : carP 2 r = r := by unfold carP; rw [h, go22]; rfl
theorem car23 (r : Rec) (h : r.x.v = 2) : carP 3 r = cTwo r := by unfold carP; rw [h, go23]; rfl
theorem car31 (r : Rec) (h : r.x.v = 3) : carP 1 r = cBack (cThree r) := by unfold carP; rw [h, go31]; rfl
theorem car32 (r : Rec) (h : r.x.v = 3) : carP 2 r = cThree r := by unfold carP; rw [h, go32]; rfl
theorem car33 (r : Rec) (h : r.x.v = 3) : carP 3 r = r := by unfold carP; rw [h, go33]; rfl
theorem one_v (r : Rec) : (cOne r).x.v = 2 := by unfold cOne; split; rfl; split; rfl; split <;> rfl
theorem one_s (r : Rec) : (cOne r).x.s = r.x.s := by unfold cOne; split; rfl; split; rfl; split <;> rfl
theorem one_k (r : Rec) : (cOne r).x.k = r.x.k := by unfold cOne; split; rfl; split; rfl; split <;> rfl
theorem back_v (r : Rec) : (cBack r).x.v = 1 := by unfold cBack; split <;> rfl
theorem back_c (r : Rec) : (cOne (cBack r)).x.c = 0 ∧ (cOne (cBack r)).x.i = 0 := by
  have h1 : (cBack r).x.c = 0 ∧ (cBack r).x.i = 0 := by unfold cBack; split <;> exact ⟨rfl, rfl⟩
  unfold cOne
  split
  · exact h1
  · split
    · exact h1
    · split <;> exact h1
theorem one_two (r : Rec) (h : V1 r) : V2 (cOne r) := by
  obtain ⟨⟨v, k, s, p, t, a, b, c, n, i⟩, nm, l⟩ := r
  simp only [V1] at h
  obtain ⟨hs, rfl, rfl, rfl, rfl, rfl, rfl, rfl, hh⟩ := h
  rcases hh with ⟨rfl, h1, h2, h3, h4⟩ | ⟨rfl | rfl, h1, h2, rfl⟩ | ⟨rfl | rfl | rfl, h1, h2, h3⟩ | ⟨rfl, rfl, rfl⟩
  all_goals simp_all [cOne, V2]
theorem one_back (r : Rec) (hv : r.x.v = 1) (hok : ok r.l) (h : V1 r) : cBack (cOne r) = r := by
  obtain ⟨⟨v, k, s, p, t, a, b, c, n, i⟩, nm, l⟩ := r
  have hnb := nbs_bstr l hok
  simp only [V1] at h hv
  obtain ⟨hs, rfl, rfl, rfl, rfl, rfl, rfl, rfl, hh⟩ := h
  subst hv
  rcases hh with ⟨rfl, h1, h2, h3, h4⟩ | ⟨rfl | rfl, h1, h2, rfl⟩ | ⟨rfl | rfl | rfl, h1, h2, h3⟩ | ⟨rfl, rfl, rfl⟩
  all_goals simp [cOne, cBack, hnb]
theorem three_two (r : Rec) (hv : r.x.v = 2) (h : V2 r) : cThree (cTwo r) = r := by
  obtain ⟨⟨v, k, s, p, t, a, b, c, n, i⟩, nm, l⟩ := r
  simp only [V2] at h hv
  obtain ⟨_, _, _, rfl, rfl, _⟩ := h
  subst hv
  rfl
theorem two_ok (r : Rec) (hv : r.x.v = 2) (h : chkR r = 0) : chkR (cTwo r) = 0 := by
  obtain ⟨⟨v, k, s, p, t, a, b, c, n, i⟩, nm, l⟩ := r
  simp only at hv
  subst hv
  exact chk_later ⟨2, k, s, p, t, a, b, c, n, i⟩ nm l h
theorem back_ok1 (r : Rec) (h : V2 r) : V1 (cBack r) := by
  obtain ⟨⟨v, k, s, p, t, a, b, c, n, i⟩, nm, l⟩ := r
  simp only [V2] at h
  obtain ⟨hs, ha, ha2, rfl, rfl, hh⟩ := h
  have hsz : lab nm = 0 → (nbs nm).length ≤ 16384 := fun h => by rw [nbs_len]; have := lab_short nm h; omega
  have hbn := bstr_nbs nm
  rcases hh with ⟨rfl, rfl, rfl, rfl, h1, h2, h3, h4⟩ | ⟨rfl | rfl, h1, h2, h3, h4, rfl, rfl, rfl, rfl⟩ | ⟨rfl | rfl, h1, h2, rfl, rfl, rfl, rfl, h3⟩ | ⟨rfl, h1, h2, rfl, h3, h4, rfl, rfl, h5⟩ | ⟨rfl, rfl, rfl, rfl, rfl, rfl, rfl⟩
  all_goals simp_all [cBack, V1]
theorem three_ok (r : Rec) (hv : r.x.v = 3) (h : chkR r = 0) (hc : r.x.c = 0) (hi : r.x.i = 0) : V2 (cThree r) ∧ cTwo (cThree r) = r := by
  have h2 := v3_two r hv hc hi h
  obtain ⟨⟨v, k, s, p, t, a, b, c, n, i⟩, nm, l⟩ := r
  simp only [V2] at *
  subst hv hc hi
  exact ⟨h2, rfl⟩
/-- what is lifted is valid, and comes back -/
theorem up_back (r : Rec) (t : Int) (hok : ok r.l) (h : chkR r = 0) (h1 : r.x.v ≤ t) (h2 : t ≤ 3) : chkR (carP t r) = 0 ∧ (carP t r).x.v = t ∧ (carP t r).x.s = r.x.s ∧ (carP t r).x.k = r.x.k ∧ carP r.x.v (carP t r) = r := by
  have hv := (chk_exp r.x r.nm r.l).1 h
  obtain hv | hv | hv : r.x.v = 1 ∨ r.x.v = 2 ∨ r.x.v = 3 := by omega
  · have hV := (v1_iff r hv).1 h
    have hV2 := one_two r hV
    have hc2 : chkR (cOne r) = 0 := (v2_iff (cOne r) (one_v r)).2 hV2
    have hb := one_back r hv hok hV
    obtain rfl | rfl | rfl : t = 1 ∨ t = 2 ∨ t = 3 := by omega
    · rw [hv, car11 r hv]
      exact ⟨h, hv, rfl, rfl, car11 r hv⟩
    · rw [hv, car12 r hv, car21 _ (one_v r)]
      exact ⟨hc2, one_v r, one_s r, one_k r, hb⟩
    · rw [hv, car13 r hv, car31 _ rfl, three_two _ (one_v r) hV2]
      exact ⟨two_ok _ (one_v r) hc2, rfl, one_s r, one_k r, hb⟩
  · have hV := (v2_iff r hv).1 h
    obtain rfl | rfl : t = 2 ∨ t = 3 := by omega
    · rw [hv, car22 r hv]
      exact ⟨h, hv, rfl, rfl, car22 r hv⟩
    · rw [hv, car23 r hv, car32 _ rfl, three_two _ hv hV]
      exact ⟨two_ok r hv h, rfl, rfl, rfl, rfl⟩
  · obtain rfl : t = 3 := by omega
    rw [hv, car33 r hv]
    exact ⟨h, hv, rfl, rfl, car33 r hv⟩
/-- what goes down without loss is valid -/
theorem down_ok2 (r : Rec) (t : Int) (h : chkR r = 0) (h1 : 1 ≤ t) (h2 : t ≤ r.x.v) (he : carP r.x.v (carP t r) = r) : chkR (carP t r) = 0 ∧ (carP t r).x.v = t := by
  have hv := (chk_exp r.x r.nm r.l).1 h
  obtain hv | hv | hv : r.x.v = 1 ∨ r.x.v = 2 ∨ r.x.v = 3 := by omega
  · obtain rfl : t = 1 := by omega
    rw [car11 r hv]
    exact ⟨h, hv⟩
  · obtain rfl | rfl : t = 1 ∨ t = 2 := by omega
    · rw [hv, car21 r hv, car12 _ (back_v r)] at he
      rw [car21 r hv]
      exact ⟨(v1_iff _ (back_v r)).2 (back_ok1 r ((v2_iff r hv).1 h)), back_v r⟩
    · rw [car22 r hv]
      exact ⟨h, hv⟩
  · obtain rfl | rfl | rfl : t = 1 ∨ t = 2 ∨ t = 3 := by omega
    · rw [hv, car31 r hv, car13 _ (back_v _)] at he
      have hci := back_c (cThree r)
      have hc : r.x.c = 0 := by rw [← he]; exact hci.1
      have hi : r.x.i = 0 := by rw [← he]; exact hci.2
      obtain ⟨hV2, _⟩ := three_ok r hv h hc hi
      rw [car31 r hv]
      exact ⟨(v1_iff _ (back_v _)).2 (back_ok1 _ hV2), back_v _⟩
    · rw [hv, car32 r hv, car23 _ rfl] at he
      have hc : r.x.c = 0 := by rw [← he]; rfl
      have hi : r.x.i = 0 := by rw [← he]; rfl
      rw [car32 r hv]
      exact ⟨(v2_iff _ rfl).2 (three_ok r hv h hc hi).1, rfl⟩
    · rw [car33 r hv]
      exact ⟨h, hv⟩
theorem eqR_iff (a b : Rec) : eqR a b = true ↔ a = b := by
  obtain ⟨x, nm, l⟩ := a
  obtain ⟨y, nm2, l2⟩ := b
  unfold eqR recEq
  simp only [Bool.and_eq_true, decide_eq_true_eq, Rec.mk.injEq]
  have hn : (nm.toList == nm2.toList) = true ↔ nm = nm2 := by
    rw [beq_iff_eq]
    constructor
    · intro h
      rw [ByteArray.toList_eq, ByteArray.toList_eq] at h
      apply ByteArray.ext
      exact Array.toList_inj.1 h
    · rintro rfl; rfl
  rw [hn]
  constructor
  · rintro ⟨⟨h1, h2⟩, h3⟩; exact ⟨h1, h2, h3⟩
  · rintro ⟨h1, h2, h3⟩; exact ⟨⟨h1, h2⟩, h3⟩
theorem lck_zero {to : Int} {r : Rec} : lckE to r = 0 ↔ chkR r = 0 ∧ 1 ≤ to ∧ to ≤ 3 := by
  unfold lckE
  by_cases hc : chkR r = 0
  · rw [if_neg (by simpa using hc)]
    by_cases ht : 1 ≤ to ∧ to ≤ 3
    · rw [if_pos ht]; exact ⟨fun _ => ⟨hc, ht⟩, fun _ => rfl⟩
    · rw [if_neg ht]; exact ⟨fun h => by simp at h, fun h => absurd h.2 ht⟩
  · rw [if_pos hc]; exact ⟨fun h => absurd h hc, fun h => absurd h.1 hc⟩
theorem up_good {to : Int} {r : Rec} (h : chkR r = 0) (h1 : 1 ≤ to) (h2 : to ≤ 3) (h3 : r.x.v ≤ to) : upP to r = (0, carP to r) := by
  unfold upP
  rw [if_neg (by simpa using lck_zero.2 ⟨h, h1, h2⟩), if_neg (by omega)]
theorem up_zero {to : Int} {r : Rec} (h : (upP to r).1 = 0) : chkR r = 0 ∧ 1 ≤ to ∧ to ≤ 3 ∧ r.x.v ≤ to ∧ (upP to r).2 = carP to r := by
  unfold upP at h ⊢
  by_cases hc : lckE to r = 0
  · rw [if_neg (by simpa using hc)] at h ⊢
    have := lck_zero.1 hc
    by_cases hv : to < r.x.v
    · rw [if_pos hv] at h; simp at h
    · rw [if_neg hv]; exact ⟨this.1, this.2.1, this.2.2, by omega, rfl⟩
  · rw [if_pos hc] at h; exact absurd h hc
theorem up_bad {to : Int} {r : Rec} (h : ¬ (chkR r = 0 ∧ 1 ≤ to ∧ to ≤ 3 ∧ r.x.v ≤ to)) : (upP to r).1 ≠ 0 := fun h0 => h ⟨(up_zero h0).1, (up_zero h0).2.1, (up_zero h0).2.2.1, (up_zero h0).2.2.2.1⟩
theorem down_zero {to : Int} {r : Rec} (h : (downP to r).1 = 0) : chkR r = 0 ∧ 1 ≤ to ∧ to ≤ 3 ∧ to ≤ r.x.v ∧ carP r.x.v (carP to r) = r ∧ (downP to r).2 = carP to r := by
  unfold downP at h ⊢
  by_cases hc : lckE to r = 0
  · rw [if_neg (by simpa using hc)] at h ⊢
    have := lck_zero.1 hc
    by_cases hv : r.x.v < to
    · rw [if_pos hv] at h; simp at h
    · rw [if_neg hv] at h ⊢
      cases he : eqR (carP r.x.v (carP to r)) r with
      | false => rw [he] at h; simp at h
      | true => exact ⟨this.1, this.2.1, this.2.2, by omega, (eqR_iff _ _).1 he, rfl⟩
  · rw [if_pos hc] at h; exact absurd h hc
theorem down_bad {to : Int} {r : Rec} (h : ¬ (chkR r = 0 ∧ 1 ≤ to ∧ to ≤ r.x.v)) : (downP to r).1 ≠ 0 := fun h0 => h ⟨(down_zero h0).1, (down_zero h0).2.1, (down_zero h0).2.2.2.1⟩
theorem down_good {to : Int} {r : Rec} (h : chkR r = 0) (h1 : 1 ≤ to) (h2 : to ≤ 3) (h3 : to ≤ r.x.v) (he : carP r.x.v (carP to r) = r) : downP to r = (0, carP to r) := by
  unfold downP
  rw [if_neg (by simpa using lck_zero.2 ⟨h, h1, h2⟩), if_neg (by omega), (eqR_iff _ _).2 he]
  rfl
theorem down_lossy {to : Int} {r : Rec} (h : chkR r = 0) (h1 : 1 ≤ to) (h2 : to ≤ 3) (h3 : to ≤ r.x.v) (he : ¬ carP r.x.v (carP to r) = r) : downP to r = (40, zRec) := by
  unfold downP
  have : eqR (carP r.x.v (carP to r)) r = false := by
    rw [← Bool.not_eq_true, eqR_iff]
    exact he
  rw [if_neg (by simpa using lck_zero.2 ⟨h, h1, h2⟩), if_neg (by omega), this]
  rfl
/-- fields that fit stay so -/
theorem fit_iff (x : Nums) : x.fit ↔ ((-9223372036854775808 ≤ x.k ∧ x.k ≤ 9223372036854775807) ∧ (-9223372036854775808 ≤ x.s ∧ x.s ≤ 9223372036854775807) ∧ (-9223372036854775808 ≤ x.p ∧ x.p ≤ 9223372036854775807) ∧ (-9223372036854775808 ≤ x.t ∧ x.t ≤ 9223372036854775807) ∧ (-9223372036854775808 ≤ x.a ∧ x.a ≤ 9223372036854775807) ∧ (-9223372036854775808 ≤ x.l ∧ x.l ≤ 9223372036854775807) ∧ (-9223372036854775808 ≤ x.c ∧ x.c ≤ 9223372036854775807) ∧ (-9223372036854775808 ≤ x.n ∧ x.n ≤ 9223372036854775807) ∧ (-9223372036854775808 ≤ x.i ∧ x.i ≤ 9223372036854775807)) := by
  constructor
  · intro h
    exact ⟨h 1 (by omega) (by omega), h 2 (by omega) (by omega), h 3 (by omega) (by omega), h 4 (by omega) (by omega), h 5 (by omega) (by omega), h 6 (by omega) (by omega), h 7 (by omega) (by omega), h 8 (by omega) (by omega), h 9 (by omega) (by omega)⟩
  · rintro ⟨h1, h2, h3, h4, h5, h6, h7, h8, h9⟩ t a b
    obtain rfl | rfl | rfl | rfl | rfl | rfl | rfl | rfl | rfl : t = 1 ∨ t = 2 ∨ t = 3 ∨ t = 4 ∨ t = 5 ∨ t = 6 ∨ t = 7 ∨ t = 8 ∨ t = 9 := by omega
    · exact h1
    · exact h2
    · exact h3
    · exact h4
    · exact h5
    · exact h6
    · exact h7
    · exact h8
    · exact h9
theorem deedP_fit (j : Nat) (r : Rec) (h : r.x.fit) : (deedP j r).x.fit := by
  rw [fit_iff] at *
  unfold deedP
  split
  · unfold cOne
    split
    · simp only; omega
    · split
      · simp only; omega
      · split <;> (simp only; omega)
  · split
    · exact h
    · split
      · simp only [cThree]; omega
      · unfold cBack
        split <;> (simp only; omega)
theorem carL_fit : ∀ (ks : List Nat) (r : Rec), r.x.fit → (carL ks r).x.fit
  | [], _, h => h
  | k :: ks, r, h => carL_fit ks (deedP k r) (deedP_fit k r h)
theorem zRec_fit : zRec.x.fit := by
  rw [fit_iff]
  simp only [zRec, zeroNums]
  omega
end Go.Proofs.YtdnackjakfiffaaGreatDoor
