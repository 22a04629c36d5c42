import Derived.Test.YtenhaogheilmoaaDoorQR5
/-
  Pure: what readParts reads, Encode writes.
-/
namespace Go.Proofs.YtenhaogheilmoaaDoor
open Go Go.RowKit
open Wb

theorem ru_inv (b : List Nat) (hok : ok b) (p : Int) (v : Nat) (e : Int) (h : Wn.ru b p = (v, e, 0)) : ∃ pn : Nat, p = (pn : Int) ∧ pn ≤ b.length ∧ e = ((pn + (Wn.uint v).length : Nat) : Int) ∧ pn + (Wn.uint v).length ≤ b.length ∧ b.drop pn = Wn.uint v ++ b.drop (pn + (Wn.uint v).length) ∧ v < 18446744073709551616 := by
  rcases Wn.ru_cases b p with ⟨e', he, _, hr⟩ | ⟨q, v', n, rfl, hq, hn, hrd, hr⟩
  · rw [hr] at h
    simp at h
    omega
  · rw [hr] at h
    obtain ⟨rfl, h2⟩ := Prod.mk.inj h
    obtain ⟨rfl, _⟩ := Prod.mk.inj h2
    obtain ⟨hl, htk, hlt⟩ := rd_back0 _ _ _ (ok_drop hok q) hrd
    refine ⟨q, rfl, by omega, by rw [hl], by omega, ?_, hlt⟩
    rw [← hl, ← htk, ← List.drop_drop]
    rw [htk, hl]
    conv => lhs; rw [← List.take_append_drop n (b.drop q)]
    rw [htk, ← hl]
theorem nbs_bstr (l : List Nat) (h : ok l) : nbs (bstr l) = l := by
  show ((l.map UInt8.ofNat).toArray.toList).map UInt8.toNat = l
  rw [List.toList_toArray, List.map_map]
  conv => rhs; rw [← List.map_id l]
  apply List.map_congr_left
  intro x hx
  exact UInt8.toNat_ofNat_of_lt' (show x < 256 from h x hx)
theorem rn_inv (b : List Nat) (hok : ok b) (p : Nat) (z e : Int) (h : rn b (p : Int) = (z, e, 0)) : 0 ≤ z ∧ z ≤ 9223372036854775807 ∧ ∃ p2 : Nat, e = (p2 : Int) ∧ p2 ≤ b.length ∧ b.drop p = Wn.uint z.toNat ++ b.drop p2 := by
  obtain ⟨v, e', c, hr⟩ : ∃ v e' c, Wn.ru b (p : Int) = (v, e', c) := ⟨_, _, _, rfl⟩
  unfold rn at h
  rw [hr] at h
  simp only at h
  by_cases hc : c = 0
  · subst hc
    rw [if_neg (by simp)] at h
    by_cases hv : 9223372036854775807 < v
    · rw [if_pos hv] at h; simp at h
    · rw [if_neg hv] at h
      obtain ⟨rfl, h2⟩ := Prod.mk.inj h
      obtain ⟨rfl, _⟩ := Prod.mk.inj h2
      obtain ⟨pn, hp, _, he, hle, hd, _⟩ := ru_inv b hok _ v e' hr
      obtain rfl : pn = p := by omega
      exact ⟨by omega, by omega, _, he, hle, by rw [show ((v : Int)).toNat = v by omega]; exact hd⟩
  · rw [if_pos hc] at h
    simp at h
    omega
theorem ri_inv (b : List Nat) (hok : ok b) (p : Nat) (z e : Int) (h : ri b (p : Int) = (z, e, 0)) : -9223372036854775808 ≤ z ∧ z ≤ 9223372036854775807 ∧ ∃ p2 : Nat, e = (p2 : Int) ∧ p2 ≤ b.length ∧ b.drop p = Wn.uint (zz z) ++ b.drop p2 := by
  obtain ⟨v, e', c, hr⟩ : ∃ v e' c, Wn.ru b (p : Int) = (v, e', c) := ⟨_, _, _, rfl⟩
  unfold ri at h
  rw [hr] at h
  simp only at h
  by_cases hc : c = 0
  · subst hc
    rw [if_neg (by simp)] at h
    obtain ⟨rfl, h2⟩ := Prod.mk.inj h
    obtain ⟨rfl, _⟩ := Prod.mk.inj h2
    obtain ⟨pn, hp, _, he, hle, hd, hlt⟩ := ru_inv b hok _ v e' hr
    obtain rfl : pn = p := by omega
    have hu := uz_lt v hlt
    exact ⟨hu.1, hu.2, _, he, hle, by rw [zz_uz]; exact hd⟩
  · rw [if_pos hc] at h
    simp at h
    omega
theorem rb_inv (b : List Nat) (hok : ok b) (p : Nat) (m : Int) (s : List Nat) (e : Int) (h : rb b (p : Int) m = (s, e, 0)) : ok s ∧ ∃ p2 : Nat, e = (p2 : Int) ∧ p2 ≤ b.length ∧ b.drop p = (Wn.uint s.length ++ s) ++ b.drop p2 := by
  obtain ⟨v, e', c, hr⟩ : ∃ v e' c, Wn.ru b (p : Int) = (v, e', c) := ⟨_, _, _, rfl⟩
  unfold rb at h
  rw [hr] at h
  simp only at h
  by_cases hm : m < 0
  · rw [if_pos hm] at h; simp at h
  · rw [if_neg hm] at h
    by_cases hc : c = 0
    · subst hc
      rw [if_neg (by simp)] at h
      by_cases h1 : m < (v : Int)
      · rw [if_pos h1] at h; simp at h
      · rw [if_neg h1] at h
        by_cases h2 : (b.length : Int) - e' < (v : Int)
        · rw [if_pos h2] at h; simp at h
        · rw [if_neg h2] at h
          obtain ⟨rfl, h3⟩ := Prod.mk.inj h
          obtain ⟨rfl, _⟩ := Prod.mk.inj h3
          obtain ⟨pn, hp, _, he, hle, hd, _⟩ := ru_inv b hok _ v e' hr
          obtain rfl : pn = p := by omega
          subst he
          have e1 : (((pn + (Wn.uint v).length : Nat) : Int)).toNat = pn + (Wn.uint v).length := by omega
          rw [e1]
          have hs : ((b.take (pn + (Wn.uint v).length + v)).drop (pn + (Wn.uint v).length)) = (b.drop (pn + (Wn.uint v).length)).take v := by
            rw [List.drop_take, show pn + (Wn.uint v).length + v - (pn + (Wn.uint v).length) = v by omega]
          rw [hs]
          have hlen : ((b.drop (pn + (Wn.uint v).length)).take v).length = v := by
            rw [List.length_take, List.length_drop]
            omega
          refine ⟨ok_take (ok_drop hok _) _, pn + (Wn.uint v).length + v, by omega, by omega, ?_⟩
          rw [hlen, hd, List.append_assoc]
          congr 1
          conv => lhs; rw [← List.take_append_drop v (b.drop (pn + (Wn.uint v).length))]
          rw [List.drop_drop]
    · rw [if_pos hc] at h
      simp at h
      omega
/-- the fields whose tag is below k -/
def restr (q : Pts) (k : Nat) : Pts :=
  ⟨⟨0, if 1 < k then q.x.k else 0, if 2 < k then q.x.s else 0, if 3 < k then q.x.p else 0, if 4 < k then q.x.t else 0, if 5 < k then q.x.a else 0, if 6 < k then q.x.l else 0, if 7 < k then q.x.c else 0, if 8 < k then q.x.n else 0, if 9 < k then q.x.i else 0⟩, if 10 < k then q.nm else [], if 11 < k then q.l else []⟩
/-- what was read is in bounds -/
def Pts.sane (q : Pts) : Prop := (∀ t, 1 ≤ t → t ≤ 9 → -9223372036854775808 ≤ q.x.tag t ∧ q.x.tag t ≤ 9223372036854775807) ∧ ok q.nm ∧ ok q.l
/-- a field that is read: its bytes, the fields below it, what is sane -/
theorem rdp_inv (b : List Nat) (hok : ok b) (p t : Nat) (q q2 : Pts) (e : Int) (h1 : 1 ≤ t) (h2 : t ≤ 11) (hs : q.sane) (hv : q.x.v = 0) (h : rdp b (p : Int) t q = (e, 0, q2)) (hr : restr q t = q) :
    q2.sane ∧ q2.x.v = 0 ∧ restr q2 t = q ∧ restr q2 (t + 1) = q2 ∧ ∃ p2 : Nat, e = (p2 : Int) ∧ p2 ≤ b.length ∧ b.drop p = valB q2.x (bstr q2.nm) q2.l t ++ b.drop p2 := by
  obtain rfl | rfl | rfl | rfl | rfl | rfl | rfl | rfl | rfl | rfl | rfl : t = 1 ∨ t = 2 ∨ t = 3 ∨ t = 4 ∨ t = 5 ∨ t = 6 ∨ t = 7 ∨ t = 8 ∨ t = 9 ∨ t = 10 ∨ t = 11 := by omega
  · obtain ⟨z, e', c, hrn⟩ : ∃ z e' c, rn b (p : Int) = (z, e', c) := ⟨_, _, _, rfl⟩
    have h' : ((rn b (p : Int)).2.1, (rn b (p : Int)).2.2, ({ q with x := q.x.put 1 (rn b (p : Int)).1 } : Pts)) = (e, 0, q2) := h
    rw [hrn] at h'
    simp only at h'
    obtain ⟨rfl, h3⟩ := Prod.mk.inj h'
    obtain ⟨rfl, rfl⟩ := Prod.mk.inj h3
    obtain ⟨hz0, hz1, p2, he, hle, hd⟩ := rn_inv b hok p z e' hrn
    refine ⟨⟨fun t a b' => ?_, hs.2⟩, hv, ?_, ?_, p2, he, hle, ?_⟩
    · by_cases ht : t = 1
      · subst ht; exact ⟨by show -9223372036854775808 ≤ z; omega, hz1⟩
      · have := hs.1 t a b'
        obtain rfl | rfl | rfl | rfl | rfl | rfl | rfl | rfl | rfl : t = 1 ∨ t = 2 ∨ t = 3 ∨ t = 4 ∨ t = 5 ∨ t = 6 ∨ t = 7 ∨ t = 8 ∨ t = 9 := by omega
        all_goals first | exact this | exact absurd rfl ht
    · rw [← hr]; rfl
    · have hr' := hr
      rw [← hr']
      rfl
    · exact hd
  · obtain ⟨z, e', c, hrn⟩ : ∃ z e' c, rn b (p : Int) = (z, e', c) := ⟨_, _, _, rfl⟩
    have h' : ((rn b (p : Int)).2.1, (rn b (p : Int)).2.2, ({ q with x := q.x.put 2 (rn b (p : Int)).1 } : Pts)) = (e, 0, q2) := h
    rw [hrn] at h'
    simp only at h'
    obtain ⟨rfl, h3⟩ := Prod.mk.inj h'
    obtain ⟨rfl, rfl⟩ := Prod.mk.inj h3
    obtain ⟨hz0, hz1, p2, he, hle, hd⟩ := rn_inv b hok p z e' hrn
    refine ⟨⟨fun t a b' => ?_, hs.2⟩, hv, ?_, ?_, p2, he, hle, ?_⟩
    · by_cases ht : t = 2
      · subst ht; exact ⟨by show -9223372036854775808 ≤ z; omega, hz1⟩
      · have := hs.1 t a b'
        obtain rfl | rfl | rfl | rfl | rfl | rfl | rfl | rfl | rfl : t = 1 ∨ t = 2 ∨ t = 3 ∨ t = 4 ∨ t = 5 ∨ t = 6 ∨ t = 7 ∨ t = 8 ∨ t = 9 := by omega
        all_goals first | exact this | exact absurd rfl ht
    · rw [← hr]; rfl
    · have hr' := hr
      rw [← hr']
      rfl
    · exact hd
  · obtain ⟨z, e', c, hrn⟩ : ∃ z e' c, rn b (p : Int) = (z, e', c) := ⟨_, _, _, rfl⟩
    have h' : ((rn b (p : Int)).2.1, (rn b (p : Int)).2.2, ({ q with x := q.x.put 3 (rn b (p : Int)).1 } : Pts)) = (e, 0, q2) := h
    rw [hrn] at h'
    simp only at h'
    obtain ⟨rfl, h3⟩ := Prod.mk.inj h'
    obtain ⟨rfl, rfl⟩ := Prod.mk.inj h3
    obtain ⟨hz0, hz1, p2, he, hle, hd⟩ := rn_inv b hok p z e' hrn
    refine ⟨⟨fun t a b' => ?_, hs.2⟩, hv, ?_, ?_, p2, he, hle, ?_⟩
    · by_cases ht : t = 3
      · subst ht; exact ⟨by show -9223372036854775808 ≤ z; omega, hz1⟩
      · have := hs.1 t a b'
        obtain rfl | rfl | rfl | rfl | rfl | rfl | rfl | rfl | rfl : t = 1 ∨ t = 2 ∨ t = 3 ∨ t = 4 ∨ t = 5 ∨ t = 6 ∨ t = 7 ∨ t = 8 ∨ t = 9 := by omega
        all_goals first | exact this | exact absurd rfl ht
    · rw [← hr]; rfl
    · have hr' := hr
      rw [← hr']
      rfl
    · exact hd
  · obtain ⟨z, e', c, hrn⟩ : ∃ z e' c, rn b (p : Int) = (z, e', c) := ⟨_, _, _, rfl⟩
    have h' : ((rn b (p : Int)).2.1, (rn b (p : Int)).2.2, ({ q with x := q.x.put 4 (rn b (p : Int)).1 } : Pts)) = (e, 0, q2) := h
    rw [hrn] at h'
    simp only at h'
    obtain ⟨rfl, h3⟩ := Prod.mk.inj h'
    obtain ⟨rfl, rfl⟩ := Prod.mk.inj h3
    obtain ⟨hz0, hz1, p2, he, hle, hd⟩ := rn_inv b hok p z e' hrn
    refine ⟨⟨fun t a b' => ?_, hs.2⟩, hv, ?_, ?_, p2, he, hle, ?_⟩
    · by_cases ht : t = 4
      · subst ht; exact ⟨by show -9223372036854775808 ≤ z; omega, hz1⟩
      · have := hs.1 t a b'
        obtain rfl | rfl | rfl | rfl | rfl | rfl | rfl | rfl | rfl : t = 1 ∨ t = 2 ∨ t = 3 ∨ t = 4 ∨ t = 5 ∨ t = 6 ∨ t = 7 ∨ t = 8 ∨ t = 9 := by omega
        all_goals first | exact this | exact absurd rfl ht
    · rw [← hr]; rfl
    · have hr' := hr
      rw [← hr']
      rfl
    · exact hd
  · obtain ⟨z, e', c, hrn⟩ : ∃ z e' c, rn b (p : Int) = (z, e', c) := ⟨_, _, _, rfl⟩
    have h' : ((rn b (p : Int)).2.1, (rn b (p : Int)).2.2, ({ q with x := q.x.put 5 (rn b (p : Int)).1 } : Pts)) = (e, 0, q2) := h
    rw [hrn] at h'
    simp only at h'
    obtain ⟨rfl, h3⟩ := Prod.mk.inj h'
    obtain ⟨rfl, rfl⟩ := Prod.mk.inj h3
    obtain ⟨hz0, hz1, p2, he, hle, hd⟩ := rn_inv b hok p z e' hrn
    refine ⟨⟨fun t a b' => ?_, hs.2⟩, hv, ?_, ?_, p2, he, hle, ?_⟩
    · by_cases ht : t = 5
      · subst ht; exact ⟨by show -9223372036854775808 ≤ z; omega, hz1⟩
      · have := hs.1 t a b'
        obtain rfl | rfl | rfl | rfl | rfl | rfl | rfl | rfl | rfl : t = 1 ∨ t = 2 ∨ t = 3 ∨ t = 4 ∨ t = 5 ∨ t = 6 ∨ t = 7 ∨ t = 8 ∨ t = 9 := by omega
        all_goals first | exact this | exact absurd rfl ht
    · rw [← hr]; rfl
    · have hr' := hr
      rw [← hr']
      rfl
    · exact hd
  · obtain ⟨z, e', c, hrn⟩ : ∃ z e' c, rn b (p : Int) = (z, e', c) := ⟨_, _, _, rfl⟩
    have h' : ((rn b (p : Int)).2.1, (rn b (p : Int)).2.2, ({ q with x := q.x.put 6 (rn b (p : Int)).1 } : Pts)) = (e, 0, q2) := h
    rw [hrn] at h'
    simp only at h'
    obtain ⟨rfl, h3⟩ := Prod.mk.inj h'
    obtain ⟨rfl, rfl⟩ := Prod.mk.inj h3
    obtain ⟨hz0, hz1, p2, he, hle, hd⟩ := rn_inv b hok p z e' hrn
    refine ⟨⟨fun t a b' => ?_, hs.2⟩, hv, ?_, ?_, p2, he, hle, ?_⟩
    · by_cases ht : t = 6
      · subst ht; exact ⟨by show -9223372036854775808 ≤ z; omega, hz1⟩
      · have := hs.1 t a b'
        obtain rfl | rfl | rfl | rfl | rfl | rfl | rfl | rfl | rfl : t = 1 ∨ t = 2 ∨ t = 3 ∨ t = 4 ∨ t = 5 ∨ t = 6 ∨ t = 7 ∨ t = 8 ∨ t = 9 := by omega
        all_goals first | exact this | exact absurd rfl ht
    · rw [← hr]; rfl
    · have hr' := hr
      rw [← hr']
      rfl
    · exact hd
  · obtain ⟨z, e', c, hrn⟩ : ∃ z e' c, ri b (p : Int) = (z, e', c) := ⟨_, _, _, rfl⟩
    have h' : ((ri b (p : Int)).2.1, (ri b (p : Int)).2.2, ({ q with x := q.x.put 7 (ri b (p : Int)).1 } : Pts)) = (e, 0, q2) := h
    rw [hrn] at h'
    simp only at h'
    obtain ⟨rfl, h3⟩ := Prod.mk.inj h'
    obtain ⟨rfl, rfl⟩ := Prod.mk.inj h3
    obtain ⟨hz0, hz1, p2, he, hle, hd⟩ := ri_inv b hok p z e' hrn
    refine ⟨⟨fun t a b' => ?_, hs.2⟩, hv, ?_, ?_, p2, he, hle, ?_⟩
    · by_cases ht : t = 7
      · subst ht; exact ⟨by show -9223372036854775808 ≤ z; omega, hz1⟩
      · have := hs.1 t a b'
        obtain rfl | rfl | rfl | rfl | rfl | rfl | rfl | rfl | rfl : t = 1 ∨ t = 2 ∨ t = 3 ∨ t = 4 ∨ t = 5 ∨ t = 6 ∨ t = 7 ∨ t = 8 ∨ t = 9 := by omega
        all_goals first | exact this | exact absurd rfl ht
    · rw [← hr]; rfl
    · have hr' := hr
      rw [← hr']
      rfl
    · exact hd
  · obtain ⟨z, e', c, hrn⟩ : ∃ z e' c, rn b (p : Int) = (z, e', c) := ⟨_, _, _, rfl⟩
    have h' : ((rn b (p : Int)).2.1, (rn b (p : Int)).2.2, ({ q with x := q.x.put 8 (rn b (p : Int)).1 } : Pts)) = (e, 0, q2) := h
    rw [hrn] at h'
    simp only at h'
    obtain ⟨rfl, h3⟩ := Prod.mk.inj h'
    obtain ⟨rfl, rfl⟩ := Prod.mk.inj h3
    obtain ⟨hz0, hz1, p2, he, hle, hd⟩ := rn_inv b hok p z e' hrn
    refine ⟨⟨fun t a b' => ?_, hs.2⟩, hv, ?_, ?_, p2, he, hle, ?_⟩
    · by_cases ht : t = 8
      · subst ht; exact ⟨by show -9223372036854775808 ≤ z; omega, hz1⟩
      · have := hs.1 t a b'
        obtain rfl | rfl | rfl | rfl | rfl | rfl | rfl | rfl | rfl : t = 1 ∨ t = 2 ∨ t = 3 ∨ t = 4 ∨ t = 5 ∨ t = 6 ∨ t = 7 ∨ t = 8 ∨ t = 9 := by omega
        all_goals first | exact this | exact absurd rfl ht
    · rw [← hr]; rfl
    · have hr' := hr
      rw [← hr']
      rfl
    · exact hd
  · obtain ⟨z, e', c, hrn⟩ : ∃ z e' c, rn b (p : Int) = (z, e', c) := ⟨_, _, _, rfl⟩
    have h' : ((rn b (p : Int)).2.1, (rn b (p : Int)).2.2, ({ q with x := q.x.put 9 (rn b (p : Int)).1 } : Pts)) = (e, 0, q2) := h
    rw [hrn] at h'
    simp only at h'
    obtain ⟨rfl, h3⟩ := Prod.mk.inj h'
    obtain ⟨rfl, rfl⟩ := Prod.mk.inj h3
    obtain ⟨hz0, hz1, p2, he, hle, hd⟩ := rn_inv b hok p z e' hrn
    refine ⟨⟨fun t a b' => ?_, hs.2⟩, hv, ?_, ?_, p2, he, hle, ?_⟩
    · by_cases ht : t = 9
      · subst ht; exact ⟨by show -9223372036854775808 ≤ z; omega, hz1⟩
      · have := hs.1 t a b'
        obtain rfl | rfl | rfl | rfl | rfl | rfl | rfl | rfl | rfl : t = 1 ∨ t = 2 ∨ t = 3 ∨ t = 4 ∨ t = 5 ∨ t = 6 ∨ t = 7 ∨ t = 8 ∨ t = 9 := by omega
        all_goals first | exact this | exact absurd rfl ht
    · rw [← hr]; rfl
    · have hr' := hr
      rw [← hr']
      rfl
    · exact hd
  · obtain ⟨s, e', c, hrb⟩ : ∃ s e' c, rb b (p : Int) 192 = (s, e', c) := ⟨_, _, _, rfl⟩
    have h' : ((rb b (p : Int) 192).2.1, (rb b (p : Int) 192).2.2, ({ q with nm := (rb b (p : Int) 192).1 } : Pts)) = (e, 0, q2) := h
    rw [hrb] at h'
    simp only at h'
    obtain ⟨rfl, h3⟩ := Prod.mk.inj h'
    obtain ⟨rfl, rfl⟩ := Prod.mk.inj h3
    obtain ⟨hoks, p2, he, hle, hd⟩ := rb_inv b hok p 192 s e' hrb
    refine ⟨⟨hs.1, hoks, hs.2.2⟩, hv, ?_, ?_, p2, he, hle, ?_⟩
    · rw [← hr]; rfl
    · have hr' := hr
      rw [← hr']
      rfl
    · show _ = (Wn.uint (nbs (bstr s)).length ++ nbs (bstr s)) ++ _
      rw [nbs_bstr s hoks]
      exact hd
  · obtain ⟨s, e', c, hrb⟩ : ∃ s e' c, rb b (p : Int) 16384 = (s, e', c) := ⟨_, _, _, rfl⟩
    have h' : ((rb b (p : Int) 16384).2.1, (rb b (p : Int) 16384).2.2, ({ q with l := (rb b (p : Int) 16384).1 } : Pts)) = (e, 0, q2) := h
    rw [hrb] at h'
    simp only at h'
    obtain ⟨rfl, h3⟩ := Prod.mk.inj h'
    obtain ⟨rfl, rfl⟩ := Prod.mk.inj h3
    obtain ⟨hoks, p2, he, hle, hd⟩ := rb_inv b hok p 16384 s e' hrb
    refine ⟨⟨hs.1, hs.2.1, hoks⟩, hv, ?_, ?_, p2, he, hle, ?_⟩
    · rw [← hr]; rfl
    · have hr' := hr
      rw [← hr']
      rfl
    · exact hd
end Go.Proofs.YtenhaogheilmoaaDoor

/-
  Pure: what Decode reads, Encode writes.
-/
namespace Go.Proofs.YtenhaogheilmoaaDoor
open Go Go.RowKit
open Wb

theorem if_if_le {α : Type} (i j k : Nat) (a z : α) (h : j ≤ k) : (if i < j then (if i < k then a else z) else z) = if i < j then a else z := by
  by_cases h1 : i < j
  · rw [if_pos h1, if_pos h1, if_pos (by omega)]
  · rw [if_neg h1, if_neg h1]
theorem if_if_ge {α : Type} (i j k : Nat) (a z : α) (h : j ≤ k) : (if i < k then (if i < j then a else z) else z) = if i < j then a else z := by
  by_cases h1 : i < j
  · rw [if_pos h1, if_pos (by omega)]
  · rw [if_neg h1]; split <;> rfl
theorem restr_le (q : Pts) (j k : Nat) (h : j ≤ k) : restr (restr q k) j = restr q j := by
  unfold restr
  simp only [if_if_le _ _ _ _ _ h]
theorem restr_ge (q : Pts) (j k : Nat) (h : j ≤ k) : restr (restr q j) k = restr q j := by
  unfold restr
  simp only [if_if_ge _ _ _ _ _ h]
/-- is the field of a tag zero? -/
def Pts.z (q : Pts) (t : Nat) : Bool := zeroT q.x (bstr q.nm) q.l.length t
theorem z_below (q : Pts) (k t : Nat) (h1 : 1 ≤ t) (h2 : t ≤ 11) (h : t < k) : (restr q k).z t = q.z t := by
  obtain rfl | rfl | rfl | rfl | rfl | rfl | rfl | rfl | rfl | rfl | rfl : t = 1 ∨ t = 2 ∨ t = 3 ∨ t = 4 ∨ t = 5 ∨ t = 6 ∨ t = 7 ∨ t = 8 ∨ t = 9 ∨ t = 10 ∨ t = 11 := by omega
  all_goals simp [Pts.z, zeroT, Nums.tag, restr, h]
theorem z_above (q : Pts) (k t : Nat) (h1 : 1 ≤ t) (h2 : t ≤ 11) (h : k ≤ t) : (restr q k).z t = true := by
  have h' : ¬ t < k := by omega
  obtain rfl | rfl | rfl | rfl | rfl | rfl | rfl | rfl | rfl | rfl | rfl : t = 1 ∨ t = 2 ∨ t = 3 ∨ t = 4 ∨ t = 5 ∨ t = 6 ∨ t = 7 ∨ t = 8 ∨ t = 9 ∨ t = 10 ∨ t = 11 := by omega
  all_goals simp [Pts.z, zeroT, Nums.tag, restr, h', bstr, ByteArray.toList_eq]
theorem v_below (q : Pts) (k t : Nat) (h1 : 1 ≤ t) (h2 : t ≤ 11) (h : t < k) : valB (restr q k).x (bstr (restr q k).nm) (restr q k).l t = valB q.x (bstr q.nm) q.l t := by
  obtain rfl | rfl | rfl | rfl | rfl | rfl | rfl | rfl | rfl | rfl | rfl : t = 1 ∨ t = 2 ∨ t = 3 ∨ t = 4 ∨ t = 5 ∨ t = 6 ∨ t = 7 ∨ t = 8 ∨ t = 9 ∨ t = 10 ∨ t = 11 := by omega
  all_goals simp [valB, Nums.tag, restr, h]
/-- fields that are zero write nothing -/
theorem encN_skip (q : Pts) : ∀ (m n : Nat), n ≤ m → m ≤ 11 → (∀ t, 12 - m ≤ t → t < 12 - n → q.z t = true) → encN q.x (bstr q.nm) q.l m = encN q.x (bstr q.nm) q.l n
  | 0, n, h, _, _ => by rw [show n = 0 by omega]
  | m + 1, n, h, h11, hz => by
    by_cases e : n = m + 1
    · rw [e]
    · rw [encN_succ]
      have h1 : zeroT q.x (bstr q.nm) q.l.length (11 - m) = true := hz (11 - m) (by omega) (by omega)
      rw [h1]
      have := encN_skip q m n (by omega) (by omega) (fun t a b => hz t (by omega) b)
      simpa using this
theorem rpF_inv (b : List Nat) (hok : ok b) : ∀ (n p last : Nat) (q q' : Pts), p ≤ b.length → last ≤ 11 → 12 ≤ n + last → q.sane → q.x.v = 0 → restr q (last + 1) = q → rpF b n (p : Int) last q = (0, q') →
    q'.sane ∧ q'.x.v = 0 ∧ restr q' (last + 1) = q ∧ b.drop p = encN q'.x (bstr q'.nm) q'.l (11 - last)
  | 0, p, last, q, q', _, hl, hn, _, _, _, _ => by omega
  | n + 1, p, last, q, q', hp, hl, hn, hs, hv, hr, h => by
    rw [rpF] at h
    by_cases hlt : (p : Int) < (b.length : Int)
    · rw [if_pos hlt] at h
      obtain ⟨t, e1, c1, hrt⟩ : ∃ t e1 c1, rt b (p : Int) last = (t, e1, c1) := ⟨_, _, _, rfl⟩
      rw [hrt] at h
      simp only at h
      by_cases hc1 : c1 = 0
      · subst hc1
        rw [if_neg (by simp)] at h
        have hto := rt_ok b p last (by rw [hrt])
        rw [hrt] at hto
        simp only at hto
        have hru : Wn.ru b (p : Int) = (t, e1, 0) := by
          unfold rt at hrt
          obtain ⟨v, e', c, hr0⟩ : ∃ v e' c, Wn.ru b (p : Int) = (v, e', c) := ⟨_, _, _, rfl⟩
          rw [hr0] at hrt ⊢
          simp only at hrt
          by_cases hc : c = 0
          · subst hc
            rw [if_neg (by simp)] at hrt
            by_cases hx : v ≤ last ∨ 11 < v
            · rw [if_pos hx] at hrt; simp at hrt
            · rw [if_neg hx] at hrt
              exact hrt
          · rw [if_pos hc] at hrt
            simp at hrt
            omega
        obtain ⟨pn, hpn, _, he1, hle1, hd1, _⟩ := ru_inv b hok _ t e1 hru
        obtain rfl : pn = p := by omega
        subst he1
        obtain ⟨e2, c2, q2, hrd⟩ : ∃ e2 c2 q2, rdp b ((pn + (Wn.uint t).length : Nat) : Int) t q = (e2, c2, q2) := ⟨_, _, _, rfl⟩
        rw [hrd] at h
        simp only at h
        by_cases hc2 : c2 = 0
        · subst hc2
          rw [if_neg (by simp)] at h
          have hrt' : restr q t = q := by rw [← hr, restr_ge q _ _ (by omega)]
          obtain ⟨hs2, hv2, hb2, ha2, p2, he2, hle2, hd2⟩ := rdp_inv b hok _ t q q2 e2 (by omega) hto.2 hs hv hrd hrt'
          subst he2
          cases hz : zeroT q2.x (bstr q2.nm) q2.l.length t with
          | true =>
            rw [hz] at h
            simp at h
          | false =>
            rw [hz] at h
            simp only [Bool.false_eq_true, if_false] at h
            obtain ⟨hs', hv', hb', hd'⟩ := rpF_inv b hok n p2 t q2 q' hle2 hto.2 (by omega) hs2 hv2 ha2 h
            have hq : restr q' (last + 1) = q := by
              rw [← restr_le q' (last + 1) (t + 1) (by omega), hb', ← restr_le q2 (last + 1) t (by omega), hb2, hr]
            refine ⟨hs', hv', hq, ?_⟩
            have hzt : zeroT q'.x (bstr q'.nm) q'.l.length t = false := by
              have h5 := z_below q' (t + 1) t (by omega) hto.2 (by omega)
              rw [hb'] at h5
              exact h5.symm.trans hz
            have hvt : valB q2.x (bstr q2.nm) q2.l t = valB q'.x (bstr q'.nm) q'.l t := by
              have h5 := v_below q' (t + 1) t (by omega) hto.2 (by omega)
              rw [hb'] at h5
              exact h5
            have hsk := encN_skip q' (11 - last) (12 - t) (by omega) (by omega) (fun j a c => by
              have h5 := z_below q' (last + 1 + (t - last)) j (by omega) (by omega) (by omega)
              have h6 : restr q' (last + 1 + (t - last)) = q2 := by rw [show last + 1 + (t - last) = t + 1 by omega]; exact hb'
              rw [h6] at h5
              have h7 := z_below q2 t j (by omega) (by omega) (by omega)
              rw [hb2] at h7
              have h8 := z_above q (last + 1) j (by omega) (by omega) (by omega)
              rw [hr] at h8
              rw [← h5, ← h7]
              exact h8)
            rw [hsk, show 12 - t = (11 - t) + 1 by omega, encN_succ, show 11 - (11 - t) = t by omega, hzt, hd1, hd2, hd', hvt]
            simp
        · rw [if_pos hc2] at h
          have := (Prod.mk.inj h).1
          omega
      · rw [if_pos hc1] at h
        have := (Prod.mk.inj h).1
        omega
    · rw [if_neg hlt] at h
      obtain ⟨_, rfl⟩ := Prod.mk.inj h
      refine ⟨hs, hv, hr, ?_⟩
      have hsk := encN_skip q (11 - last) 0 (by omega) (by omega) (fun j a c => by
        have h8 := z_above q (last + 1) j (by omega) (by omega) (by omega)
        rw [hr] at h8
        exact h8)
      rw [hsk, List.drop_eq_nil_iff.2 (by omega)]
      rfl
theorem dcd_inv (v : Int) (b : List Nat) (hok : ok b) (q : Pts) (h : dcd v b = (0, q)) : q.sane ∧ q.x.v = v ∧ enc q.x (bstr q.nm) q.l = b ∧ chk q.x (bstr q.nm) q.l = 0 := by
  unfold dcd at h
  by_cases hv : 1 ≤ v ∧ v ≤ 3
  · rw [if_neg (by simpa using hv)] at h
    obtain ⟨er, p, hQ⟩ : ∃ er p, rpF b 12 0 0 zeroPts = (er, p) := ⟨_, _, rfl⟩
    rw [hQ] at h
    simp only at h
    by_cases he : er = 0
    · subst he
      rw [if_neg (by simp)] at h
      by_cases hc : chk (p.x.ofV v) (bstr p.nm) p.l = 0
      · rw [if_neg (by simpa using hc)] at h
        obtain ⟨_, rfl⟩ := Prod.mk.inj h
        have hz : zeroPts.sane := ⟨fun t a c => by
          obtain rfl | rfl | rfl | rfl | rfl | rfl | rfl | rfl | rfl : t = 1 ∨ t = 2 ∨ t = 3 ∨ t = 4 ∨ t = 5 ∨ t = 6 ∨ t = 7 ∨ t = 8 ∨ t = 9 := by omega
          all_goals decide, ok_nil, ok_nil⟩
        obtain ⟨hs, _, _, hd⟩ := rpF_inv b hok 12 0 0 zeroPts p (Nat.zero_le _) (by omega) (by omega) hz rfl rfl hQ
        refine ⟨⟨fun t a c => ?_, hs.2⟩, rfl, ?_, hc⟩
        · have := hs.1 t a c
          obtain rfl | rfl | rfl | rfl | rfl | rfl | rfl | rfl | rfl : t = 1 ∨ t = 2 ∨ t = 3 ∨ t = 4 ∨ t = 5 ∨ t = 6 ∨ t = 7 ∨ t = 8 ∨ t = 9 := by omega
          all_goals exact this
        · have h5 : enc (p.x.ofV v) (bstr p.nm) p.l = encN p.x (bstr p.nm) p.l 11 := rfl
          show enc (p.x.ofV v) (bstr p.nm) p.l = b
          rw [h5, ← hd]
          rfl
      · rw [if_pos hc] at h
        exact absurd (Prod.mk.inj h).1 hc
    · rw [if_pos he] at h
      have := (Prod.mk.inj h).1
      omega
  · rw [if_pos hv] at h
    simp at h
end Go.Proofs.YtenhaogheilmoaaDoor
