import Derived.Test.YtdnackjakfiffaaGreatDoorQR2
import Derived.Test.YtdnackjakfiffaaGreatDoorQR3
/-
  Pure: what Encode writes, readParts reads.
-/
namespace Go.Proofs.YtdnackjakfiffaaGreatDoor
open Go Go.RowKit
open Wb

theorem bstr_nbs (s : ByteArray) : bstr (nbs s) = s := by
  have h : (nbs s).map UInt8.ofNat = s.data.toList := by
    unfold nbs
    rw [List.map_map]
    conv => rhs; rw [← List.map_id s.data.toList]
    apply List.map_congr_left
    intro x _
    simp
  show (⟨((nbs s).map UInt8.ofNat).toArray⟩ : ByteArray) = s
  rw [h]
/-- the fields whose tag is below k -/
def part (x : Nums) (nm : ByteArray) (l : List Nat) (k : Nat) : Pts :=
  ⟨⟨0, if 1 < k then x.k else 0, if 2 < k then x.s else 0, if 3 < k then x.p else 0, if 4 < k then x.t else 0, if 5 < k then x.a else 0, if 6 < k then x.l else 0, if 7 < k then x.c else 0, if 8 < k then x.n else 0, if 9 < k then x.i else 0⟩, if 10 < k then nbs nm else [], if 11 < k then l else []⟩
theorem ru_atF (b : List Nat) (p v : Nat) (rest : List Nat) (hp : p ≤ b.length) (h : b.drop p = Wn.uint v ++ rest) (hv : v < 18446744073709551616) : Wn.ru b (p : Int) = (v, ((p + (Wn.uint v).length : Nat) : Int), 0) := by
  rw [Wn.ru_in b p hp v (Wn.uint v).length 0 (by rw [h]; exact Wn.rd_uint0 v rest hv), if_pos rfl]
theorem rn_at (b : List Nat) (p v : Nat) (rest : List Nat) (hp : p ≤ b.length) (h : b.drop p = Wn.uint v ++ rest) (hv : v ≤ 9223372036854775807) : rn b (p : Int) = ((v : Int), ((p + (Wn.uint v).length : Nat) : Int), 0) := by
  unfold rn
  rw [ru_atF b p v rest hp h (by omega)]
  simp only
  rw [if_neg (by simp), if_neg (by omega)]
theorem ri_at (b : List Nat) (p : Nat) (z : Int) (rest : List Nat) (hp : p ≤ b.length) (h : b.drop p = Wn.uint (zz z) ++ rest) (h0 : -9223372036854775808 ≤ z) (h1 : z ≤ 9223372036854775807) : ri b (p : Int) = (z, ((p + (Wn.uint (zz z)).length : Nat) : Int), 0) := by
  unfold ri
  rw [ru_atF b p (zz z) rest hp h (zz_lt z h0 h1)]
  simp only
  rw [if_neg (by simp), uz_zz]
theorem rb_at (b : List Nat) (p : Nat) (s rest : List Nat) (m : Int) (hp : p ≤ b.length) (h : b.drop p = (Wn.uint s.length ++ s) ++ rest) (hm : (s.length : Int) ≤ m) (hm2 : m ≤ 1000000) : rb b (p : Int) m = (s, ((p + (Wn.uint s.length ++ s).length : Nat) : Int), 0) := by
  have h' : b.drop p = Wn.uint s.length ++ (s ++ rest) := by rw [h, List.append_assoc]
  have hlen : b.length = p + ((Wn.uint s.length).length + (s.length + rest.length)) := by
    have := congrArg List.length h'
    simp only [List.length_drop, List.length_append] at this
    omega
  have hd2 : b.drop (p + (Wn.uint s.length).length) = s ++ rest := by rw [← List.drop_drop, h', List.drop_left]
  unfold rb
  rw [ru_atF b p s.length (s ++ rest) hp h' (by omega)]
  simp only
  rw [if_neg (by omega), if_neg (by simp), if_neg (by omega), if_neg (by omega)]
  have e1 : (((p + (Wn.uint s.length).length : Nat) : Int)).toNat = p + (Wn.uint s.length).length := by omega
  rw [e1, List.drop_take, hd2]
  have e2 : p + (Wn.uint s.length).length + s.length - (p + (Wn.uint s.length).length) = s.length := by omega
  rw [e2, List.take_left]
  simp only [List.length_append, Prod.mk.injEq, true_and, and_true]
  omega
theorem part_one (x : Nums) (nm : ByteArray) (l : List Nat) : part x nm l 1 = zeroPts := rfl
theorem part_all (x : Nums) (nm : ByteArray) (l : List Nat) : part x nm l 12 = ⟨x.ofV 0, nbs nm, l⟩ := rfl
/-- a field that is zero is left out -/
theorem part_skip (x : Nums) (nm : ByteArray) (l : List Nat) (k : Nat) (h1 : 1 ≤ k) (h2 : k ≤ 11) (hz : zeroT x nm l.length k = true) : part x nm l (k + 1) = part x nm l k := by
  obtain rfl | rfl | rfl | rfl | rfl | rfl | rfl | rfl | rfl | rfl | rfl : k = 1 ∨ k = 2 ∨ k = 3 ∨ k = 4 ∨ k = 5 ∨ k = 6 ∨ k = 7 ∨ k = 8 ∨ k = 9 ∨ k = 10 ∨ k = 11 := by omega
  · have e : x.k = 0 := by have h : decide (x.k = 0) = true := hz; simpa using h
    simp [part, e]
  · have e : x.s = 0 := by have h : decide (x.s = 0) = true := hz; simpa using h
    simp [part, e]
  · have e : x.p = 0 := by have h : decide (x.p = 0) = true := hz; simpa using h
    simp [part, e]
  · have e : x.t = 0 := by have h : decide (x.t = 0) = true := hz; simpa using h
    simp [part, e]
  · have e : x.a = 0 := by have h : decide (x.a = 0) = true := hz; simpa using h
    simp [part, e]
  · have e : x.l = 0 := by have h : decide (x.l = 0) = true := hz; simpa using h
    simp [part, e]
  · have e : x.c = 0 := by have h : decide (x.c = 0) = true := hz; simpa using h
    simp [part, e]
  · have e : x.n = 0 := by have h : decide (x.n = 0) = true := hz; simpa using h
    simp [part, e]
  · have e : x.i = 0 := by have h : decide (x.i = 0) = true := hz; simpa using h
    simp [part, e]
  · have e : nbs nm = [] := by
      have h : nm.toList.isEmpty = true := hz
      have h2 : nm.toList = [] := by simpa using h
      rw [ByteArray.toList_eq] at h2
      unfold nbs
      rw [h2]
      rfl
    simp [part, e]
  · have e : l = [] := by
      have h : decide (l.length = 0) = true := hz
      exact List.eq_nil_of_length_eq_zero (by simpa using h)
    simp [part, e]
/-- a field that is written is read -/
theorem rdp_at (x : Nums) (nm : ByteArray) (l : List Nat) (b : List Nat) (p k : Nat) (rest : List Nat) (h1 : 1 ≤ k) (h2 : k ≤ 11) (hx : x.nice) (hn : nm.size ≤ 192) (hl : l.length ≤ 16384) (hp : p ≤ b.length) (h : b.drop p = valB x nm l k ++ rest) :
    rdp b (p : Int) k (part x nm l k) = (((p + (valB x nm l k).length : Nat) : Int), 0, part x nm l (k + 1)) := by
  obtain rfl | rfl | rfl | rfl | rfl | rfl | rfl | rfl | rfl | rfl | rfl : k = 1 ∨ k = 2 ∨ k = 3 ∨ k = 4 ∨ k = 5 ∨ k = 6 ∨ k = 7 ∨ k = 8 ∨ k = 9 ∨ k = 10 ∨ k = 11 := by omega
  · have e : valB x nm l 1 = Wn.uint x.k.toNat := rfl
    have hb := hx.1 1 (by omega) (by omega) (by omega)
    have hb1 : 0 ≤ x.k := hb.1
    have hb2 : x.k ≤ 9223372036854775807 := hb.2
    rw [e] at h ⊢
    have r := rn_at b p x.k.toNat rest hp h (by omega)
    rw [show ((x.k.toNat : Nat) : Int) = x.k by omega] at r
    show ((rn b (p : Int)).2.1, (rn b (p : Int)).2.2, ({ part x nm l 1 with x := (part x nm l 1).x.put 1 (rn b (p : Int)).1 } : Pts)) = _
    rw [r]
    rfl
  · have e : valB x nm l 2 = Wn.uint x.s.toNat := rfl
    have hb := hx.1 2 (by omega) (by omega) (by omega)
    have hb1 : 0 ≤ x.s := hb.1
    have hb2 : x.s ≤ 9223372036854775807 := hb.2
    rw [e] at h ⊢
    have r := rn_at b p x.s.toNat rest hp h (by omega)
    rw [show ((x.s.toNat : Nat) : Int) = x.s by omega] at r
    show ((rn b (p : Int)).2.1, (rn b (p : Int)).2.2, ({ part x nm l 2 with x := (part x nm l 2).x.put 2 (rn b (p : Int)).1 } : Pts)) = _
    rw [r]
    rfl
  · have e : valB x nm l 3 = Wn.uint x.p.toNat := rfl
    have hb := hx.1 3 (by omega) (by omega) (by omega)
    have hb1 : 0 ≤ x.p := hb.1
    have hb2 : x.p ≤ 9223372036854775807 := hb.2
    rw [e] at h ⊢
    have r := rn_at b p x.p.toNat rest hp h (by omega)
    rw [show ((x.p.toNat : Nat) : Int) = x.p by omega] at r
    show ((rn b (p : Int)).2.1, (rn b (p : Int)).2.2, ({ part x nm l 3 with x := (part x nm l 3).x.put 3 (rn b (p : Int)).1 } : Pts)) = _
    rw [r]
    rfl
  · have e : valB x nm l 4 = Wn.uint x.t.toNat := rfl
    have hb := hx.1 4 (by omega) (by omega) (by omega)
    have hb1 : 0 ≤ x.t := hb.1
    have hb2 : x.t ≤ 9223372036854775807 := hb.2
    rw [e] at h ⊢
    have r := rn_at b p x.t.toNat rest hp h (by omega)
    rw [show ((x.t.toNat : Nat) : Int) = x.t by omega] at r
    show ((rn b (p : Int)).2.1, (rn b (p : Int)).2.2, ({ part x nm l 4 with x := (part x nm l 4).x.put 4 (rn b (p : Int)).1 } : Pts)) = _
    rw [r]
    rfl
  · have e : valB x nm l 5 = Wn.uint x.a.toNat := rfl
    have hb := hx.1 5 (by omega) (by omega) (by omega)
    have hb1 : 0 ≤ x.a := hb.1
    have hb2 : x.a ≤ 9223372036854775807 := hb.2
    rw [e] at h ⊢
    have r := rn_at b p x.a.toNat rest hp h (by omega)
    rw [show ((x.a.toNat : Nat) : Int) = x.a by omega] at r
    show ((rn b (p : Int)).2.1, (rn b (p : Int)).2.2, ({ part x nm l 5 with x := (part x nm l 5).x.put 5 (rn b (p : Int)).1 } : Pts)) = _
    rw [r]
    rfl
  · have e : valB x nm l 6 = Wn.uint x.l.toNat := rfl
    have hb := hx.1 6 (by omega) (by omega) (by omega)
    have hb1 : 0 ≤ x.l := hb.1
    have hb2 : x.l ≤ 9223372036854775807 := hb.2
    rw [e] at h ⊢
    have r := rn_at b p x.l.toNat rest hp h (by omega)
    rw [show ((x.l.toNat : Nat) : Int) = x.l by omega] at r
    show ((rn b (p : Int)).2.1, (rn b (p : Int)).2.2, ({ part x nm l 6 with x := (part x nm l 6).x.put 6 (rn b (p : Int)).1 } : Pts)) = _
    rw [r]
    rfl
  · have e : valB x nm l 7 = Wn.uint (zz x.c) := rfl
    rw [e] at h ⊢
    have r := ri_at b p x.c rest hp h hx.2.1 hx.2.2
    show ((ri b (p : Int)).2.1, (ri b (p : Int)).2.2, ({ part x nm l 7 with x := (part x nm l 7).x.put 7 (ri b (p : Int)).1 } : Pts)) = _
    rw [r]
    rfl
  · have e : valB x nm l 8 = Wn.uint x.n.toNat := rfl
    have hb := hx.1 8 (by omega) (by omega) (by omega)
    have hb1 : 0 ≤ x.n := hb.1
    have hb2 : x.n ≤ 9223372036854775807 := hb.2
    rw [e] at h ⊢
    have r := rn_at b p x.n.toNat rest hp h (by omega)
    rw [show ((x.n.toNat : Nat) : Int) = x.n by omega] at r
    show ((rn b (p : Int)).2.1, (rn b (p : Int)).2.2, ({ part x nm l 8 with x := (part x nm l 8).x.put 8 (rn b (p : Int)).1 } : Pts)) = _
    rw [r]
    rfl
  · have e : valB x nm l 9 = Wn.uint x.i.toNat := rfl
    have hb := hx.1 9 (by omega) (by omega) (by omega)
    have hb1 : 0 ≤ x.i := hb.1
    have hb2 : x.i ≤ 9223372036854775807 := hb.2
    rw [e] at h ⊢
    have r := rn_at b p x.i.toNat rest hp h (by omega)
    rw [show ((x.i.toNat : Nat) : Int) = x.i by omega] at r
    show ((rn b (p : Int)).2.1, (rn b (p : Int)).2.2, ({ part x nm l 9 with x := (part x nm l 9).x.put 9 (rn b (p : Int)).1 } : Pts)) = _
    rw [r]
    rfl
  · have e : valB x nm l 10 = Wn.uint (nbs nm).length ++ nbs nm := rfl
    rw [e] at h ⊢
    have r := rb_at b p (nbs nm) rest 192 hp h (by rw [nbs_len]; omega) (by decide)
    show ((rb b (p : Int) 192).2.1, (rb b (p : Int) 192).2.2, ({ part x nm l 10 with nm := (rb b (p : Int) 192).1 } : Pts)) = _
    rw [r]
    rfl
  · have e : valB x nm l 11 = Wn.uint l.length ++ l := rfl
    rw [e] at h ⊢
    have r := rb_at b p l rest 16384 hp h (by omega) (by decide)
    show ((rb b (p : Int) 16384).2.1, (rb b (p : Int) 16384).2.2, ({ part x nm l 11 with l := (rb b (p : Int) 16384).1 } : Pts)) = _
    rw [r]
    rfl
theorem zero_part (x : Nums) (nm : ByteArray) (l : List Nat) (k : Nat) (h1 : 1 ≤ k) (h2 : k ≤ 11) : zeroT (part x nm l (k + 1)).x (bstr (part x nm l (k + 1)).nm) (part x nm l (k + 1)).l.length k = zeroT x nm l.length k := by
  obtain rfl | rfl | rfl | rfl | rfl | rfl | rfl | rfl | rfl | rfl | rfl : k = 1 ∨ k = 2 ∨ k = 3 ∨ k = 4 ∨ k = 5 ∨ k = 6 ∨ k = 7 ∨ k = 8 ∨ k = 9 ∨ k = 10 ∨ k = 11 := by omega
  all_goals first
    | rfl
    | (show (bstr (nbs nm)).toList.isEmpty = nm.toList.isEmpty; rw [bstr_nbs])
/-- what is written is read -/
theorem rpF_enc (x : Nums) (nm : ByteArray) (l : List Nat) (b : List Nat) (hx : x.nice) (hn : nm.size ≤ 192) (hl : l.length ≤ 16384) : ∀ (m k p last n : Nat), m = 12 - k → 1 ≤ k → k ≤ 12 → last < k → p ≤ b.length → b.drop p = encN x nm l (12 - k) → m + 1 ≤ n → rpF b n (p : Int) last (part x nm l k) = (0, ⟨x.ofV 0, nbs nm, l⟩) := by
  intro m
  induction m with
  | zero =>
    intro k p last n hm h1 h12 _ hp hd hn'
    obtain rfl : k = 12 := by omega
    obtain ⟨n, rfl⟩ : ∃ j, n = j + 1 := ⟨n - 1, by omega⟩
    have hlen : b.length ≤ p := by
      have : b.drop p = [] := hd
      exact List.drop_eq_nil_iff.1 this
    rw [rpF, if_neg (by omega), part_all]
  | succ m ih =>
    intro k p last n hm h1 h12 hlast hp hd hn'
    rw [show 12 - k = (11 - k) + 1 by omega, encN_succ, show 11 - (11 - k) = k by omega] at hd
    cases hz : zeroT x nm l.length k with
    | true =>
      rw [hz] at hd
      rw [← part_skip x nm l k h1 (by omega) hz]
      exact ih (k + 1) p last n (by omega) (by omega) (by omega) (by omega) hp (by rw [show 12 - (k + 1) = 11 - k by omega]; simpa using hd) (by omega)
    | false =>
      rw [hz] at hd
      have hd' : b.drop p = Wn.uint k ++ (valB x nm l k ++ encN x nm l (11 - k)) := by
        rw [hd]
        simp
      obtain ⟨n, rfl⟩ : ∃ j, n = j + 1 := ⟨n - 1, by omega⟩
      have hpos : 0 < (Wn.uint k).length := Wn.uint_pos k
      have hlen : b.length = p + ((Wn.uint k).length + ((valB x nm l k).length + (encN x nm l (11 - k)).length)) := by
        have := congrArg List.length hd'
        simp only [List.length_drop, List.length_append] at this
        omega
      have hrt : rt b (p : Int) last = (k, ((p + (Wn.uint k).length : Nat) : Int), 0) := by
        unfold rt
        rw [ru_atF b p k _ hp hd' (by omega)]
        simp only
        rw [if_neg (by simp), if_neg (by omega)]
      have hd2 : b.drop (p + (Wn.uint k).length) = valB x nm l k ++ encN x nm l (11 - k) := by rw [← List.drop_drop, hd', List.drop_left]
      have hd3 : b.drop (p + (Wn.uint k).length + (valB x nm l k).length) = encN x nm l (11 - k) := by rw [← List.drop_drop, hd2, List.drop_left]
      have hrd := rdp_at x nm l b (p + (Wn.uint k).length) k _ h1 (by omega) hx hn hl (by omega) hd2
      rw [rpF, if_pos (by omega), hrt]
      simp only
      rw [hrd]
      simp only
      rw [if_neg (by simp), if_neg (by simp), zero_part x nm l k h1 (by omega), hz]
      simp only [Bool.false_eq_true, if_false]
      exact ih (k + 1) _ k n (by omega) (by omega) (by omega) (by omega) (by omega) (by rw [show 12 - (k + 1) = 11 - k by omega]; exact hd3) (by omega)
end Go.Proofs.YtdnackjakfiffaaGreatDoor

/-
  Pure: a valid record is short; what Encode writes, Decode reads.
-/
namespace Go.Proofs.YtdnackjakfiffaaGreatDoor
open Go Go.RowKit
open Wb

theorem nmE_short (s : ByteArray) : ∀ (m n p : Nat), s.size - p ≤ m → n ≤ 48 → (Text.Tx.nmE s n p).1 = 0 → s.size ≤ p + 4 * (48 - n)
  | m, n, p, hm, hn, h => by
    by_cases hp : p < s.size
    · rw [Text.Tx.nmE, dif_pos hp] at h
      by_cases h48 : 48 ≤ n
      · rw [if_pos h48] at h; simp at h
      · rw [if_neg h48] at h
        split at h
        · simp at h
        · split at h
          · simp at h
          · have hd := Text.Tx.decode_fits s p hp
            match m, hm with
            | 0, hm => omega
            | m + 1, hm =>
              have := nmE_short s m (n + 1) (p + (Utf8.decode s p).2) (by omega) (by omega) h
              omega
    · omega
theorem lab_short (s : ByteArray) (h : lab s = 0) : s.size ≤ 192 := by
  unfold lab at h
  have h1 : (Text.Tx.nmA s).1 = 0 := by
    by_cases hh : (Text.Tx.nmA s).1 = 0
    · exact hh
    · rw [if_neg hh] at h; simp at h
  unfold Text.Tx.nmA at h1
  by_cases h0 : s.size = 0
  · omega
  · rw [if_neg h0] at h1
    have := nmE_short s s.size 0 0 (by omega) (by omega) h1
    omega
theorem chk_fits (x : Nums) (nm : ByteArray) (l : List Nat) (h : chkN x nm l 9 = 0) : nm.size ≤ 192 ∧ l.length ≤ 16384 := by
  rw [chkN_all] at h
  obtain ⟨_, _, _, _, _, _, _, h10, h11⟩ := h
  constructor
  · unfold tagE at h10
    cases hr : x.row.contains ((10 : Nat) : Int) with
    | true =>
      rw [hr] at h10
      have : fldE x nm l 10 = 0 := by simpa using h10
      exact lab_short nm this
    | false =>
      rw [hr] at h10
      cases hz : zeroT x nm l.length 10 with
      | false => rw [hz] at h10; simp at h10
      | true =>
        have h : nm.toList.isEmpty = true := hz
        have h2 : nm.toList = [] := by simpa using h
        rw [ByteArray.toList_eq] at h2
        have h3 : nm.data.size = 0 := by rw [← Array.length_toList, h2]; rfl
        have h4 : nm.size = 0 := h3
        omega
  · unfold tagE at h11
    cases hr : x.row.contains ((11 : Nat) : Int) with
    | true =>
      rw [hr] at h11
      have h2 : datE x l = 0 := by
        have : fldE x nm l 11 = 0 := by simpa using h11
        exact this
      unfold datE at h2
      by_cases hh : 16384 < l.length
      · rw [if_pos hh] at h2; simp at h2
      · omega
    | false =>
      rw [hr] at h11
      cases hz : zeroT x nm l.length 11 with
      | false => rw [hz] at h11; simp at h11
      | true =>
        have h : decide (l.length = 0) = true := hz
        have : l.length = 0 := by simpa using h
        omega
theorem dcd_enc (x : Nums) (nm : ByteArray) (l : List Nat) (hx : x.nice) (hn : nm.size ≤ 192) (hl : l.length ≤ 16384) (hv : 1 ≤ x.v ∧ x.v ≤ 3) (hc : chk x nm l = 0) : dcd x.v (enc x nm l) = (0, ⟨x, nbs nm, l⟩) := by
  have h1 := rpF_enc x nm l (enc x nm l) hx hn hl 11 1 0 0 12 rfl (by omega) (by omega) (by omega) (by omega) rfl (by omega)
  rw [part_one] at h1
  have e : ((x.ofV 0).ofV x.v) = x := rfl
  unfold dcd
  rw [if_neg (by simpa using hv)]
  have h2 : rpF (enc x nm l) 12 0 0 zeroPts = (0, ⟨x.ofV 0, nbs nm, l⟩) := h1
  rw [h2]
  simp only
  rw [e, bstr_nbs, if_neg (by simp), if_neg (by simpa using hc)]
  rfl
theorem enc_pos (x : Nums) (nm : ByteArray) (l : List Nat) (hk : 1 ≤ x.k) : 0 < (enc x nm l).length := by
  unfold enc
  rw [encN_succ, show 11 - 10 = 1 by omega]
  have hz : zeroT x nm l.length 1 = false := by
    show decide (x.k = 0) = false
    rw [decide_eq_false]
    omega
  rw [hz]
  simp only [Bool.false_eq_true, if_false, List.length_append]
  have := Wn.uint_pos 1
  omega
end Go.Proofs.YtdnackjakfiffaaGreatDoor
