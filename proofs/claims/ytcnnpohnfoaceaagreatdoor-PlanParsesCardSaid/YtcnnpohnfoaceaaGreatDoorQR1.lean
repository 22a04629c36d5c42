import Derived.Test.YtcnnpohnfoaceaaGreatDoorQT4
/-
  What is quoted is read again: bytes that lie in a text, runes and their bytes.
-/
namespace Go.Proofs.YtcnnpohnfoaceaaGreatDoor.Text
open Go Go.RowKit Go.Lib
open Tx

namespace Tx
/-- these bytes lie at q -/
def Has (z : ByteArray) (q : Nat) (l : List UInt8) : Prop := ∀ j (h : j < l.length), q + j < z.size ∧ at' z (q + j) = (l[j]).toNat
theorem Has.left {z : ByteArray} {q : Nat} {a b : List UInt8} (h : Has z q (a ++ b)) : Has z q a := fun j hj => by
  have := h j (by rw [List.length_append]; omega)
  rw [List.getElem_append_left hj] at this
  exact this
theorem Has.right {z : ByteArray} {q : Nat} {a b : List UInt8} (h : Has z q (a ++ b)) : Has z (q + a.length) b := fun j hj => by
  have := h (a.length + j) (by rw [List.length_append]; omega)
  rw [List.getElem_append_right (by omega)] at this
  simp only [Nat.add_sub_cancel_left] at this
  rw [Nat.add_assoc]
  exact this
theorem Has.at0 {z : ByteArray} {q : Nat} {a : UInt8} {b : List UInt8} (h : Has z q (a :: b)) : q < z.size ∧ at' z q = a.toNat := h 0 (by simp)
theorem Has.tail {z : ByteArray} {q : Nat} {a : UInt8} {b : List UInt8} (h : Has z q (a :: b)) : Has z (q + 1) b := Has.right (a := [a]) h
theorem Has.cut {z : ByteArray} {q : Nat} {l : List UInt8} (k : Nat) (hk : k ≤ q) (h : Has z q l) : Has (z.extract k z.size) (q - k) l := fun j hj => by
  have := h j hj
  refine ⟨by rw [size_cut z k z.size (Nat.le_refl _)]; omega, ?_⟩
  rw [at_cut z k z.size _ (Nat.le_refl _) (by omega), show k + (q - k + j) = q + j by omega]
  exact this.2
theorem dec_ascii (z : ByteArray) (q : Nat) (h : at' z q < 128) : Utf8.decode z q = (at' z q, 1) := by
  rw [decode_eq]
  unfold rd
  rw [if_pos (by exact h)]
  rfl
theorem rd2 (f : Nat → Nat) (n r : Nat) (h0 : 128 ≤ r) (h1 : r ≤ 2047) (a0 : f 0 = 192 + r / 64) (a1 : f 1 = 128 + r % 64) (hn : 1 < n) : rd f n = (r, 2) := by
  unfold rd
  rw [a0, a1, decide_eq_true hn]
  have e1 : (192 + r / 64) / 32 = 6 := by omega
  have e2 : (128 + r % 64) / 64 = 2 := by omega
  have e3 : (192 + r / 64) % 32 * 64 + (128 + r % 64) % 64 = r := by omega
  rw [if_neg (by omega), e1, e2, e3, if_pos (by rfl), if_pos (by omega)]
theorem rd3 (f : Nat → Nat) (n r : Nat) (h0 : 2048 ≤ r) (h1 : r ≤ 65535) (hv : Utf8.valid (r : Int) = true) (a0 : f 0 = 224 + r / 4096) (a1 : f 1 = 128 + r / 64 % 64) (a2 : f 2 = 128 + r % 64) (hn : 2 < n) : rd f n = (r, 3) := by
  unfold rd
  rw [a0, a1, a2, decide_eq_true hn, decide_eq_true (show 1 < n by omega)]
  have e0 : (224 + r / 4096) / 32 = 7 := by omega
  have e1 : (224 + r / 4096) / 16 = 14 := by omega
  have e2 : (128 + r / 64 % 64) / 64 = 2 := by omega
  have e3 : (128 + r % 64) / 64 = 2 := by omega
  have e4 : (224 + r / 4096) % 16 * 4096 + (128 + r / 64 % 64) % 64 * 64 + (128 + r % 64) % 64 = r := by omega
  rw [if_neg (by omega), e0, e1, e2, e3, e4, if_neg (by decide), if_pos (by rfl), hv, if_pos (by simp; omega)]
theorem rd4 (f : Nat → Nat) (n r : Nat) (h0 : 65536 ≤ r) (h1 : r ≤ 1114111) (hv : Utf8.valid (r : Int) = true) (a0 : f 0 = 240 + r / 262144) (a1 : f 1 = 128 + r / 4096 % 64) (a2 : f 2 = 128 + r / 64 % 64) (a3 : f 3 = 128 + r % 64) (hn : 3 < n) : rd f n = (r, 4) := by
  unfold rd
  rw [a0, a1, a2, a3, decide_eq_true hn, decide_eq_true (show 1 < n by omega), decide_eq_true (show 2 < n by omega)]
  have e0 : (240 + r / 262144) / 32 = 7 := by omega
  have e1 : (240 + r / 262144) / 16 = 15 := by omega
  have e5 : (240 + r / 262144) / 8 = 30 := by omega
  have e2 : (128 + r / 4096 % 64) / 64 = 2 := by omega
  have e3 : (128 + r / 64 % 64) / 64 = 2 := by omega
  have e6 : (128 + r % 64) / 64 = 2 := by omega
  have e4 : (240 + r / 262144) % 8 * 262144 + (128 + r / 4096 % 64) % 64 * 4096 + (128 + r / 64 % 64) % 64 * 64 + (128 + r % 64) % 64 = r := by omega
  rw [if_neg (by omega), e0, e1, e5, e2, e3, e6, e4, if_neg (by decide), if_neg (by decide), if_pos (by rfl), hv, if_pos (by simp; omega)]
theorem ofNat_lt (n : Nat) (h : n < 256) : (UInt8.ofNat n).toNat = n := UInt8.toNat_ofNat_of_lt' (show n < 256 from h)
theorem dec_enc (z : ByteArray) (q r : Nat) (hv : Utf8.valid (r : Int) = true) (h : Has z q (Utf8.encode (r : Int)).data.toList) : Utf8.decode z q = (r, (Utf8.encode (r : Int)).size) := by
  obtain ⟨hv1, hv2⟩ := valid_two r hv
  rw [← list_size (Utf8.encode (r : Int))]
  by_cases h1 : r < 128
  · rw [enc1 r h1] at *
    have a0 := h.at0.2
    rw [ofNat_lt r (by omega)] at a0
    rw [dec_ascii z q (by omega), a0]
    rfl
  · rw [decode_eq]
    by_cases h2 : r ≤ 2047
    · rw [enc2 r (by omega) h2] at *
      have a0 := h 0 (by simp)
      have a1 := h 1 (by simp)
      exact rd2 (fun k => at' z (q + k)) _ r (by omega) h2 (a0.2.trans (ofNat_lt _ (by omega))) (a1.2.trans (ofNat_lt _ (by omega))) (by omega)
    · by_cases h3 : r ≤ 65535
      · rw [enc3 r (by omega) h3 hv] at *
        have a0 := h 0 (by simp)
        have a1 := h 1 (by simp)
        have a2 := h 2 (by simp)
        exact rd3 (fun k => at' z (q + k)) _ r (by omega) h3 hv (a0.2.trans (ofNat_lt _ (by omega))) (a1.2.trans (ofNat_lt _ (by omega))) (a2.2.trans (ofNat_lt _ (by omega))) (by omega)
      · rw [enc4 r (by omega) hv] at *
        have a0 := h 0 (by simp)
        have a1 := h 1 (by simp)
        have a2 := h 2 (by simp)
        have a3 := h 3 (by simp)
        exact rd4 (fun k => at' z (q + k)) _ r (by omega) hv1 hv (a0.2.trans (ofNat_lt _ (by omega))) (a1.2.trans (ofNat_lt _ (by omega))) (a2.2.trans (ofNat_lt _ (by omega))) (a3.2.trans (ofNat_lt _ (by omega))) (by omega)
/-- what a reading that is no stray byte says of the bytes -/
theorem rd_inv (f : Nat → Nat) (n : Nat) (h0 : f 0 < 256) (h1 : f 1 < 256) (h2 : f 2 < 256) (_h3 : f 3 < 256) (hns : (128 ≤ f 0 ∧ (rd f n).2 = 1) → False) :
    (f 0 < 128 ∧ rd f n = (f 0, 1)) ∨
    (1 < n ∧ 128 ≤ (rd f n).1 ∧ (rd f n).1 ≤ 2047 ∧ (rd f n).2 = 2 ∧ f 0 = 192 + (rd f n).1 / 64 ∧ f 1 = 128 + (rd f n).1 % 64) ∨
    (2 < n ∧ 2048 ≤ (rd f n).1 ∧ (rd f n).1 ≤ 65535 ∧ (rd f n).2 = 3 ∧ f 0 = 224 + (rd f n).1 / 4096 ∧ f 1 = 128 + (rd f n).1 / 64 % 64 ∧ f 2 = 128 + (rd f n).1 % 64) ∨
    (3 < n ∧ 65536 ≤ (rd f n).1 ∧ (rd f n).2 = 4 ∧ f 0 = 240 + (rd f n).1 / 262144 ∧ f 1 = 128 + (rd f n).1 / 4096 % 64 ∧ f 2 = 128 + (rd f n).1 / 64 % 64 ∧ f 3 = 128 + (rd f n).1 % 64) := by
  by_cases c0 : f 0 < 128
  · left
    refine ⟨c0, ?_⟩
    unfold rd
    rw [if_pos c0]
  · right
    have hns' : (rd f n).2 = 1 → False := fun h => hns ⟨by omega, h⟩
    clear hns
    revert hns'
    unfold rd
    rw [if_neg c0]
    split
    · rename_i c1
      simp only [Bool.and_eq_true, beq_iff_eq, decide_eq_true_eq] at c1
      split
      · intro _
        left
        dsimp only
        omega
      · intro h; exact (h rfl).elim
    · split
      · rename_i c1
        simp only [Bool.and_eq_true, beq_iff_eq, decide_eq_true_eq] at c1
        split
        · rename_i c2
          simp only [Bool.and_eq_true, decide_eq_true_eq] at c2
          intro _
          right; left
          dsimp only
          omega
        · intro h; exact (h rfl).elim
      · split
        · rename_i c1
          simp only [Bool.and_eq_true, beq_iff_eq, decide_eq_true_eq] at c1
          split
          · rename_i c2
            simp only [Bool.and_eq_true, decide_eq_true_eq] at c2
            intro _
            right; right
            dsimp only
            omega
          · intro h; exact (h rfl).elim
        · intro h; exact (h rfl).elim
theorem has1 {z : ByteArray} {q : Nat} {a : UInt8} (h0 : q < z.size) (e0 : at' z q = a.toNat) : Has z q [a] := fun j hj => by
  match j, hj with
  | 0, _ => exact ⟨h0, e0⟩
theorem has_cons {z : ByteArray} {q : Nat} {a : UInt8} {l : List UInt8} (h0 : q < z.size) (e0 : at' z q = a.toNat) (h : Has z (q + 1) l) : Has z q (a :: l) := fun j hj => by
  cases j with
  | zero => exact ⟨h0, e0⟩
  | succ j =>
    have := h j (by simpa using hj)
    rw [show q + (j + 1) = q + 1 + j by omega]
    exact this
/-- the bytes of a rune that is read are those that were read -/
theorem enc_dec (t : ByteArray) (p : Nat) (h : p < t.size) (hs : stray t p = false) : Has t p (Utf8.encode ((Utf8.decode t p).1 : Int)).data.toList ∧ (Utf8.encode ((Utf8.decode t p).1 : Int)).size = (Utf8.decode t p).2 := by
  have hv := dec_valid t p
  have key := rd_inv (fun k => at' t (p + k)) (t.size - p) (at_lt t _) (at_lt t _) (at_lt t _) (at_lt t _) (fun hh => by
    rw [← decode_eq] at hh
    have : stray t p = true := by
      unfold stray
      rw [Bool.and_eq_true, decide_eq_true_eq, decide_eq_true_eq]
      exact hh
    rw [hs] at this
    cases this)
  rw [← decode_eq] at key
  rw [← list_size]
  generalize Utf8.decode t p = D at *
  obtain ⟨r, d⟩ := D
  dsimp only at *
  rcases key with ⟨k0, k1⟩ | ⟨k0, k1, k2, k3, k4, k5⟩ | ⟨k0, k1, k2, k3, k4, k5, k6⟩ | ⟨k0, k1, k3, k4, k5, k6, k7⟩
  · cases k1
    rw [enc1 _ k0]
    exact ⟨has1 h (ofNat_lt _ (at_lt t p)).symm, rfl⟩
  · rw [enc2 r k1 k2, k3]
    exact ⟨has_cons h (k4.trans (ofNat_lt _ (by omega)).symm) (has1 (by omega) (k5.trans (ofNat_lt _ (by omega)).symm)), rfl⟩
  · rw [enc3 r k1 k2 hv, k3]
    exact ⟨has_cons h (k4.trans (ofNat_lt _ (by omega)).symm) (has_cons (by omega) (k5.trans (ofNat_lt _ (by omega)).symm) (has1 (by omega) (k6.trans (ofNat_lt _ (by omega)).symm))), rfl⟩
  · have hv1 := (valid_two r hv).1
    rw [enc4 r k1 hv, k3]
    exact ⟨has_cons h (k4.trans (ofNat_lt _ (by omega)).symm) (has_cons (by omega) (k5.trans (ofNat_lt _ (by omega)).symm) (has_cons (by omega) (k6.trans (ofNat_lt _ (by omega)).symm) (has1 (by omega) (k7.trans (ofNat_lt _ (by omega)).symm)))), rfl⟩
end Tx
end Go.Proofs.YtcnnpohnfoaceaaGreatDoor.Text

/-
  What is quoted is read again: the escapes.
-/
namespace Go.Proofs.YtcnnpohnfoaceaaGreatDoor.Text
open Go Go.RowKit Go.Lib
open Tx

namespace Tx
theorem has_extract {z : ByteArray} {q : Nat} {l : List UInt8} (h : Has z q l) (hq : q + l.length ≤ z.size) : z.extract q (q + l.length) = ⟨l.toArray⟩ := by
  have hs := size_cut z q (q + l.length) hq
  apply ByteArray.ext
  apply Array.ext
  · show (z.extract q (q + l.length)).size = l.toArray.size
    rw [hs]
    simp
  · intro i h1 h2
    have h1' : i < (z.extract q (q + l.length)).size := h1
    have hi : i < l.length := by rw [hs] at h1'; omega
    have e1 := at_cut z q (q + l.length) i hq (by omega)
    rw [(h i hi).2] at e1
    have q1 : (z.extract q (q + l.length)).get! i = (z.extract q (q + l.length)).data[i] := getElem!_pos (z.extract q (q + l.length)).data i h1
    rw [← q1]
    have e2 : (z.extract q (q + l.length)).get! i = l[i] := u8_eq e1
    rw [e2]
    simp
theorem pre_yes {s : ByteArray} {l : List UInt8} (h : Has s 0 l) (hl : l.length ≤ s.size) : pre s ⟨l.toArray⟩ = true := by
  have e := has_extract h (by omega)
  rw [Nat.zero_add] at e
  have hz : (⟨l.toArray⟩ : ByteArray).size = l.length := by show l.toArray.size = _; simp
  unfold pre
  rw [hz, e, decide_eq_true hl]
  simp
theorem pre_at {s p : ByteArray} (h : pre s p = true) (i : Nat) (hi : i < p.size) : at' s i = at' p i := by
  unfold pre at h
  rw [Bool.and_eq_true, decide_eq_true_eq, beq_iff_eq] at h
  have e := toList_inj h.2
  have := at_cut s 0 p.size i h.1 (by omega)
  rw [e, Nat.zero_add] at this
  exact this.symm
theorem pno {s : ByteArray} {c : Nat} (h1 : at' s 1 = c) (b : UInt8) (hne : c ≠ b.toNat) : ¬ pre s ⟨#[92, b]⟩ = true := fun h => by
  have := pre_at h 1 (by show (1 : Nat) < 2; decide)
  exact hne (h1.symm.trans this)
theorem pnoU {s : ByteArray} {c : Nat} (h1 : at' s 1 = c) (hne : c ≠ 117) : ¬ pre s ⟨#[92, 117, 123]⟩ = true := fun h => by
  have := pre_at h 1 (by show (1 : Nat) < 3; decide)
  exact hne (h1.symm.trans this)
theorem hexD_all : ∀ n, n < 16 → hv (hexD n).toNat = some n ∧ (hexD n).toNat < 128 ∧ (hexD n).toNat ≠ 125 := by decide +kernel
theorem has_size {z : ByteArray} {q : Nat} {l : List UInt8} (h : Has z q l) (h0 : 0 < l.length) : q + l.length ≤ z.size := by
  have := (h (l.length - 1) (by omega)).1
  omega
theorem esc_x {s : ByteArray} {a b : Nat} (ha : a < 16) (hb : b < 16) (h : Has s 0 [92, 120, hexD a, hexD b]) : esc s = (⟨#[UInt8.ofNat (16 * a + b)]⟩, 4) := by
  have hsz := has_size h (by simp)
  have hsz4 : 4 ≤ s.size := by simpa using hsz
  have h2 : at' s 2 = (hexD a).toNat := (h 2 (by simp)).2
  have h3 : at' s 3 = (hexD b).toNat := (h 3 (by simp)).2
  have hp : pre s ⟨#[92, 120]⟩ = true := pre_yes (l := [92, 120]) (Has.left (b := [hexD a, hexD b]) h) (by simp; omega)
  unfold esc
  rw [if_pos hp]
  unfold eb
  rw [if_neg (by omega), h2, h3, (hexD_all a ha).1, (hexD_all b hb).1]
theorem esc_q {s : ByteArray} (h : Has s 0 [92, 34]) : esc s = (⟨#[34]⟩, 2) := by
  have h1 : at' s 1 = 34 := (h 1 (by simp)).2
  have hsz := has_size h (by simp)
  unfold esc
  rw [if_neg (pno h1 120 (by decide)), if_neg (pnoU h1 (by decide)), if_pos (pre_yes h (by simpa using hsz))]
theorem esc_b {s : ByteArray} (h : Has s 0 [92, 92]) : esc s = (⟨#[92]⟩, 2) := by
  have h1 : at' s 1 = 92 := (h 1 (by simp)).2
  have hsz := has_size h (by simp)
  unfold esc
  rw [if_neg (pno h1 120 (by decide)), if_neg (pnoU h1 (by decide)), if_neg (pno h1 34 (by decide)), if_pos (pre_yes h (by simpa using hsz))]
theorem esc_n {s : ByteArray} (h : Has s 0 [92, 110]) : esc s = (⟨#[10]⟩, 2) := by
  have h1 : at' s 1 = 110 := (h 1 (by simp)).2
  have hsz := has_size h (by simp)
  unfold esc
  rw [if_neg (pno h1 120 (by decide)), if_neg (pnoU h1 (by decide)), if_neg (pno h1 34 (by decide)), if_neg (pno h1 92 (by decide)), if_pos (pre_yes h (by simpa using hsz))]
theorem esc_t {s : ByteArray} (h : Has s 0 [92, 116]) : esc s = (⟨#[9]⟩, 2) := by
  have h1 : at' s 1 = 116 := (h 1 (by simp)).2
  have hsz := has_size h (by simp)
  unfold esc
  rw [if_neg (pno h1 120 (by decide)), if_neg (pnoU h1 (by decide)), if_neg (pno h1 34 (by decide)), if_neg (pno h1 92 (by decide)), if_neg (pno h1 110 (by decide)), if_pos (pre_yes h (by simpa using hsz))]
theorem esc_r {s : ByteArray} (h : Has s 0 [92, 114]) : esc s = (⟨#[13]⟩, 2) := by
  have h1 : at' s 1 = 114 := (h 1 (by simp)).2
  have hsz := has_size h (by simp)
  unfold esc
  rw [if_neg (pno h1 120 (by decide)), if_neg (pnoU h1 (by decide)), if_neg (pno h1 34 (by decide)), if_neg (pno h1 92 (by decide)), if_neg (pno h1 110 (by decide)), if_neg (pno h1 116 (by decide)), if_pos (pre_yes h (by simpa using hsz))]
/-- one digit more -/
theorem erL_dig (t : ByteArray) (p v d : Nat) (hd : d < 16) (hp : p < 6) (h : Has t p [hexD d]) : erL t p v = erL t (p + 1) (v * 16 + d) := by
  have h0 := h.at0
  have hx := hexD_all d hd
  have e : Utf8.decode t p = ((hexD d).toNat, 1) := by rw [dec_ascii t p (by omega), h0.2]
  refine (erL_on t p v d h0.1 (by omega) ?_ ?_).symm
  · rw [e]
    exact fun hh => hx.2.2 hh.1
  · rw [e]
    exact hx.1
theorem erL_hex (t : ByteArray) (u p : Nat) (h : Has t p (hexL u)) (hl : p + (hexL u).length ≤ 6) : erL t p 0 = erL t (p + (hexL u).length) u := by
  by_cases hu : u < 16
  · rw [hexL_lo u hu] at *
    have := erL_dig t p 0 u hu (by simp at hl; omega) h
    rw [Nat.zero_mul, Nat.zero_add] at this
    exact this
  · rw [hexL_hi u hu] at *
    rw [List.length_append] at *
    have ih := erL_hex t (u / 16) p h.left (by simp at hl; omega)
    rw [ih, erL_dig t (p + (hexL (u / 16)).length) (u / 16) (u % 16) (by omega) (by simp at hl; omega) h.right]
    rw [show u / 16 * 16 + u % 16 = u by omega]
    rfl
termination_by u
decreasing_by omega
theorem esc_u {s : ByteArray} {r : Nat} (hv : Utf8.valid (r : Int) = true) (h : Has s 0 ([92, 117, 123] ++ (hexL r ++ [125]))) : esc s = (Utf8.encode (r : Int), (hexL r).length + 4) := by
  have h1 : at' s 1 = 117 := (h.left 1 (by simp)).2
  have hsz := has_size h.left (by simp)
  have hsz3 : 3 ≤ s.size := by simpa using hsz
  have hl6 : (hexL r).length ≤ 6 := hexL_len 5 r (by have := (valid_two r hv).1; omega)
  have hl0 : 0 < (hexL r).length := by
    by_cases hu : r < 16
    · rw [hexL_lo r hu]; simp
    · rw [hexL_hi r hu]; simp
  have hr : Has (s.extract 3 s.size) 0 (hexL r ++ [125]) := Has.cut 3 (by simp) h.right
  have h9 := hr.right.at0
  rw [Nat.zero_add] at h9
  unfold esc
  rw [if_neg (pno h1 120 (by decide)), if_pos (pre_yes (l := [92, 117, 123]) h.left (by simpa using hsz))]
  rw [erL_hex _ r 0 hr.left (by omega), Nat.zero_add, erL_end _ _ r h9.1 ⟨by rw [dec_ascii _ _ (by rw [h9.2]; decide), h9.2]; rfl, hl0, hv⟩]
end Tx
end Go.Proofs.YtcnnpohnfoaceaaGreatDoor.Text

/-
  What is quoted is read again: the whole.
-/
namespace Go.Proofs.YtcnnpohnfoaceaaGreatDoor.Text
open Go Go.RowKit Go.Lib
open Tx

namespace Tx
theorem con_skips (z : ByteArray) (L : List UInt8) (e : Nat) : ∀ (m q : Nat), (∀ i, i < m → q + i < z.size ∧ at' z (q + i) < 128) → q + m ≤ e → con z q L e = con z (q + m) L e
  | 0, q, _, _ => rfl
  | m + 1, q, h, he => by
    have h0 := h 0 (by omega)
    have hd : (Utf8.decode z q).2 = 1 := by rw [dec_ascii z q h0.2]
    have e1 := con_skip z q L e h0.1 (by omega)
    rw [hd] at e1
    rw [← e1, con_skips z L e m (q + 1) (fun i hi => by
      have := h (i + 1) (by omega)
      rw [show q + 1 + i = q + (i + 1) by omega]
      exact this) (by omega)]
    rw [show q + 1 + m = q + (m + 1) by omega]
/-- an escape is read -/
theorem con_esc (z : ByteArray) (q : Nat) (L : List UInt8) (e : Nat) (W : List UInt8) (x : ByteArray) (h : Has z q (92 :: W)) (he : e ≤ q) (hlow : ∀ b ∈ W, b.toNat < 128) (hx : esc (z.extract q z.size) = (x, W.length + 1)) :
    con z q L e = con z (q + (W.length + 1)) (L ++ x.data.toList) (q + (W.length + 1)) := by
  have h0 := h.at0
  have hd : Utf8.decode z q = (92, 1) := by rw [dec_ascii z q (by rw [h0.2]; decide), h0.2]; rfl
  have e1 := con_e z q L e h0.1 (by omega) (by rw [hd]) (by rw [hx]; simp)
  rw [hd, hx] at e1
  rw [← e1]
  have ht := h.tail
  rw [con_skips z _ _ W.length (q + 1) (fun i hi => by
    have := ht i hi
    refine ⟨this.1, ?_⟩
    rw [this.2]
    exact hlow _ (List.getElem_mem hi)) (by omega)]
  rw [show q + 1 + W.length = q + (W.length + 1) by omega]
theorem enc_two (r : Nat) (hv : Utf8.valid (r : Int) = true) (h : 128 ≤ r) : 2 ≤ (Utf8.encode (r : Int)).size := by
  rw [← list_size]
  by_cases h2 : r ≤ 2047
  · rw [enc2 r h h2]; simp
  · by_cases h3 : r ≤ 65535
    · rw [enc3 r (by omega) h3 hv]; simp
    · rw [enc4 r (by omega) hv]; simp
/-- a rune is read -/
theorem con_rune (z : ByteArray) (q : Nat) (L : List UInt8) (e r : Nat) (hv : Utf8.valid (r : Int) = true) (h : Has z q (Utf8.encode (r : Int)).data.toList) (h0 : q < z.size) (he : e ≤ q) (h34 : r ≠ 34) (h92 : r ≠ 92) (hc : ctl (r : Int) = false) (hh : among hids (r : Int) = false) :
    con z q L e = con z (q + (Utf8.encode (r : Int)).size) (L ++ (Utf8.encode (r : Int)).data.toList) e := by
  have hd := dec_enc z q r hv h
  have h2 : 128 ≤ r → 2 ≤ (Utf8.encode (r : Int)).size := enc_two r hv
  have hlow : r < 128 → at' z q = r := fun h1 => by
    have e1 := enc1 r h1
    rw [e1] at h
    exact h.at0.2.trans (ofNat_lt r (by omega))
  have key := con_on z q L e h0 (by omega)
  generalize hE : Utf8.encode (r : Int) = E at *
  rw [hd] at key
  have hs : stray z q = false := by
    unfold stray
    rw [hd]
    by_cases h1 : r < 128
    · rw [hlow h1, decide_eq_false (by omega), Bool.false_and]
    · have := h2 (by omega)
      rw [Bool.and_eq_false_iff]
      right
      rw [decide_eq_false_iff_not]
      dsimp only
      omega
  dsimp only at key
  rw [hE, hc, hh, hs] at key
  exact (key h34 h92 rfl).symm
theorem byte_back (c : Nat) : UInt8.ofNat (16 * (c / 16) + c % 16) = UInt8.ofNat c := by rw [show 16 * (c / 16) + c % 16 = c by omega]
/-- two digits are read -/
theorem con_hex (z : ByteArray) (q : Nat) (L : List UInt8) (e c : Nat) (hc : c < 256) (h : Has z q (hexB c).data.toList) (he : e ≤ q) :
    con z q L e = con z (q + (hexB c).size) (L ++ [UInt8.ofNat c]) (q + (hexB c).size) := by
  have a1 := (hexD_all (c / 16) (by omega)).2.1
  have a2 := (hexD_all (c % 16) (by omega)).2.1
  have h4 : Has z q [92, 120, hexD (c / 16), hexD (c % 16)] := h
  have hx : esc (z.extract q z.size) = (⟨#[UInt8.ofNat c]⟩, 4) := by
    have := esc_x (a := c / 16) (b := c % 16) (by omega) (by omega) (by
      have := Has.cut q (Nat.le_refl _) h4
      rwa [Nat.sub_self] at this)
    rw [byte_back c] at this
    exact this
  exact con_esc z q L e [120, hexD (c / 16), hexD (c % 16)] ⟨#[UInt8.ofNat c]⟩ h4 he (by
    intro b hb
    simp at hb
    rcases hb with rfl | rfl | rfl
    · decide
    · exact a1
    · exact a2) hx
theorem hexL_low (u : Nat) : ∀ b ∈ hexL u, b.toNat < 128 := by
  by_cases hu : u < 16
  · rw [hexL_lo u hu]
    intro b hb
    simp at hb
    subst hb
    exact (hexD_all u hu).2.1
  · rw [hexL_hi u hu]
    intro b hb
    rw [List.mem_append] at hb
    rcases hb with hb | hb
    · exact hexL_low (u / 16) b hb
    · simp at hb
      subst hb
      exact (hexD_all (u % 16) (by omega)).2.1
termination_by u
decreasing_by omega
theorem two_esc (z : ByteArray) (q : Nat) (L : List UInt8) (e : Nat) (b : UInt8) (x : ByteArray) (hb : b.toNat < 128) (h : Has z q [92, b]) (he : e ≤ q) (hx : ∀ s, Has s 0 [92, b] → esc s = (x, 2)) :
    con z q L e = con z (q + 2) (L ++ x.data.toList) (q + 2) :=
  con_esc z q L e [b] x h he (by
    intro y hy
    simp at hy
    subst hy
    exact hb) (hx _ (by
      have := Has.cut q (Nat.le_refl _) h
      rwa [Nat.sub_self] at this))
theorem wrt_step (z : ByteArray) (q : Nat) (L : List UInt8) (e r : Nat) (hv : Utf8.valid (r : Int) = true) (h : Has z q (wrt r).data.toList) (hq : q < z.size) (he : e ≤ q) :
    ∃ e', con z q L e = con z (q + (wrt r).size) (L ++ (Utf8.encode (r : Int)).data.toList) e' ∧ e' ≤ q + (wrt r).size := by
  revert h
  unfold wrt
  split
  · rename_i c0
    intro h
    rcases c0 with rfl | rfl
    · rw [enc1 34 (by decide)]
      exact ⟨_, two_esc z q L e 34 ⟨#[34]⟩ (by decide) h he (fun s hs => esc_q hs), Nat.le_refl _⟩
    · rw [enc1 92 (by decide)]
      exact ⟨_, two_esc z q L e 92 ⟨#[92]⟩ (by decide) h he (fun s hs => esc_b hs), Nat.le_refl _⟩
  · rename_i c0
    split
    · rename_i c1
      subst c1
      intro h
      rw [enc1 10 (by decide)]
      exact ⟨_, two_esc z q L e 110 ⟨#[10]⟩ (by decide) h he (fun s hs => esc_n hs), Nat.le_refl _⟩
    · split
      · rename_i c1
        subst c1
        intro h
        rw [enc1 9 (by decide)]
        exact ⟨_, two_esc z q L e 116 ⟨#[9]⟩ (by decide) h he (fun s hs => esc_t hs), Nat.le_refl _⟩
      · split
        · rename_i c1
          subst c1
          intro h
          rw [enc1 13 (by decide)]
          exact ⟨_, two_esc z q L e 114 ⟨#[13]⟩ (by decide) h he (fun s hs => esc_r hs), Nat.le_refl _⟩
        · split
          · rename_i c1
            intro h
            have hr : r < 128 := by
              unfold ctl at c1
              rw [Bool.or_eq_true, decide_eq_true_eq, decide_eq_true_eq] at c1
              omega
            rw [enc1 r hr]
            exact ⟨_, con_hex z q L e r (by omega) h he, Nat.le_refl _⟩
          · rename_i c1
            split
            · intro h
              have hw : ((⟨#[92, 117, 123]⟩ : ByteArray) ++ ⟨(hexL r).toArray⟩ ++ ⟨#[125]⟩).data.toList = 92 :: ([117, 123] ++ (hexL r ++ [125])) := by
                simp [ByteArray.data_append]
              have hz : ((⟨#[92, 117, 123]⟩ : ByteArray) ++ ⟨(hexL r).toArray⟩ ++ ⟨#[125]⟩).size = ([117, 123] ++ (hexL r ++ [125])).length + 1 := by
                rw [← list_size, hw, List.length_cons]
              rw [hw] at h
              rw [hz]
              refine ⟨_, con_esc z q L e ([117, 123] ++ (hexL r ++ [125])) (Utf8.encode (r : Int)) h he ?_ ?_, Nat.le_refl _⟩
              · intro b hb
                rw [List.mem_append, List.mem_append] at hb
                rcases hb with hb | hb | hb
                · simp at hb
                  rcases hb with rfl | rfl <;> decide
                · exact hexL_low r b hb
                · simp at hb
                  subst hb
                  decide
              · have h9 := Has.cut q (Nat.le_refl _) h
                rw [Nat.sub_self] at h9
                rw [esc_u hv h9]
                have e9 : (hexL r).length + 4 = ([117, 123] ++ (hexL r ++ [125])).length + 1 := by
                  simp only [List.length_append, List.length_cons, List.length_nil]
                  omega
                rw [e9]
            · rename_i c2
              intro h
              exact ⟨e, con_rune z q L e r hv h hq he (fun h => c0 (.inl h)) (fun h => c0 (.inr h)) (by simpa using c1) (by simpa using c2), by omega⟩
/-- a piece is read -/
theorem pc_step (t z : ByteArray) (p q : Nat) (L : List UInt8) (e : Nat) (hp : p < t.size) (h : Has z q (pcW t p).data.toList) (hq : q < z.size) (he : e ≤ q) :
    ∃ l e', con z q L e = con z (q + (pcW t p).size) (L ++ l) e' ∧ e' ≤ q + (pcW t p).size ∧ Has t p l ∧ l.length = (Utf8.decode t p).2 := by
  cases hs : stray t p with
  | true =>
    have hw : pcW t p = hexB (at' t p) := by unfold pcW; rw [if_pos hs]
    rw [hw] at h ⊢
    have h1 : (Utf8.decode t p).2 = 1 := by
      unfold stray at hs
      rw [Bool.and_eq_true, decide_eq_true_eq, decide_eq_true_eq] at hs
      exact hs.2
    exact ⟨_, _, con_hex z q L e (at' t p) (at_lt t p) h he, Nat.le_refl _, has1 hp (ofNat_lt _ (at_lt t p)).symm, by rw [h1]; rfl⟩
  | false =>
    have hw : pcW t p = wrt (Utf8.decode t p).1 := by unfold pcW; rw [if_neg (by simp [hs])]
    rw [hw] at h ⊢
    obtain ⟨e', h1, h2⟩ := wrt_step z q L e (Utf8.decode t p).1 (dec_valid t p) h hq he
    have h3 := enc_dec t p hp hs
    exact ⟨_, e', h1, h2, h3.1, by rw [list_size]; exact h3.2⟩
theorem take_has {t : ByteArray} {p : Nat} {l : List UInt8} (h : Has t p l) : t.data.toList.take p ++ l = t.data.toList.take (p + l.length) := by
  rw [List.take_add]
  congr 1
  apply List.ext_getElem?
  intro j
  by_cases hj : j < l.length
  · have h1 := h j hj
    have h2 : p + j < t.data.toList.length := by rw [list_size]; exact h1.1
    rw [List.getElem?_eq_getElem hj, List.getElem?_take, if_pos hj, List.getElem?_drop, List.getElem?_eq_getElem h2]
    congr 1
    have h3 := at_get t (p + j) h1.1
    apply u8_eq
    rw [← h1.2, h3]
    rfl
  · rw [List.getElem?_eq_none (by omega), List.getElem?_eq_none (by rw [List.length_take]; omega)]
/-- what is quoted is read -/
theorem rnd (t z : ByteArray) : ∀ (k p q : Nat) (e : Nat), t.size - p ≤ k → p ≤ t.size → Has z q (qs t p ++ [34]) → e ≤ q → con z q (t.data.toList.take p) e = (t, q + (qs t p).length + 1, 0)
  | 0, p, q, e, hk, hp, h, he => by
    have hpe : p = t.size := by omega
    rw [qs_out t p (by omega)] at *
    have h0 := Has.at0 (b := []) h
    rw [con_q z q _ e h0.1 (by omega) (by rw [dec_ascii z q (by rw [h0.2]; decide), h0.2]; rfl)]
    rw [List.take_of_length_le (by rw [list_size]; omega)]
    rfl
  | k + 1, p, q, e, hk, hp, h, he => by
    by_cases hlt : p < t.size
    · have hd := decode_fits t p hlt
      rw [qs_in t p hlt, List.append_assoc] at h
      have hq : q < z.size := by
        have h1 := has_size h (by simp; omega)
        simp at h1
        omega
      obtain ⟨l, e', h1, h2, h3, h4⟩ := pc_step t z p q (t.data.toList.take p) e hlt h.left hq he
      have hr := h.right
      rw [list_size] at hr
      rw [h1, take_has h3, h4, rnd t z k (p + (Utf8.decode t p).2) (q + (pcW t p).size) e' (by omega) hd.2.1 hr h2]
      rw [qs_in t p hlt, List.length_append, list_size]
      congr 2
      omega
    · have hpe : p = t.size := by omega
      rw [qs_out t p (by omega)] at *
      have h0 := Has.at0 (b := []) h
      rw [con_q z q _ e h0.1 (by omega) (by rw [dec_ascii z q (by rw [h0.2]; decide), h0.2]; rfl)]
      rw [List.take_of_length_le (by rw [list_size]; omega)]
      rfl
end Tx
end Go.Proofs.YtcnnpohnfoaceaaGreatDoor.Text
