import Derived.Test.YtneifdbcjicfgaaDoorQD
import Derived.Test.YtneifdbcjicfgaaDoorQC
/-
  What is quoted is read again: bytes that lie in a text, runes and their bytes.
-/
namespace Go.Proofs.YtneifdbcjicfgaaDoor
open Go Go.RowKit Go.Lib
open Tx

namespace Tx
/-- these bytes lie at q -/
def Has (z : ByteArray) (q : Nat) (l : List UInt8) : Prop := ∀ j (h : j < l.length), q + j < z.size ∧ at' z (q + j) = (l[j]).toNat
theorem Has.left {z : ByteArray} {q : Nat} {a b : List UInt8} (h : Has z q (a ++ b)) : Has z q a := fun j hj => by
  have := h j (by rw [List.length_append]; omega)
  rw [List.getElem_append_left hj] at this
  exact this
theorem Has.right {z : ByteArray} {q : Nat} {a b : List UInt8} (h : Has z q (a ++ b)) : Has z (q + a.length) b := fun j hj => by
  have := h (a.length + j) (by rw [List.length_append]; omega)
  rw [List.getElem_append_right (by omega)] at this
  simp only [Nat.add_sub_cancel_left] at this
  rw [Nat.add_assoc]
  exact this
theorem Has.at0 {z : ByteArray} {q : Nat} {a : UInt8} {b : List UInt8} (h : Has z q (a :: b)) : q < z.size ∧ at' z q = a.toNat := h 0 (by simp)
theorem Has.tail {z : ByteArray} {q : Nat} {a : UInt8} {b : List UInt8} (h : Has z q (a :: b)) : Has z (q + 1) b := Has.right (a := [a]) h
theorem Has.cut {z : ByteArray} {q : Nat} {l : List UInt8} (k : Nat) (hk : k ≤ q) (h : Has z q l) : Has (z.extract k z.size) (q - k) l := fun j hj => by
  have := h j hj
  refine ⟨by rw [size_cut z k z.size (Nat.le_refl _)]; omega, ?_⟩
  rw [at_cut z k z.size _ (Nat.le_refl _) (by omega), show k + (q - k + j) = q + j by omega]
  exact this.2
theorem dec_ascii (z : ByteArray) (q : Nat) (h : at' z q < 128) : Utf8.decode z q = (at' z q, 1) := by
  rw [decode_eq]
  unfold rd
  rw [if_pos (by exact h)]
  rfl
theorem rd2 (f : Nat → Nat) (n r : Nat) (h0 : 128 ≤ r) (h1 : r ≤ 2047) (a0 : f 0 = 192 + r / 64) (a1 : f 1 = 128 + r % 64) (hn : 1 < n) : rd f n = (r, 2) := by
  unfold rd
  rw [a0, a1, decide_eq_true hn]
  have e1 : (192 + r / 64) / 32 = 6 := by omega
  have e2 : (128 + r % 64) / 64 = 2 := by omega
  have e3 : (192 + r / 64) % 32 * 64 + (128 + r % 64) % 64 = r := by omega
  rw [if_neg (by omega), e1, e2, e3, if_pos (by rfl), if_pos (by omega)]
theorem rd3 (f : Nat → Nat) (n r : Nat) (h0 : 2048 ≤ r) (h1 : r ≤ 65535) (hv : Utf8.valid (r : Int) = true) (a0 : f 0 = 224 + r / 4096) (a1 : f 1 = 128 + r / 64 % 64) (a2 : f 2 = 128 + r % 64) (hn : 2 < n) : rd f n = (r, 3) := by
  unfold rd
  rw [a0, a1, a2, decide_eq_true hn, decide_eq_true (show 1 < n by omega)]
  have e0 : (224 + r / 4096) / 32 = 7 := by omega
  have e1 : (224 + r / 4096) / 16 = 14 := by omega
  have e2 : (128 + r / 64 % 64) / 64 = 2 := by omega
  have e3 : (128 + r % 64) / 64 = 2 := by omega
  have e4 : (224 + r / 4096) % 16 * 4096 + (128 + r / 64 % 64) % 64 * 64 + (128 + r % 64) % 64 = r := by omega
  rw [if_neg (by omega), e0, e1, e2, e3, e4, if_neg (by decide), if_pos (by rfl), hv, if_pos (by simp; omega)]
theorem rd4 (f : Nat → Nat) (n r : Nat) (h0 : 65536 ≤ r) (h1 : r ≤ 1114111) (hv : Utf8.valid (r : Int) = true) (a0 : f 0 = 240 + r / 262144) (a1 : f 1 = 128 + r / 4096 % 64) (a2 : f 2 = 128 + r / 64 % 64) (a3 : f 3 = 128 + r % 64) (hn : 3 < n) : rd f n = (r, 4) := by
  unfold rd
  rw [a0, a1, a2, a3, decide_eq_true hn, decide_eq_true (show 1 < n by omega), decide_eq_true (show 2 < n by omega)]
  have e0 : (240 + r / 262144) / 32 = 7 := by omega
  have e1 : (240 + r / 262144) / 16 = 15 := by omega
  have e5 : (240 + r / 262144) / 8 = 30 := by omega
  have e2 : (128 + r / 4096 % 64) / 64 = 2 := by omega
  have e3 : (128 + r / 64 % 64) / 64 = 2 := by omega
  have e6 : (128 + r % 64) / 64 = 2 := by omega
  have e4 : (240 + r / 262144) % 8 * 262144 + (128 + r / 4096 % 64) % 64 * 4096 + (128 + r / 64 % 64) % 64 * 64 + (128 + r % 64) % 64 = r := by omega
  rw [if_neg (by omega), e0, e1, e5, e2, e3, e6, e4, if_neg (by decide), if_neg (by decide), if_pos (by rfl), hv, if_pos (by simp; omega)]
theorem ofNat_lt (n : Nat) (h : n < 256) : (UInt8.ofNat n).toNat = n := UInt8.toNat_ofNat_of_lt' (show n < 256 from h)
theorem dec_enc (z : ByteArray) (q r : Nat) (hv : Utf8.valid (r : Int) = true) (h : Has z q (Utf8.encode (r : Int)).data.toList) : Utf8.decode z q = (r, (Utf8.encode (r : Int)).size) := by
  obtain ⟨hv1, hv2⟩ := valid_two r hv
  rw [← list_size (Utf8.encode (r : Int))]
  by_cases h1 : r < 128
  · rw [enc1 r h1] at *
    have a0 := h.at0.2
    rw [ofNat_lt r (by omega)] at a0
    rw [dec_ascii z q (by omega), a0]
    rfl
  · rw [decode_eq]
    by_cases h2 : r ≤ 2047
    · rw [enc2 r (by omega) h2] at *
      have a0 := h 0 (by simp)
      have a1 := h 1 (by simp)
      exact rd2 (fun k => at' z (q + k)) _ r (by omega) h2 (a0.2.trans (ofNat_lt _ (by omega))) (a1.2.trans (ofNat_lt _ (by omega))) (by omega)
    · by_cases h3 : r ≤ 65535
      · rw [enc3 r (by omega) h3 hv] at *
        have a0 := h 0 (by simp)
        have a1 := h 1 (by simp)
        have a2 := h 2 (by simp)
        exact rd3 (fun k => at' z (q + k)) _ r (by omega) h3 hv (a0.2.trans (ofNat_lt _ (by omega))) (a1.2.trans (ofNat_lt _ (by omega))) (a2.2.trans (ofNat_lt _ (by omega))) (by omega)
      · rw [enc4 r (by omega) hv] at *
        have a0 := h 0 (by simp)
        have a1 := h 1 (by simp)
        have a2 := h 2 (by simp)
        have a3 := h 3 (by simp)
        exact rd4 (fun k => at' z (q + k)) _ r (by omega) hv1 hv (a0.2.trans (ofNat_lt _ (by omega))) (a1.2.trans (ofNat_lt _ (by omega))) (a2.2.trans (ofNat_lt _ (by omega))) (a3.2.trans (ofNat_lt _ (by omega))) (by omega)
/-- what a reading that is no stray byte says of the bytes -/
theorem rd_inv (f : Nat → Nat) (n : Nat) (h0 : f 0 < 256) (h1 : f 1 < 256) (h2 : f 2 < 256) (_h3 : f 3 < 256) (hns : (128 ≤ f 0 ∧ (rd f n).2 = 1) → False) :
    (f 0 < 128 ∧ rd f n = (f 0, 1)) ∨
    (1 < n ∧ 128 ≤ (rd f n).1 ∧ (rd f n).1 ≤ 2047 ∧ (rd f n).2 = 2 ∧ f 0 = 192 + (rd f n).1 / 64 ∧ f 1 = 128 + (rd f n).1 % 64) ∨
    (2 < n ∧ 2048 ≤ (rd f n).1 ∧ (rd f n).1 ≤ 65535 ∧ (rd f n).2 = 3 ∧ f 0 = 224 + (rd f n).1 / 4096 ∧ f 1 = 128 + (rd f n).1 / 64 % 64 ∧ f 2 = 128 + (rd f n).1 % 64) ∨
    (3 < n ∧ 65536 ≤ (rd f n).1 ∧ (rd f n).2 = 4 ∧ f 0 = 240 + (rd f n).1 / 262144 ∧ f 1 = 128 + (rd f n).1 / 4096 % 64 ∧ f 2 = 128 + (rd f n).1 / 64 % 64 ∧ f 3 = 128 + (rd f n).1 % 64) := by
  by_cases c0 : f 0 < 128
  · left
    refine ⟨c0, ?_⟩
    unfold rd
    rw [if_pos c0]
  · right
    have hns' : (rd f n).2 = 1 → False := fun h => hns ⟨by omega, h⟩
    clear hns
    revert hns'
    unfold rd
    rw [if_neg c0]
    split
    · rename_i c1
      simp only [Bool.and_eq_true, beq_iff_eq, decide_eq_true_eq] at c1
      split
      · intro _
        left
        dsimp only
        omega
      · intro h; exact (h rfl).elim
    · split
      · rename_i c1
        simp only [Bool.and_eq_true, beq_iff_eq, decide_eq_true_eq] at c1
        split
        · rename_i c2
          simp only [Bool.and_eq_true, decide_eq_true_eq] at c2
          intro _
          right; left
          dsimp only
          omega
        · intro h; exact (h rfl).elim
      · split
        · rename_i c1
          simp only [Bool.and_eq_true, beq_iff_eq, decide_eq_true_eq] at c1
          split
          · rename_i c2
            simp only [Bool.and_eq_true, decide_eq_true_eq] at c2
            intro _
            right; right
            dsimp only
            omega
          · intro h; exact (h rfl).elim
        · intro h; exact (h rfl).elim
theorem has1 {z : ByteArray} {q : Nat} {a : UInt8} (h0 : q < z.size) (e0 : at' z q = a.toNat) : Has z q [a] := fun j hj => by
  match j, hj with
  | 0, _ => exact ⟨h0, e0⟩
theorem has_cons {z : ByteArray} {q : Nat} {a : UInt8} {l : List UInt8} (h0 : q < z.size) (e0 : at' z q = a.toNat) (h : Has z (q + 1) l) : Has z q (a :: l) := fun j hj => by
  cases j with
  | zero => exact ⟨h0, e0⟩
  | succ j =>
    have := h j (by simpa using hj)
    rw [show q + (j + 1) = q + 1 + j by omega]
    exact this
/-- the bytes of a rune that is read are those that were read -/
theorem enc_dec (t : ByteArray) (p : Nat) (h : p < t.size) (hs : stray t p = false) : Has t p (Utf8.encode ((Utf8.decode t p).1 : Int)).data.toList ∧ (Utf8.encode ((Utf8.decode t p).1 : Int)).size = (Utf8.decode t p).2 := by
  have hv := dec_valid t p
  have key := rd_inv (fun k => at' t (p + k)) (t.size - p) (at_lt t _) (at_lt t _) (at_lt t _) (at_lt t _) (fun hh => by
    rw [← decode_eq] at hh
    have : stray t p = true := by
      unfold stray
      rw [Bool.and_eq_true, decide_eq_true_eq, decide_eq_true_eq]
      exact hh
    rw [hs] at this
    cases this)
  rw [← decode_eq] at key
  rw [← list_size]
  generalize Utf8.decode t p = D at *
  obtain ⟨r, d⟩ := D
  dsimp only at *
  rcases key with ⟨k0, k1⟩ | ⟨k0, k1, k2, k3, k4, k5⟩ | ⟨k0, k1, k2, k3, k4, k5, k6⟩ | ⟨k0, k1, k3, k4, k5, k6, k7⟩
  · cases k1
    rw [enc1 _ k0]
    exact ⟨has1 h (ofNat_lt _ (at_lt t p)).symm, rfl⟩
  · rw [enc2 r k1 k2, k3]
    exact ⟨has_cons h (k4.trans (ofNat_lt _ (by omega)).symm) (has1 (by omega) (k5.trans (ofNat_lt _ (by omega)).symm)), rfl⟩
  · rw [enc3 r k1 k2 hv, k3]
    exact ⟨has_cons h (k4.trans (ofNat_lt _ (by omega)).symm) (has_cons (by omega) (k5.trans (ofNat_lt _ (by omega)).symm) (has1 (by omega) (k6.trans (ofNat_lt _ (by omega)).symm))), rfl⟩
  · have hv1 := (valid_two r hv).1
    rw [enc4 r k1 hv, k3]
    exact ⟨has_cons h (k4.trans (ofNat_lt _ (by omega)).symm) (has_cons (by omega) (k5.trans (ofNat_lt _ (by omega)).symm) (has_cons (by omega) (k6.trans (ofNat_lt _ (by omega)).symm) (has1 (by omega) (k7.trans (ofNat_lt _ (by omega)).symm)))), rfl⟩
end Tx
end Go.Proofs.YtneifdbcjicfgaaDoor

/-
  What is quoted is read again: the escapes.
-/
namespace Go.Proofs.YtneifdbcjicfgaaDoor
open Go Go.RowKit Go.Lib
open Tx

namespace Tx
theorem has_extract {z : ByteArray} {q : Nat} {l : List UInt8} (h : Has z q l) (hq : q + l.length ≤ z.size) : z.extract q (q + l.length) = ⟨l.toArray⟩ := by
  have hs := size_cut z q (q + l.length) hq
  apply ByteArray.ext
  apply Array.ext
  · show (z.extract q (q + l.length)).size = l.toArray.size
    rw [hs]
    simp
  · intro i h1 h2
    have h1' : i < (z.extract q (q + l.length)).size := h1
    have hi : i < l.length := by rw [hs] at h1'; omega
    have e1 := at_cut z q (q + l.length) i hq (by omega)
    rw [(h i hi).2] at e1
    have q1 : (z.extract q (q + l.length)).get! i = (z.extract q (q + l.length)).data[i] := getElem!_pos (z.extract q (q + l.length)).data i h1
    rw [← q1]
    have e2 : (z.extract q (q + l.length)).get! i = l[i] := u8_eq e1
    rw [e2]
    simp
theorem pre_yes {s : ByteArray} {l : List UInt8} (h : Has s 0 l) (hl : l.length ≤ s.size) : pre s ⟨l.toArray⟩ = true := by
  have e := has_extract h (by omega)
  rw [Nat.zero_add] at e
  have hz : (⟨l.toArray⟩ : ByteArray).size = l.length := by show l.toArray.size = _; simp
  unfold pre
  rw [hz, e, decide_eq_true hl]
  simp
theorem pre_at {s p : ByteArray} (h : pre s p = true) (i : Nat) (hi : i < p.size) : at' s i = at' p i := by
  unfold pre at h
  rw [Bool.and_eq_true, decide_eq_true_eq, beq_iff_eq] at h
  have e := toList_inj h.2
  have := at_cut s 0 p.size i h.1 (by omega)
  rw [e, Nat.zero_add] at this
  exact this.symm
theorem pno {s : ByteArray} {c : Nat} (h1 : at' s 1 = c) (b : UInt8) (hne : c ≠ b.toNat) : ¬ pre s ⟨#[92, b]⟩ = true := fun h => by
  have := pre_at h 1 (by show (1 : Nat) < 2; decide)
  exact hne (h1.symm.trans this)
theorem pnoU {s : ByteArray} {c : Nat} (h1 : at' s 1 = c) (hne : c ≠ 117) : ¬ pre s ⟨#[92, 117, 123]⟩ = true := fun h => by
  have := pre_at h 1 (by show (1 : Nat) < 3; decide)
  exact hne (h1.symm.trans this)
theorem hexD_all : ∀ n, n < 16 → hv (hexD n).toNat = some n ∧ (hexD n).toNat < 128 ∧ (hexD n).toNat ≠ 125 := by decide +kernel
theorem has_size {z : ByteArray} {q : Nat} {l : List UInt8} (h : Has z q l) (h0 : 0 < l.length) : q + l.length ≤ z.size := by
  have := (h (l.length - 1) (by omega)).1
  omega
theorem esc_x {s : ByteArray} {a b : Nat} (ha : a < 16) (hb : b < 16) (h : Has s 0 [92, 120, hexD a, hexD b]) : esc s = (⟨#[UInt8.ofNat (16 * a + b)]⟩, 4) := by
  have hsz := has_size h (by simp)
  have hsz4 : 4 ≤ s.size := by simpa using hsz
  have h2 : at' s 2 = (hexD a).toNat := (h 2 (by simp)).2
  have h3 : at' s 3 = (hexD b).toNat := (h 3 (by simp)).2
  have hp : pre s ⟨#[92, 120]⟩ = true := pre_yes (l := [92, 120]) (Has.left (b := [hexD a, hexD b]) h) (by simp; omega)
  unfold esc
  rw [if_pos hp]
  unfold eb
  rw [if_neg (by omega), h2, h3, (hexD_all a ha).1, (hexD_all b hb).1]
theorem esc_q {s : ByteArray} (h : Has s 0 [92, 34]) : esc s = (⟨#[34]⟩, 2) := by
  have h1 : at' s 1 = 34 := (h 1 (by simp)).2
  have hsz := has_size h (by simp)
  unfold esc
  rw [if_neg (pno h1 120 (by decide)), if_neg (pnoU h1 (by decide)), if_pos (pre_yes h (by simpa using hsz))]
theorem esc_b {s : ByteArray} (h : Has s 0 [92, 92]) : esc s = (⟨#[92]⟩, 2) := by
  have h1 : at' s 1 = 92 := (h 1 (by simp)).2
  have hsz := has_size h (by simp)
  unfold esc
  rw [if_neg (pno h1 120 (by decide)), if_neg (pnoU h1 (by decide)), if_neg (pno h1 34 (by decide)), if_pos (pre_yes h (by simpa using hsz))]
theorem esc_n {s : ByteArray} (h : Has s 0 [92, 110]) : esc s = (⟨#[10]⟩, 2) := by
  have h1 : at' s 1 = 110 := (h 1 (by simp)).2
  have hsz := has_size h (by simp)
  unfold esc
  rw [if_neg (pno h1 120 (by decide)), if_neg (pnoU h1 (by decide)), if_neg (pno h1 34 (by decide)), if_neg (pno h1 92 (by decide)), if_pos (pre_yes h (by simpa using hsz))]
theorem esc_t {s : ByteArray} (h : Has s 0 [92, 116]) : esc s = (⟨#[9]⟩, 2) := by
  have h1 : at' s 1 = 116 := (h 1 (by simp)).2
  have hsz := has_size h (by simp)
  unfold esc
  rw [if_neg (pno h1 120 (by decide)), if_neg (pnoU h1 (by decide)), if_neg (pno h1 34 (by decide)), if_neg (pno h1 92 (by decide)), if_neg (pno h1 110 (by decide)), if_pos (pre_yes h (by simpa using hsz))]
theorem esc_r {s : ByteArray} (h : Has s 0 [92, 114]) : esc s = (⟨#[13]⟩, 2) := by
  have h1 : at' s 1 = 114 := (h 1 (by simp)).2
  have hsz := has_size h (by simp)
  unfold esc
  rw [if_neg (pno h1 120 (by decide)), if_neg (pnoU h1 (by decide)), if_neg (pno h1 34 (by decide)), if_neg (pno h1 92 (by decide)), if_neg (pno h1 110 (by decide)), if_neg (pno h1 116 (by decide)), if_pos (pre_yes h (by simpa using hsz))]
/-- one digit more -/
theorem erL_dig (t : ByteArray) (p v d : Nat) (hd : d < 16) (hp : p < 6) (h : Has t p [hexD d]) : erL t p v = erL t (p + 1) (v * 16 + d) := by
  have h0 := h.at0
  have hx := hexD_all d hd
  have e : Utf8.decode t p = ((hexD d).toNat, 1) := by rw [dec_ascii t p (by omega), h0.2]
  refine (erL_on t p v d h0.1 (by omega) ?_ ?_).symm
  · rw [e]
    exact fun hh => hx.2.2 hh.1
  · rw [e]
    exact hx.1
theorem erL_hex (t : ByteArray) (u p : Nat) (h : Has t p (hexL u)) (hl : p + (hexL u).length ≤ 6) : erL t p 0 = erL t (p + (hexL u).length) u := by
  by_cases hu : u < 16
  · rw [hexL_lo u hu] at *
    have := erL_dig t p 0 u hu (by simp at hl; omega) h
    rw [Nat.zero_mul, Nat.zero_add] at this
    exact this
  · rw [hexL_hi u hu] at *
    rw [List.length_append] at *
    have ih := erL_hex t (u / 16) p h.left (by simp at hl; omega)
    rw [ih, erL_dig t (p + (hexL (u / 16)).length) (u / 16) (u % 16) (by omega) (by simp at hl; omega) h.right]
    rw [show u / 16 * 16 + u % 16 = u by omega]
    rfl
termination_by u
decreasing_by omega
theorem esc_u {s : ByteArray} {r : Nat} (hv : Utf8.valid (r : Int) = true) (h : Has s 0 ([92, 117, 123] ++ (hexL r ++ [125]))) : esc s = (Utf8.encode (r : Int), (hexL r).length + 4) := by
  have h1 : at' s 1 = 117 := (h.left 1 (by simp)).2
  have hsz := has_size h.left (by simp)
  have hsz3 : 3 ≤ s.size := by simpa using hsz
  have hl6 : (hexL r).length ≤ 6 := hexL_len 5 r (by have := (valid_two r hv).1; omega)
  have hl0 : 0 < (hexL r).length := by
    by_cases hu : r < 16
    · rw [hexL_lo r hu]; simp
    · rw [hexL_hi r hu]; simp
  have hr : Has (s.extract 3 s.size) 0 (hexL r ++ [125]) := Has.cut 3 (by simp) h.right
  have h9 := hr.right.at0
  rw [Nat.zero_add] at h9
  unfold esc
  rw [if_neg (pno h1 120 (by decide)), if_pos (pre_yes (l := [92, 117, 123]) h.left (by simpa using hsz))]
  rw [erL_hex _ r 0 hr.left (by omega), Nat.zero_add, erL_end _ _ r h9.1 ⟨by rw [dec_ascii _ _ (by rw [h9.2]; decide), h9.2]; rfl, hl0, hv⟩]
end Tx
end Go.Proofs.YtneifdbcjicfgaaDoor

/-
  What is quoted is read again: the whole.
-/
namespace Go.Proofs.YtneifdbcjicfgaaDoor
open Go Go.RowKit Go.Lib
open Tx

namespace Tx
theorem con_skips (z : ByteArray) (L : List UInt8) (e : Nat) : ∀ (m q : Nat), (∀ i, i < m → q + i < z.size ∧ at' z (q + i) < 128) → q + m ≤ e → con z q L e = con z (q + m) L e
  | 0, q, _, _ => rfl
  | m + 1, q, h, he => by
    have h0 := h 0 (by omega)
    have hd : (Utf8.decode z q).2 = 1 := by rw [dec_ascii z q h0.2]
    have e1 := con_skip z q L e h0.1 (by omega)
    rw [hd] at e1
    rw [← e1, con_skips z L e m (q + 1) (fun i hi => by
      have := h (i + 1) (by omega)
      rw [show q + 1 + i = q + (i + 1) by omega]
      exact this) (by omega)]
    rw [show q + 1 + m = q + (m + 1) by omega]
/-- an escape is read -/
theorem con_esc (z : ByteArray) (q : Nat) (L : List UInt8) (e : Nat) (W : List UInt8) (x : ByteArray) (h : Has z q (92 :: W)) (he : e ≤ q) (hlow : ∀ b ∈ W, b.toNat < 128) (hx : esc (z.extract q z.size) = (x, W.length + 1)) :
    con z q L e = con z (q + (W.length + 1)) (L ++ x.data.toList) (q + (W.length + 1)) := by
  have h0 := h.at0
  have hd : Utf8.decode z q = (92, 1) := by rw [dec_ascii z q (by rw [h0.2]; decide), h0.2]; rfl
  have e1 := con_e z q L e h0.1 (by omega) (by rw [hd]) (by rw [hx]; simp)
  rw [hd, hx] at e1
  rw [← e1]
  have ht := h.tail
  rw [con_skips z _ _ W.length (q + 1) (fun i hi => by
    have := ht i hi
    refine ⟨this.1, ?_⟩
    rw [this.2]
    exact hlow _ (List.getElem_mem hi)) (by omega)]
  rw [show q + 1 + W.length = q + (W.length + 1) by omega]
theorem enc_two (r : Nat) (hv : Utf8.valid (r : Int) = true) (h : 128 ≤ r) : 2 ≤ (Utf8.encode (r : Int)).size := by
  rw [← list_size]
  by_cases h2 : r ≤ 2047
  · rw [enc2 r h h2]; simp
  · by_cases h3 : r ≤ 65535
    · rw [enc3 r (by omega) h3 hv]; simp
    · rw [enc4 r (by omega) hv]; simp
/-- a rune is read -/
theorem con_rune (z : ByteArray) (q : Nat) (L : List UInt8) (e r : Nat) (hv : Utf8.valid (r : Int) = true) (h : Has z q (Utf8.encode (r : Int)).data.toList) (h0 : q < z.size) (he : e ≤ q) (h34 : r ≠ 34) (h92 : r ≠ 92) (hc : ctl (r : Int) = false) (hh : among hids (r : Int) = false) :
    con z q L e = con z (q + (Utf8.encode (r : Int)).size) (L ++ (Utf8.encode (r : Int)).data.toList) e := by
  have hd := dec_enc z q r hv h
  have h2 : 128 ≤ r → 2 ≤ (Utf8.encode (r : Int)).size := enc_two r hv
  have hlow : r < 128 → at' z q = r := fun h1 => by
    have e1 := enc1 r h1
    rw [e1] at h
    exact h.at0.2.trans (ofNat_lt r (by omega))
  have key := con_on z q L e h0 (by omega)
  generalize hE : Utf8.encode (r : Int) = E at *
  rw [hd] at key
  have hs : stray z q = false := by
    unfold stray
    rw [hd]
    by_cases h1 : r < 128
    · rw [hlow h1, decide_eq_false (by omega), Bool.false_and]
    · have := h2 (by omega)
      rw [Bool.and_eq_false_iff]
      right
      rw [decide_eq_false_iff_not]
      dsimp only
      omega
  dsimp only at key
  rw [hE, hc, hh, hs] at key
  exact (key h34 h92 rfl).symm
theorem byte_back (c : Nat) : UInt8.ofNat (16 * (c / 16) + c % 16) = UInt8.ofNat c := by rw [show 16 * (c / 16) + c % 16 = c by omega]
/-- two digits are read -/
theorem con_hex (z : ByteArray) (q : Nat) (L : List UInt8) (e c : Nat) (hc : c < 256) (h : Has z q (hexB c).data.toList) (he : e ≤ q) :
    con z q L e = con z (q + (hexB c).size) (L ++ [UInt8.ofNat c]) (q + (hexB c).size) := by
  have a1 := (hexD_all (c / 16) (by omega)).2.1
  have a2 := (hexD_all (c % 16) (by omega)).2.1
  have h4 : Has z q [92, 120, hexD (c / 16), hexD (c % 16)] := h
  have hx : esc (z.extract q z.size) = (⟨#[UInt8.ofNat c]⟩, 4) := by
    have := esc_x (a := c / 16) (b := c % 16) (by omega) (by omega) (by
      have := Has.cut q (Nat.le_refl _) h4
      rwa [Nat.sub_self] at this)
    rw [byte_back c] at this
    exact this
  exact con_esc z q L e [120, hexD (c / 16), hexD (c % 16)] ⟨#[UInt8.ofNat c]⟩ h4 he (by
    intro b hb
    simp at hb
    rcases hb with rfl | rfl | rfl
    · decide
    · exact a1
    · exact a2) hx
theorem hexL_low (u : Nat) : ∀ b ∈ hexL u, b.toNat < 128 := by
  by_cases hu : u < 16
  · rw [hexL_lo u hu]
    intro b hb
    simp at hb
    subst hb
    exact (hexD_all u hu).2.1
  · rw [hexL_hi u hu]
    intro b hb
    rw [List.mem_append] at hb
    rcases hb with hb | hb
    · exact hexL_low (u / 16) b hb
    · simp at hb
      subst hb
      exact (hexD_all (u % 16) (by omega)).2.1
termination_by u
decreasing_by omega
theorem two_esc (z : ByteArray) (q : Nat) (L : List UInt8) (e : Nat) (b : UInt8) (x : ByteArray) (hb : b.toNat < 128) (h : Has z q [92, b]) (he : e ≤ q) (hx : ∀ s, Has s 0 [92, b] → esc s = (x, 2)) :
    con z q L e = con z (q + 2) (L ++ x.data.toList) (q + 2) :=
  con_esc z q L e [b] x h he (by
    intro y hy
    simp at hy
    subst hy
    exact hb) (hx _ (by
      have := Has.cut q (Nat.le_refl _) h
      rwa [Nat.sub_self] at this))
theorem wrt_step (z : ByteArray) (q : Nat) (L : List UInt8) (e r : Nat) (hv : Utf8.valid (r : Int) = true) (h : Has z q (wrt r).data.toList) (hq : q < z.size) (he : e ≤ q) :
    ∃ e', con z q L e = con z (q + (wrt r).size) (L ++ (Utf8.encode (r : Int)).data.toList) e' ∧ e' ≤ q + (wrt r).size := by
  revert h
  unfold wrt
  split
  · rename_i c0
    intro h
    rcases c0 with rfl | rfl
    · rw [enc1 34 (by decide)]
      exact ⟨_, two_esc z q L e 34 ⟨#[34]⟩ (by decide) h he (fun s hs => esc_q hs), Nat.le_refl _⟩
    · rw [enc1 92 (by decide)]
      exact ⟨_, two_esc z q L e 92 ⟨#[92]⟩ (by decide) h he (fun s hs => esc_b hs), Nat.le_refl _⟩
  · rename_i c0
    split
    · rename_i c1
      subst c1
      intro h
      rw [enc1 10 (by decide)]
      exact ⟨_, two_esc z q L e 110 ⟨#[10]⟩ (by decide) h he (fun s hs => esc_n hs), Nat.le_refl _⟩
    · split
      · rename_i c1
        subst c1
        intro h
        rw [enc1 9 (by decide)]
        exact ⟨_, two_esc z q L e 116 ⟨#[9]⟩ (by decide) h he (fun s hs => esc_t hs), Nat.le_refl _⟩
      · split
        · rename_i c1
          subst c1
          intro h
          rw [enc1 13 (by decide)]
          exact ⟨_, two_esc z q L e 114 ⟨#[13]⟩ (by decide) h he (fun s hs => esc_r hs), Nat.le_refl _⟩
        · split
          · rename_i c1
            intro h
            have hr : r < 128 := by
              unfold ctl at c1
              rw [Bool.or_eq_true, decide_eq_true_eq, decide_eq_true_eq] at c1
              omega
            rw [enc1 r hr]
            exact ⟨_, con_hex z q L e r (by omega) h he, Nat.le_refl _⟩
          · rename_i c1
            split
            · intro h
              have hw : ((⟨#[92, 117, 123]⟩ : ByteArray) ++ ⟨(hexL r).toArray⟩ ++ ⟨#[125]⟩).data.toList = 92 :: ([117, 123] ++ (hexL r ++ [125])) := by
                simp [ByteArray.data_append]
              have hz : ((⟨#[92, 117, 123]⟩ : ByteArray) ++ ⟨(hexL r).toArray⟩ ++ ⟨#[125]⟩).size = ([117, 123] ++ (hexL r ++ [125])).length + 1 := by
                rw [← list_size, hw, List.length_cons]
              rw [hw] at h
              rw [hz]
              refine ⟨_, con_esc z q L e ([117, 123] ++ (hexL r ++ [125])) (Utf8.encode (r : Int)) h he ?_ ?_, Nat.le_refl _⟩
              · intro b hb
                rw [List.mem_append, List.mem_append] at hb
                rcases hb with hb | hb | hb
                · simp at hb
                  rcases hb with rfl | rfl <;> decide
                · exact hexL_low r b hb
                · simp at hb
                  subst hb
                  decide
              · have h9 := Has.cut q (Nat.le_refl _) h
                rw [Nat.sub_self] at h9
                rw [esc_u hv h9]
                have e9 : (hexL r).length + 4 = ([117, 123] ++ (hexL r ++ [125])).length + 1 := by
                  simp only [List.length_append, List.length_cons, List.length_nil]
                  omega
                rw [e9]
            · rename_i c2
              intro h
              exact ⟨e, con_rune z q L e r hv h hq he (fun h => c0 (.inl h)) (fun h => c0 (.inr h)) (by simpa using c1) (by simpa using c2), by omega⟩
/-- a piece is read -/
theorem pc_step (t z : ByteArray) (p q : Nat) (L : List UInt8) (e : Nat) (hp : p < t.size) (h : Has z q (pcW t p).data.toList) (hq : q < z.size) (he : e ≤ q) :
    ∃ l e', con z q L e = con z (q + (pcW t p).size) (L ++ l) e' ∧ e' ≤ q + (pcW t p).size ∧ Has t p l ∧ l.length = (Utf8.decode t p).2 := by
  cases hs : stray t p with
  | true =>
    have hw : pcW t p = hexB (at' t p) := by unfold pcW; rw [if_pos hs]
    rw [hw] at h ⊢
    have h1 : (Utf8.decode t p).2 = 1 := by
      unfold stray at hs
      rw [Bool.and_eq_true, decide_eq_true_eq, decide_eq_true_eq] at hs
      exact hs.2
    exact ⟨_, _, con_hex z q L e (at' t p) (at_lt t p) h he, Nat.le_refl _, has1 hp (ofNat_lt _ (at_lt t p)).symm, by rw [h1]; rfl⟩
  | false =>
    have hw : pcW t p = wrt (Utf8.decode t p).1 := by unfold pcW; rw [if_neg (by simp [hs])]
    rw [hw] at h ⊢
    obtain ⟨e', h1, h2⟩ := wrt_step z q L e (Utf8.decode t p).1 (dec_valid t p) h hq he
    have h3 := enc_dec t p hp hs
    exact ⟨_, e', h1, h2, h3.1, by rw [list_size]; exact h3.2⟩
theorem take_has {t : ByteArray} {p : Nat} {l : List UInt8} (h : Has t p l) : t.data.toList.take p ++ l = t.data.toList.take (p + l.length) := by
  rw [List.take_add]
  congr 1
  apply List.ext_getElem?
  intro j
  by_cases hj : j < l.length
  · have h1 := h j hj
    have h2 : p + j < t.data.toList.length := by rw [list_size]; exact h1.1
    rw [List.getElem?_eq_getElem hj, List.getElem?_take, if_pos hj, List.getElem?_drop, List.getElem?_eq_getElem h2]
    congr 1
    have h3 := at_get t (p + j) h1.1
    apply u8_eq
    rw [← h1.2, h3]
    rfl
  · rw [List.getElem?_eq_none (by omega), List.getElem?_eq_none (by rw [List.length_take]; omega)]
/-- what is quoted is read -/
theorem rnd (t z : ByteArray) : ∀ (k p q : Nat) (e : Nat), t.size - p ≤ k → p ≤ t.size → Has z q (qs t p ++ [34]) → e ≤ q → con z q (t.data.toList.take p) e = (t, q + (qs t p).length + 1, 0)
  | 0, p, q, e, hk, hp, h, he => by
    have hpe : p = t.size := by omega
    rw [qs_out t p (by omega)] at *
    have h0 := Has.at0 (b := []) h
    rw [con_q z q _ e h0.1 (by omega) (by rw [dec_ascii z q (by rw [h0.2]; decide), h0.2]; rfl)]
    rw [List.take_of_length_le (by rw [list_size]; omega)]
    rfl
  | k + 1, p, q, e, hk, hp, h, he => by
    by_cases hlt : p < t.size
    · have hd := decode_fits t p hlt
      rw [qs_in t p hlt, List.append_assoc] at h
      have hq : q < z.size := by
        have h1 := has_size h (by simp; omega)
        simp at h1
        omega
      obtain ⟨l, e', h1, h2, h3, h4⟩ := pc_step t z p q (t.data.toList.take p) e hlt h.left hq he
      have hr := h.right
      rw [list_size] at hr
      rw [h1, take_has h3, h4, rnd t z k (p + (Utf8.decode t p).2) (q + (pcW t p).size) e' (by omega) hd.2.1 hr h2]
      rw [qs_in t p hlt, List.length_append, list_size]
      congr 2
      omega
    · have hpe : p = t.size := by omega
      rw [qs_out t p (by omega)] at *
      have h0 := Has.at0 (b := []) h
      rw [con_q z q _ e h0.1 (by omega) (by rw [dec_ascii z q (by rw [h0.2]; decide), h0.2]; rfl)]
      rw [List.take_of_length_le (by rw [list_size]; omega)]
      rfl
end Tx
end Go.Proofs.YtneifdbcjicfgaaDoor

/-
  Escapes are ASCII: a literal can be read by jumps.
-/
namespace Go.Proofs.YtneifdbcjicfgaaDoor
open Go Go.RowKit Go.Lib
open Tx

namespace Tx
/-- n bytes, all of them ASCII, stand at q -/
def Low (s : ByteArray) (n : Nat) : Prop := n ≤ s.size ∧ ∀ i, i < n → at' s i < 128
theorem low_pre {s p : ByteArray} (h : pre s p = true) (hp : ∀ i, i < p.size → at' p i < 128) : Low s p.size :=
  ⟨pre_size s p h, fun i hi => by rw [pre_at h i hi]; exact hp i hi⟩
theorem low_p2 (b : UInt8) (hb : b.toNat < 128) : ∀ i, i < (⟨#[92, b]⟩ : ByteArray).size → at' ⟨#[92, b]⟩ i < 128 := by
  intro i hi
  have hi2 : i < 2 := hi
  match i, hi2 with
  | 0, _ => show (92 : UInt8).toNat < 128; decide
  | 1, _ => exact hb
theorem dec_hv {t : ByteArray} {p d : Nat} (h : hv (Utf8.decode t p).1 = some d) : at' t p < 128 ∧ (Utf8.decode t p).1 = at' t p := by
  have h1 := hv_low h
  have h2 : (Utf8.decode t p).1 < 128 := h1
  by_cases h3 : at' t p < 128
  · exact ⟨h3, by rw [dec_ascii t p h3]⟩
  · exfalso
    have h4 := dec_low t p h2
    have key := rd_stray (fun k => at' t (p + k)) (t.size - p) (at_lt t _) (at_lt t _) (at_lt t _)
    have hs : stray t p = true := by
      unfold stray
      rw [Bool.and_eq_true, decide_eq_true_eq, decide_eq_true_eq]
      exact ⟨by omega, h4⟩
    rw [stray_eq, Bool.and_eq_true, decide_eq_true_eq] at hs
    omega
theorem dec_low_at {t : ByteArray} {p : Nat} (h2 : (Utf8.decode t p).1 < 128) : at' t p < 128 ∧ (Utf8.decode t p).1 = at' t p := by
  by_cases h3 : at' t p < 128
  · exact ⟨h3, by rw [dec_ascii t p h3]⟩
  · exfalso
    have h4 := dec_low t p h2
    have hs : stray t p = true := by
      unfold stray
      rw [Bool.and_eq_true, decide_eq_true_eq, decide_eq_true_eq]
      exact ⟨by omega, h4⟩
    rw [stray_eq, Bool.and_eq_true, decide_eq_true_eq] at hs
    omega
theorem erL_low (t : ByteArray) : ∀ (k p v : Nat), t.size - p ≤ k → (∀ i, i < p → at' t i < 128) → (erL t p v).2 ≠ 0 → 4 ≤ (erL t p v).2 ∧ (erL t p v).2 - 3 ≤ t.size ∧ ∀ i, i < (erL t p v).2 - 3 → at' t i < 128
  | 0, p, v, hk, _, h => by
    rw [erL_out t p v (by omega)] at h
    exact (h rfl).elim
  | k + 1, p, v, hk, hl, h => by
    by_cases hp : p < t.size
    · by_cases h2 : (Utf8.decode t p).1 = 125 ∧ 0 < p ∧ Utf8.valid (v : Int) = true
      · have ha := dec_low_at (t := t) (p := p) (by omega)
        rw [erL_end t p v hp h2]
        refine ⟨by show 4 ≤ p + 4; omega, by show p + 4 - 3 ≤ t.size; omega, fun i hi => ?_⟩
        have hi' : i < p + 4 - 3 := hi
        by_cases hip : i < p
        · exact hl i hip
        · obtain rfl : i = p := by omega
          exact ha.1
      · cases hn : hv (Utf8.decode t p).1 with
        | none =>
          rw [erL_no t p v hp h2 hn] at h
          exact (h rfl).elim
        | some d =>
          by_cases h6 : p = 6
          · subst h6
            rw [erL_six t v d hp h2 hn] at h
            exact (h rfl).elim
          · rw [← erL_on t p v d hp h6 h2 hn] at h ⊢
            refine erL_low t k (p + 1) _ (by omega) (fun i hi => ?_) h
            by_cases hip : i < p
            · exact hl i hip
            · obtain rfl : i = p := by omega
              exact (dec_hv hn).1
    · rw [erL_out t p v hp] at h
      exact (h rfl).elim
theorem esc_low (s : ByteArray) (h : (esc s).2 ≠ 0) : Low s (esc s).2 := by
  revert h
  unfold esc
  split
  · rename_i hp
    have hl := low_pre hp (low_p2 120 (by decide))
    unfold eb
    split
    · intro h; exact (h rfl).elim
    · split
      · rename_i h4 _ _ a b ha hb
        intro _
        refine ⟨by show 4 ≤ s.size; omega, fun i hi => ?_⟩
        have hi4 : i < 4 := hi
        match i, hi4 with
        | 0, _ => exact hl.2 0 (by show (0 : Nat) < 2; decide)
        | 1, _ => exact hl.2 1 (by show (1 : Nat) < 2; decide)
        | 2, _ => exact hv_low ha
        | 3, _ => exact hv_low hb
      · intro h; exact (h rfl).elim
  · split
    · rename_i hp
      intro h
      have hps : 3 ≤ s.size := pre_size _ _ hp
      have h1 := erL_low (s.extract 3 s.size) _ 0 0 (Nat.le_refl _) (fun i hi => by omega) h
      rw [size_cut s 3 s.size (Nat.le_refl _)] at h1
      refine ⟨by omega, fun i hi => ?_⟩
      by_cases hi3 : i < 3
      · have hq := pre_at hp i hi3
        rw [hq]
        match i, hi3 with
        | 0, _ => show (92 : UInt8).toNat < 128; decide
        | 1, _ => show (117 : UInt8).toNat < 128; decide
        | 2, _ => show (123 : UInt8).toNat < 128; decide
      · have h2 := h1.2.2 (i - 3) (by omega)
        rw [at_cut s 3 s.size (i - 3) (Nat.le_refl _) (by omega), show 3 + (i - 3) = i by omega] at h2
        exact h2
    · split
      · rename_i hp
        intro _
        exact low_pre hp (low_p2 34 (by decide))
      · split
        · rename_i hp
          intro _
          exact low_pre hp (low_p2 92 (by decide))
        · split
          · rename_i hp
            intro _
            exact low_pre hp (low_p2 110 (by decide))
          · split
            · rename_i hp
              intro _
              exact low_pre hp (low_p2 116 (by decide))
            · split
              · rename_i hp
                intro _
                exact low_pre hp (low_p2 114 (by decide))
              · intro h; exact (h rfl).elim
/-- the reading goes on behind the escape -/
theorem con_jump (z : ByteArray) (q : Nat) (L : List UInt8) (e : Nat) (hq : q < z.size) (he : e ≤ q) (h92 : at' z q = 92) (h : (esc (z.extract q z.size)).2 ≠ 0) :
    con z (q + (esc (z.extract q z.size)).2) (L ++ (esc (z.extract q z.size)).1.data.toList) (q + (esc (z.extract q z.size)).2) = con z q L e ∧ q + (esc (z.extract q z.size)).2 ≤ z.size := by
  have hl := esc_low _ h
  have hd : Utf8.decode z q = (92, 1) := by rw [dec_ascii z q (by omega), h92]
  have e1 := con_e z q L e hq (by omega) (by rw [hd]) h
  rw [hd] at e1
  have hsz := hl.1
  rw [size_cut z q z.size (Nat.le_refl _)] at hsz
  refine ⟨?_, by omega⟩
  rw [← e1]
  generalize hX : esc (z.extract q z.size) = X at *
  have h1 := con_skips z (L ++ X.1.data.toList) (q + X.2) (X.2 - 1) (q + 1) (fun i hi => by
    have h2 := hl.2 (i + 1) (by omega)
    rw [at_cut z q z.size (i + 1) (Nat.le_refl _) (by omega), show q + (i + 1) = q + 1 + i by omega] at h2
    exact ⟨by omega, h2⟩) (by omega)
  rw [h1, show q + 1 + (X.2 - 1) = q + X.2 by omega]
end Tx
end Go.Proofs.YtneifdbcjicfgaaDoor

/-
  The reference: hex, digit, encoded, isHidden.
-/
namespace Go.Proofs.YtneifdbcjicfgaaDoor
open Go Go.RowKit Go.Lib
open Tx

theorem dig_cut (m : Nat) (h : m < 16) : (⟨#[48, 49, 50, 51, 52, 53, 54, 55, 56, 57, 97, 98, 99, 100, 101, 102]⟩ : ByteArray).extract m (m + 1) = ⟨#[hexD m]⟩ := by
  have key : ∀ m, m < 16 → ((⟨#[48, 49, 50, 51, 52, 53, 54, 55, 56, 57, 97, 98, 99, 100, 101, 102]⟩ : ByteArray).extract m (m + 1)).data.toList = [hexD m] := by decide +kernel
  have := key m h
  apply ByteArray.ext
  apply Array.toList_inj.1
  exact this
theorem one_cons (b : UInt8) (D : List UInt8) : (⟨#[b]⟩ : ByteArray) ++ ⟨D.toArray⟩ = ⟨(b :: D).toArray⟩ := by
  apply ByteArray.ext
  rw [ByteArray.data_append]
  simp
theorem hexL_step (U : Nat) (hU : 0 < U) (D : List UInt8) : (if U / 16 = 0 then hexD (U % 16) :: D else hexL (U / 16) ++ (hexD (U % 16) :: D)) = hexL U ++ D := by
  by_cases h : U < 16
  · rw [if_pos (by omega), hexL_lo U h, Nat.mod_eq_of_lt h]
    rfl
  · rw [if_neg (by omega), hexL_hi U h, List.append_assoc]
    rfl
set_option maxRecDepth 100000 in
set_option maxHeartbeats 1000000 in
theorem hex_any (n : Nat) (w : World) (hn : n < 2147483648) :
    Calls Tryd.prog 93 #[.int .i64 (n : Int)] w fun e w' => e = .returned (.string ⟨(hexL n).toArray⟩) ∧ w' = w := by
  obtain ⟨Z, hZ⟩ : ∃ Z, hexL n = Z := ⟨_, rfl⟩
  rw [hZ]
  obtain ⟨m, hm⟩ : ∃ m : Nat, n % 16 = m := ⟨_, rfl⟩
  obtain ⟨q, hq⟩ : ∃ q : Nat, n / 16 = q := ⟨_, rfl⟩
  have r1 : (n : Int).tmod 16 = (m : Int) := by rw [Int.tmod_eq_emod_of_nonneg (by omega)]; omega
  have r2 : (n : Int).tdiv 16 = (q : Int) := by rw [Int.tdiv_eq_ediv_of_nonneg (by omega)]; omega
  have r3 : (n : Int) % 16 = (m : Int) := by omega
  have r4 : (n : Int) / 16 = (q : Int) := by omega
  have hm16 : m < 16 := by omega
  have hqb : q < 2147483648 := by omega
  have hd := dig_cut m hm16
  have H0 : Hid ((if q = 0 then [hexD m] else hexL q ++ [hexD m]) = Z) := by
    show _ = _
    rw [← hZ, ← hm, ← hq]
    by_cases h : n < 16
    · rw [if_pos (by omega), hexL_lo n h, Nat.mod_eq_of_lt h]
    · rw [if_neg (by omega), hexL_hi n h]
  have H1 : Hid ((⟨#[hexD m]⟩ : ByteArray) = ⟨[hexD m].toArray⟩) := rfl
  clear hZ hm hq
  go_enter Tryd.func93, Tryd.ntmps93
  go_wp2
  go_loopw [0, 3] (fun x y wr => ∃ (U : Nat) (D : List UInt8), x = .int .i64 (U : Int) ∧ y = .string ⟨D.toArray⟩ ∧ (if U = 0 then D else hexL U ++ D) = Z ∧ U < 16 ^ (8 - D.length) ∧ D.length ≤ 8 ∧ wr = w) (fun x _ _ => (intOf x).toNat)
  case atStart => exact ⟨q, [hexD m], rfl, rfl, H0.out, by show q < 16 ^ 7; omega, by simp, rfl⟩
  case round =>
    obtain ⟨U, D, rfl, rfl, hU, hb0, hDl, rfl⟩ := hrel
    have HB0 : Hid (U < 16 ^ (8 - D.length)) := hb0
    have hb : U < 4294967296 := Nat.lt_of_lt_of_le hb0 (Nat.le_trans (Nat.pow_le_pow_right (by decide) (Nat.sub_le 8 D.length)) (by decide))
    clear hb0
    have HU : Hid ((if U = 0 then D else hexL U ++ D) = Z) := hU
    clear hU H0 H1 hd r1 r2 r3 r4
    by_cases h0 : U = 0
    · subst h0
      have HD : Hid (D = Z) := by have := HU.out; rw [if_pos rfl] at this; exact this
      go_wp2
      go_ret
      exact ⟨by rw [← HD.out]; rfl, rfl⟩
    · obtain ⟨m, hm⟩ : ∃ m : Nat, U % 16 = m := ⟨_, rfl⟩
      obtain ⟨q, hq⟩ : ∃ q : Nat, U / 16 = q := ⟨_, rfl⟩
      have r1 : (U : Int).tmod 16 = (m : Int) := by rw [Int.tmod_eq_emod_of_nonneg (by omega)]; omega
      have r2 : (U : Int).tdiv 16 = (q : Int) := by rw [Int.tdiv_eq_ediv_of_nonneg (by omega)]; omega
      have r3 : (U : Int) % 16 = (m : Int) := by omega
      have r4 : (U : Int) / 16 = (q : Int) := by omega
      have hm16 : m < 16 := by omega
      have HQB : Hid (D.length < 8 ∧ q < 16 ^ (8 - (D.length + 1))) := by
        have h9 := HB0.out
        have hk : D.length < 8 := by
          rcases Nat.lt_or_ge D.length 8 with h | h
          · exact h
          · rw [show 8 - D.length = 0 by omega] at h9
            have : U < 1 := h9
            omega
        refine ⟨hk, ?_⟩
        rw [← hq]
        apply Nat.div_lt_of_lt_mul
        rw [Nat.mul_comm, ← Nat.pow_succ, show (8 - (D.length + 1)).succ = 8 - D.length by omega]
        exact h9
      have hqU : q < U := by omega
      have hd := dig_cut m hm16
      have HS : Hid ((if q = 0 then hexD m :: D else hexL q ++ (hexD m :: D)) = Z) := by
        show _ = _
        rw [← hm, ← hq, hexL_step U (by omega) D]
        have := HU.out
        rw [if_neg h0] at this
        exact this
      have HC : Hid ((⟨#[hexD m]⟩ : ByteArray) ++ ⟨D.toArray⟩ = ⟨(hexD m :: D).toArray⟩) := one_cons _ _
      clear hm hq HU
      generalize hexD m = c at *
      have hpos : 0 < U := by omega
      go_wp2
      go_roundw
      case rel => exact ⟨q, c :: D, rfl, by rw [← HC.out], HS.out, by rw [List.length_cons]; exact HQB.out.2, by rw [List.length_cons]; exact HQB.out.1, trivial⟩
      case measure => simp [intOf]; omega
theorem rdig_any (c : Nat) (w : World) (hc : c < 256) : Calls Tryd.prog 76 #[.int .u8 (c : Int)] w fun e w' => e = .returned (.int .i64 (hvi c)) ∧ w' = w := by
  by_cases h1 : 48 ≤ c ∧ c ≤ 57
  · have HE : Hid (hvi c = (c : Int) - 48) := by show _ = _; rw [hvi_some (show hv c = some (c - 48) by unfold hv; rw [if_pos h1])]; omega
    rw [HE.out]
    have a1 := h1.1
    have a2 := h1.2
    clear h1
    go_enter Tryd.func76, Tryd.ntmps76
    go_wp2
    go_ret
    exact ⟨rfl, rfl⟩
  · by_cases h2 : 97 ≤ c ∧ c ≤ 102
    · have HE : Hid (hvi c = (c : Int) - 97 + 10) := by show _ = _; rw [hvi_some (show hv c = some (c - 87) by unfold hv; rw [if_neg h1, if_pos h2])]; omega
      rw [HE.out]
      have a1 := h2.1
      have a2 := h2.2
      have a3 : ¬ (c : Int) ≤ 57 := by omega
      clear h1 h2
      go_enter Tryd.func76, Tryd.ntmps76
      go_wp2
      go_ret
      exact ⟨rfl, rfl⟩
    · have HE : Hid (hvi c = -1) := by show _ = _; rw [hvi_none (show hv c = none by unfold hv; rw [if_neg h1, if_neg h2])]
      rw [HE.out]
      by_cases c1 : c < 48
      · clear h1 h2
        go_enter Tryd.func76, Tryd.ntmps76
        go_wp2
        go_ret
        exact ⟨rfl, rfl⟩
      · by_cases c2 : c < 97
        · have c3 : 57 < c := by omega
          clear h1 h2
          go_enter Tryd.func76, Tryd.ntmps76
          go_wp2
          go_ret
          exact ⟨rfl, rfl⟩
        · have c3 : 102 < c := by omega
          clear h1 h2
          go_enter Tryd.func76, Tryd.ntmps76
          go_wp2
          go_ret
          exact ⟨rfl, rfl⟩
/-- a slice of these bytes -/
def SlB (w : World) (v : Value) (l : List UInt8) : Prop := ∃ g cap, v = .slice (some ⟨g, 0, none⟩) l.length cap ∧ ∀ j (h : j < l.length), w.cell? ⟨g, j, none⟩ = some (.int .u8 ((l[j]).toNat : Int))
theorem SlB.kept {w w' : World} {v : Value} {l : List UInt8} (h : SlB w v l) (hb : Below w.heap.size w w') : SlB w' v l := by
  obtain ⟨g, cap, rfl, hc⟩ := h
  exact ⟨g, cap, rfl, fun j hj => (hb.cell (p := ⟨g, j, none⟩) (World.block_lt_of_cell? _ _ (hc j hj))).trans (hc j hj)⟩
theorem slB_lit (w : World) (t : TypeId) (l : List UInt8) (cs : Array Value) (hcs : cs.toList = bc l) : SlB (w.alloc (.cells cs t)) (.slice (some ⟨w.heap.size, 0, none⟩) l.length l.length) l :=
  ⟨_, _, rfl, new_cells w l cs hcs t⟩
set_option maxRecDepth 100000 in
set_option maxHeartbeats 1000000 in
theorem encoded_any (r : Nat) (w : World) (hv : Utf8.valid (r : Int) = true) :
    Calls Tryd.prog 92 #[.int .i64 (r : Int)] w fun e w' => ∃ v, e = .returned v ∧ SlB w' v (Utf8.encode (r : Int)).data.toList ∧ Below w.heap.size w w' := by
  obtain ⟨hv1, hv2⟩ := valid_two r hv
  by_cases h1 : r < 128
  · rw [enc1 r h1]
    have HB : Hid (∀ cs : Array Value, cs.toList = [.int .u8 (r : Int)] → cs.toList = bc [UInt8.ofNat r]) := fun cs h => by rw [h, bc1 r (by omega)]
    clear hv hv2
    go_enter Tryd.func92, Tryd.ntmps92
    go_wp2
    go_ret
    exact ⟨_, rfl, slB_lit w _ [UInt8.ofNat r] _ (HB.out _ rfl), up0 _ _⟩
  · obtain ⟨x, hx⟩ : ∃ x : Int, (r : Int) = x := ⟨_, rfl⟩
    by_cases h2 : r ≤ 2047
    · rw [enc2 r (by omega) h2]
      have r1 : x.tdiv 64 = x / 64 := Int.tdiv_eq_ediv_of_nonneg (by omega)
      have r2 : x.tmod 64 = x % 64 := Int.tmod_eq_emod_of_nonneg (by omega)
      have HB : Hid (∀ cs : Array Value, cs.toList = [.int .u8 (192 + x / 64), .int .u8 (128 + x % 64)] → cs.toList = bc [UInt8.ofNat (192 + r / 64), UInt8.ofNat (128 + r % 64)]) := fun cs h => by
        rw [h, bc2 _ _ (by omega) (by omega), ← hx]
        simp
      have b1 : 128 ≤ x := by omega
      have b2 : x ≤ 2047 := by omega
      rw [hx]
      clear hv hv2 h1 h2 hv1 hx
      generalize UInt8.ofNat (192 + r / 64) = u1 at *
      generalize UInt8.ofNat (128 + r % 64) = u2 at *
      go_enter Tryd.func92, Tryd.ntmps92
      go_wp2
      go_ret
      exact ⟨_, rfl, slB_lit w _ [u1, u2] _ (HB.out _ (by simp)), up0 _ _⟩
    · have r1 : x.tdiv 64 = x / 64 := Int.tdiv_eq_ediv_of_nonneg (by omega)
      have r2 : x.tmod 64 = x % 64 := Int.tmod_eq_emod_of_nonneg (by omega)
      have r3 : (x / 64).tmod 64 = x / 64 % 64 := Int.tmod_eq_emod_of_nonneg (by omega)
      have r4 : x.tdiv 4096 = x / 4096 := Int.tdiv_eq_ediv_of_nonneg (by omega)
      by_cases h3 : r ≤ 65535
      · rw [enc3 r (by omega) h3 hv]
        have HB : Hid (∀ cs : Array Value, cs.toList = [.int .u8 (224 + x / 4096), .int .u8 (128 + x / 64 % 64), .int .u8 (128 + x % 64)] → cs.toList = bc [UInt8.ofNat (224 + r / 4096), UInt8.ofNat (128 + r / 64 % 64), UInt8.ofNat (128 + r % 64)]) := fun cs h => by
          rw [h, bc3 _ _ _ (by omega) (by omega) (by omega), ← hx]
          simp
        have b1 : 2048 ≤ x := by omega
        have b2 : x ≤ 65535 := by omega
        rw [hx]
        clear hv hv2 h1 h2 h3 hv1 hx
        generalize UInt8.ofNat (224 + r / 4096) = u1 at *
        generalize UInt8.ofNat (128 + r / 64 % 64) = u2 at *
        generalize UInt8.ofNat (128 + r % 64) = u3 at *
        go_enter Tryd.func92, Tryd.ntmps92
        go_wp2
        go_ret
        exact ⟨_, rfl, slB_lit w _ [u1, u2, u3] _ (HB.out _ (by simp)), up0 _ _⟩
      · rw [enc4 r (by omega) hv]
        have r5 : x.tdiv 262144 = x / 262144 := Int.tdiv_eq_ediv_of_nonneg (by omega)
        have r6 : (x / 4096).tmod 64 = x / 4096 % 64 := Int.tmod_eq_emod_of_nonneg (by omega)
        have HB : Hid (∀ cs : Array Value, cs.toList = [.int .u8 (240 + x / 262144), .int .u8 (128 + x / 4096 % 64), .int .u8 (128 + x / 64 % 64), .int .u8 (128 + x % 64)] → cs.toList = bc [UInt8.ofNat (240 + r / 262144), UInt8.ofNat (128 + r / 4096 % 64), UInt8.ofNat (128 + r / 64 % 64), UInt8.ofNat (128 + r % 64)]) := fun cs h => by
          rw [h, bc4 _ _ _ _ (by omega) (by omega) (by omega) (by omega), ← hx]
          simp
        have b1 : 65536 ≤ x := by omega
        have b2 : x ≤ 1114111 := by omega
        rw [hx]
        clear hv hv2 h1 h2 h3 hv1 hx
        generalize UInt8.ofNat (240 + r / 262144) = u1 at *
        generalize UInt8.ofNat (128 + r / 4096 % 64) = u2 at *
        generalize UInt8.ofNat (128 + r / 64 % 64) = u3 at *
        generalize UInt8.ofNat (128 + r % 64) = u4 at *
        go_enter Tryd.func92, Tryd.ntmps92
        go_wp2
        go_ret
        exact ⟨_, rfl, slB_lit w _ [u1, u2, u3, u4] _ (HB.out _ (by simp)), up0 _ _⟩
set_option maxRecDepth 100000 in
theorem rhid_any (r : Int) (w : World) (hT : TabP 3 .i64 hids w) :
    Calls Tryd.prog 65 #[.int .i64 r] w fun e w' => e = .returned (.bool (among hids r)) ∧ ∃ n, w' = w.drewN n := by
  have HC : Hid (∀ (k : Nat) (hk : k < hids.length), w.cell? ⟨3, 2 * k, none⟩ = some (.int .i64 hids[k].1) ∧ w.cell? ⟨3, 2 * k + 1, none⟩ = some (.int .i64 hids[k].2)) := by
    intro k hk
    have hg := flat_get hids k hk
    obtain ⟨a1, e1⟩ := List.getElem?_eq_some_iff.1 hg.1
    obtain ⟨a2, e2⟩ := List.getElem?_eq_some_iff.1 hg.2
    have h1 := hT (2 * k) a1
    have h2 := hT (2 * k + 1) a2
    rw [e1] at h1
    rw [e2] at h2
    exact ⟨h1, h2⟩
  have HL : Hid (hids.length = 8) := rfl
  clear hT
  go_enter Tryd.func65, Tryd.ntmps65
  go_wp2
  have H0 : Hid (among (hids.take 0) r = false) := rfl
  go_loopw [3] (fun i wr => ∃ k : Nat, k ≤ 8 ∧ i = .int .i64 (k : Int) ∧ among (hids.take k) r = false ∧ ∃ n, wr = w.drewN n) (fun i _ => 8 - (intOf i).toNat)
  case atStart => exact ⟨0, by omega, rfl, H0.out, 0, rfl⟩
  case round =>
    obtain ⟨k, hk, rfl, ha, n, hw⟩ := hrel
    have HW : Hid (wr = w.drewN n) := hw
    clear hw
    have HA : Hid (among (hids.take k) r = false) := ha
    clear ha
    by_cases hlt : k < 8
    · have hkl : k < hids.length := by rw [HL.out]; exact hlt
      have hc := HC.out k hkl
      have HS : Hid (among (hids.take (k + 1)) r = (among (hids.take k) r || (decide (hids[k].1 ≤ r) && decide (r ≤ hids[k].2)))) := among_take hids r k hkl
      have HY : Hid (hids[k].1 ≤ r → r ≤ hids[k].2 → among hids r = true) := among_yes hids r k hkl
      generalize hids[k].1 = lo at *
      generalize hids[k].2 = hi at *
      obtain ⟨c1, c2⟩ := hc
      have c3 : wr.cell? ⟨3, k * 2, none⟩ = some (.int .i64 lo) := by rw [Nat.mul_comm, HW.out]; exact c1
      have c4 : wr.cell? ⟨3, k * 2 + 1, none⟩ = some (.int .i64 hi) := by rw [Nat.mul_comm, HW.out]; exact c2
      clear HC hkl c1 c2
      go_wp2
      go_quiet (first | (go_at_call 59; refine Calls.quiet_of (within_any _ _ _ _)))
      by_cases hh : lo ≤ r ∧ r ≤ hi
      · have HT : Hid ((decide (lo ≤ r) && decide (r ≤ hi)) = true) := by show _ = _; simp [hh]
        have HY2 : Hid (among hids r = true) := HY.out hh.1 hh.2
        rw [HT.out]
        clear HY HS
        go_wp2
        go_ret
        rw [HY2.out, HW.out]
        exact ⟨rfl, _, World.drewN_drewN _ _ _⟩
      · have HT : Hid ((decide (lo ≤ r) && decide (r ≤ hi)) = false) := by show _ = _; simp; omega
        have HS2 : Hid (among (hids.take (k + 1)) r = false) := by show _ = _; rw [HS.out, HA.out, HT.out]; rfl
        rw [HT.out]
        clear HY HS
        go_wp2
        go_roundw
        case rel => exact ⟨k + 1, by omega, by go_num, HS2.out, _, by rw [HW.out]; exact World.drewN_drewN _ _ _⟩
        case measure => simp [intOf]; omega
    · obtain rfl : k = 8 := by omega
      have HF : Hid (among hids r = false) := HA.out
      go_wp2
      go_ret
      rw [HF.out]
      exact ⟨rfl, n, HW.out⟩
end Go.Proofs.YtneifdbcjicfgaaDoor
