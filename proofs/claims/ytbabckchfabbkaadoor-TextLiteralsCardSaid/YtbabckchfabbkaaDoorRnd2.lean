/-
  What is quoted is read again: the escapes.
-/
import Derived.Test.YtbabckchfabbkaaDoorRnd1
namespace Go.Proofs.YtbabckchfabbkaaDoor
open Go Go.RowKit Go.Lib
open Tx

namespace Tx
theorem has_extract {z : ByteArray} {q : Nat} {l : List UInt8} (h : Has z q l) (hq : q + l.length ≤ z.size) : z.extract q (q + l.length) = ⟨l.toArray⟩ := by
  have hs := size_cut z q (q + l.length) hq
  apply ByteArray.ext
  apply Array.ext
  · show (z.extract q (q + l.length)).size = l.toArray.size
    rw [hs]
    simp
  · intro i h1 h2
    have h1' : i < (z.extract q (q + l.length)).size := h1
    have hi : i < l.length := by rw [hs] at h1'; omega
    have e1 := at_cut z q (q + l.length) i hq (by omega)
    rw [(h i hi).2] at e1
    have q1 : (z.extract q (q + l.length)).get! i = (z.extract q (q + l.length)).data[i] := getElem!_pos (z.extract q (q + l.length)).data i h1
    rw [← q1]
    have e2 : (z.extract q (q + l.length)).get! i = l[i] := u8_eq e1
    rw [e2]
    simp
theorem pre_yes {s : ByteArray} {l : List UInt8} (h : Has s 0 l) (hl : l.length ≤ s.size) : pre s ⟨l.toArray⟩ = true := by
  have e := has_extract h (by omega)
  rw [Nat.zero_add] at e
  have hz : (⟨l.toArray⟩ : ByteArray).size = l.length := by show l.toArray.size = _; simp
  unfold pre
  rw [hz, e, decide_eq_true hl]
  simp
theorem pre_at {s p : ByteArray} (h : pre s p = true) (i : Nat) (hi : i < p.size) : at' s i = at' p i := by
  unfold pre at h
  rw [Bool.and_eq_true, decide_eq_true_eq, beq_iff_eq] at h
  have e := toList_inj h.2
  have := at_cut s 0 p.size i h.1 (by omega)
  rw [e, Nat.zero_add] at this
  exact this.symm
theorem pno {s : ByteArray} {c : Nat} (h1 : at' s 1 = c) (b : UInt8) (hne : c ≠ b.toNat) : ¬ pre s ⟨#[92, b]⟩ = true := fun h => by
  have := pre_at h 1 (by show (1 : Nat) < 2; decide)
  exact hne (h1.symm.trans this)
theorem pnoU {s : ByteArray} {c : Nat} (h1 : at' s 1 = c) (hne : c ≠ 117) : ¬ pre s ⟨#[92, 117, 123]⟩ = true := fun h => by
  have := pre_at h 1 (by show (1 : Nat) < 3; decide)
  exact hne (h1.symm.trans this)
theorem hexD_all : ∀ n, n < 16 → hv (hexD n).toNat = some n ∧ (hexD n).toNat < 128 ∧ (hexD n).toNat ≠ 125 := by decide +kernel
theorem has_size {z : ByteArray} {q : Nat} {l : List UInt8} (h : Has z q l) (h0 : 0 < l.length) : q + l.length ≤ z.size := by
  have := (h (l.length - 1) (by omega)).1
  omega
theorem esc_x {s : ByteArray} {a b : Nat} (ha : a < 16) (hb : b < 16) (h : Has s 0 [92, 120, hexD a, hexD b]) : esc s = (⟨#[UInt8.ofNat (16 * a + b)]⟩, 4) := by
  have hsz := has_size h (by simp)
  have hsz4 : 4 ≤ s.size := by simpa using hsz
  have h2 : at' s 2 = (hexD a).toNat := (h 2 (by simp)).2
  have h3 : at' s 3 = (hexD b).toNat := (h 3 (by simp)).2
  have hp : pre s ⟨#[92, 120]⟩ = true := pre_yes (l := [92, 120]) (Has.left (b := [hexD a, hexD b]) h) (by simp; omega)
  unfold esc
  rw [if_pos hp]
  unfold eb
  rw [if_neg (by omega), h2, h3, (hexD_all a ha).1, (hexD_all b hb).1]
theorem esc_q {s : ByteArray} (h : Has s 0 [92, 34]) : esc s = (⟨#[34]⟩, 2) := by
  have h1 : at' s 1 = 34 := (h 1 (by simp)).2
  have hsz := has_size h (by simp)
  unfold esc
  rw [if_neg (pno h1 120 (by decide)), if_neg (pnoU h1 (by decide)), if_pos (pre_yes h (by simpa using hsz))]
theorem esc_b {s : ByteArray} (h : Has s 0 [92, 92]) : esc s = (⟨#[92]⟩, 2) := by
  have h1 : at' s 1 = 92 := (h 1 (by simp)).2
  have hsz := has_size h (by simp)
  unfold esc
  rw [if_neg (pno h1 120 (by decide)), if_neg (pnoU h1 (by decide)), if_neg (pno h1 34 (by decide)), if_pos (pre_yes h (by simpa using hsz))]
theorem esc_n {s : ByteArray} (h : Has s 0 [92, 110]) : esc s = (⟨#[10]⟩, 2) := by
  have h1 : at' s 1 = 110 := (h 1 (by simp)).2
  have hsz := has_size h (by simp)
  unfold esc
  rw [if_neg (pno h1 120 (by decide)), if_neg (pnoU h1 (by decide)), if_neg (pno h1 34 (by decide)), if_neg (pno h1 92 (by decide)), if_pos (pre_yes h (by simpa using hsz))]
theorem esc_t {s : ByteArray} (h : Has s 0 [92, 116]) : esc s = (⟨#[9]⟩, 2) := by
  have h1 : at' s 1 = 116 := (h 1 (by simp)).2
  have hsz := has_size h (by simp)
  unfold esc
  rw [if_neg (pno h1 120 (by decide)), if_neg (pnoU h1 (by decide)), if_neg (pno h1 34 (by decide)), if_neg (pno h1 92 (by decide)), if_neg (pno h1 110 (by decide)), if_pos (pre_yes h (by simpa using hsz))]
theorem esc_r {s : ByteArray} (h : Has s 0 [92, 114]) : esc s = (⟨#[13]⟩, 2) := by
  have h1 : at' s 1 = 114 := (h 1 (by simp)).2
  have hsz := has_size h (by simp)
  unfold esc
  rw [if_neg (pno h1 120 (by decide)), if_neg (pnoU h1 (by decide)), if_neg (pno h1 34 (by decide)), if_neg (pno h1 92 (by decide)), if_neg (pno h1 110 (by decide)), if_neg (pno h1 116 (by decide)), if_pos (pre_yes h (by simpa using hsz))]
/-- one digit more -/
theorem erL_dig (t : ByteArray) (p v d : Nat) (hd : d < 16) (hp : p < 6) (h : Has t p [hexD d]) : erL t p v = erL t (p + 1) (v * 16 + d) := by
  have h0 := h.at0
  have hx := hexD_all d hd
  have e : Utf8.decode t p = ((hexD d).toNat, 1) := by rw [dec_ascii t p (by omega), h0.2]
  refine (erL_on t p v d h0.1 (by omega) ?_ ?_).symm
  · rw [e]
    exact fun hh => hx.2.2 hh.1
  · rw [e]
    exact hx.1
theorem erL_hex (t : ByteArray) (u p : Nat) (h : Has t p (hexL u)) (hl : p + (hexL u).length ≤ 6) : erL t p 0 = erL t (p + (hexL u).length) u := by
  by_cases hu : u < 16
  · rw [hexL_lo u hu] at *
    have := erL_dig t p 0 u hu (by simp at hl; omega) h
    rw [Nat.zero_mul, Nat.zero_add] at this
    exact this
  · rw [hexL_hi u hu] at *
    rw [List.length_append] at *
    have ih := erL_hex t (u / 16) p h.left (by simp at hl; omega)
    rw [ih, erL_dig t (p + (hexL (u / 16)).length) (u / 16) (u % 16) (by omega) (by simp at hl; omega) h.right]
    rw [show u / 16 * 16 + u % 16 = u by omega]
    rfl
termination_by u
decreasing_by omega
theorem esc_u {s : ByteArray} {r : Nat} (hv : Utf8.valid (r : Int) = true) (h : Has s 0 ([92, 117, 123] ++ (hexL r ++ [125]))) : esc s = (Utf8.encode (r : Int), (hexL r).length + 4) := by
  have h1 : at' s 1 = 117 := (h.left 1 (by simp)).2
  have hsz := has_size h.left (by simp)
  have hsz3 : 3 ≤ s.size := by simpa using hsz
  have hl6 : (hexL r).length ≤ 6 := hexL_len 5 r (by have := (valid_two r hv).1; omega)
  have hl0 : 0 < (hexL r).length := by
    by_cases hu : r < 16
    · rw [hexL_lo r hu]; simp
    · rw [hexL_hi r hu]; simp
  have hr : Has (s.extract 3 s.size) 0 (hexL r ++ [125]) := Has.cut 3 (by simp) h.right
  have h9 := hr.right.at0
  rw [Nat.zero_add] at h9
  unfold esc
  rw [if_neg (pno h1 120 (by decide)), if_pos (pre_yes (l := [92, 117, 123]) h.left (by simpa using hsz))]
  rw [erL_hex _ r 0 hr.left (by omega), Nat.zero_add, erL_end _ _ r h9.1 ⟨by rw [dec_ascii _ _ (by rw [h9.2]; decide), h9.2]; rfl, hl0, hv⟩]
end Tx
end Go.Proofs.YtbabckchfabbkaaDoor
