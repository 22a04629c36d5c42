import Derived.OpenShut
import Derived.Test.YtfkpdmmgjgchjabDoorQW1
/-
  The document's answer: annalsref1's Uint, Part, Join, Bytes, Sum.
-/
namespace Go.Proofs.YtfkpdmmgjgchjabDoor
open Go Go.RowKit
open Wb

theorem rseg_snoc (l : List Nat) (lo k : Nat) (h1 : lo ≤ k) (h2 : k < l.length) : (l.take (k + 1)).drop lo = (l.take k).drop lo ++ [l[k]] := by
  rw [List.take_succ_eq_append_getElem h2, List.drop_append_of_le_length (by simp; omega)]

theorem rstep_num (r : Nat) (hr : r < 4294967296) : bits .xor .u32 ((r : Int) / 2) 3988292384 = ((r / 2 ^^^ 3988292384 : Nat) : Int) := by
  rw [show ((r : Int) / 2) = ((r / 2 : Nat) : Int) by omega]
  exact u32_xor_nat (r / 2) 3988292384 (by omega) (by decide)
def stp : Nat → Nat → Nat
  | 0, r => r
  | k + 1, r => Wm.step (stp k r)
theorem stp8 (r c : Nat) : stp 8 (r ^^^ c) = Wm.feed r c := rfl
theorem stp_lt : ∀ k r, r < 4294967296 → stp k r < 4294967296
  | 0, _, h => h
  | k + 1, r, h => Wm.step_lt _ (stp_lt k r h)

end Go.Proofs.YtfkpdmmgjgchjabDoor

/-
  The document's answer: annalsref1's Bytes, Int; the law package's 'started'.
-/
namespace Go.Proofs.YtfkpdmmgjgchjabDoor
open Go Go.RowKit
open Wb

end Go.Proofs.YtfkpdmmgjgchjabDoor

/-
  The document's way of reading a number (from its last byte backwards), against the reading from its first on.
-/
namespace Go.Proofs.YtfkpdmmgjgchjabDoor
namespace Wn

/-- the number that these bytes hold, lowest first -/
def val : List Nat → Nat
  | [] => 0
  | c :: r => c % 128 + 128 * val r
theorem val_snoc (l : List Nat) (c : Nat) : val (l ++ [c]) = val l + c % 128 * 2 ^ (7 * l.length) := by
  induction l with
  | nil => simp [val]
  | cons a r ih =>
    show a % 128 + 128 * val (r ++ [c]) = a % 128 + 128 * val r + c % 128 * 2 ^ (7 * (r.length + 1))
    rw [ih, pow_step, Nat.mul_add]
    have : c % 128 * (128 * 2 ^ (7 * r.length)) = 128 * (c % 128 * 2 ^ (7 * r.length)) := Nat.mul_left_comm _ _ _
    omega

theorem rd_pre : ∀ (n : Nat) (d : List Nat) (i acc : Nat), n ≤ d.length → i + n ≤ 9 → (∀ j (_ : j < n) (h2 : j < d.length), 128 ≤ d[j]) → rd d i acc = rd (d.drop n) (i + n) (acc + val (d.take n) * 2 ^ (7 * i))
  | 0, d, i, acc, _, _, _ => by simp [val]
  | n + 1, [], i, acc, h, _, _ => by simp at h
  | n + 1, c :: r, i, acc, h, hi, hb => by
    have hc : 128 ≤ c := hb 0 (by omega) (by simp)
    have hne : ¬ (i = 9 ∧ 1 < c) := by omega
    rw [rd, if_neg hne, if_pos hc, rd_pre n r (i + 1) _ (by simpa using h) (by omega) (fun j hj h2 => by
      have := hb (j + 1) (by omega) (by simpa using h2)
      simpa using this)]
    rw [List.drop_succ_cons, List.take_succ_cons, val, pow_step, show i + 1 + n = i + (n + 1) by omega, Nat.add_mul, Nat.add_assoc]
    have : val (r.take n) * (128 * 2 ^ (7 * i)) = 128 * val (r.take n) * 2 ^ (7 * i) := by rw [Nat.mul_left_comm, Nat.mul_assoc]
    rw [this]

/-- how the reading ends, behind n bytes that go on -/
theorem rd_short (d : List Nat) (n : Nat) (hn : n = d.length) (h9 : n ≤ 9) (hb : ∀ j (_ : j < n) (h2 : j < d.length), 128 ≤ d[j]) : rd d 0 0 = (0, 0, 10) := by
  rw [rd_pre n d 0 0 (by omega) (by omega) hb, hn, List.drop_length]
  rfl
theorem rd_lastb (d : List Nat) (n : Nat) (hn : n < d.length) (h9 : n ≤ 9) (hb : ∀ j (_ : j < n) (h2 : j < d.length), 128 ≤ d[j]) (hl : n = 9 ∨ d[n] < 128) :
    rd d 0 0 = if n = 9 ∧ 1 < d[n] then (0, 0, 12) else if d[n] = 0 ∧ 0 < n then (0, 0, 11) else (val (d.take (n + 1)), n + 1, 0) := by
  rw [rd_pre n d 0 0 (by omega) (by omega) hb, List.drop_eq_getElem_cons hn, rd, Nat.zero_add, Nat.zero_add, Nat.mul_zero, Nat.pow_zero, Nat.mul_one]
  by_cases h1 : n = 9 ∧ 1 < d[n]
  · rw [if_pos h1, if_pos h1]
  · have h2 : ¬ 128 ≤ d[n] := by omega
    rw [if_neg h1, if_neg h1, if_neg h2]
    by_cases h3 : d[n] = 0 ∧ 0 < n
    · rw [if_pos h3, if_pos h3]
    · rw [if_neg h3, if_neg h3, List.take_succ_eq_append_getElem hn, val_snoc, List.length_take, Nat.min_eq_left (by omega)]
end Wn
end Go.Proofs.YtfkpdmmgjgchjabDoor

/-
  The document's answer: annalsref1's ReadUint.
-/
namespace Go.Proofs.YtfkpdmmgjgchjabDoor
open Go Go.RowKit
open Wb

theorem getElem_drop' (l : List Nat) (q j : Nat) (h : j < (l.drop q).length) : (l.drop q)[j] = l[q + j]'(by rw [List.length_drop] at h; omega) := by simp
theorem val_lt : ∀ (l : List Nat) , Wn.val l < 2 ^ (7 * l.length)
  | [] => by simp [Wn.val]
  | c :: r => by
    have := val_lt r
    have h2 : c % 128 < 128 := Nat.mod_lt _ (by decide)
    show c % 128 + 128 * Wn.val r < 2 ^ (7 * (r.length + 1))
    rw [Wn.pow_step]
    omega
theorem val_drop_le : ∀ (l : List Nat) (m : Nat), Wn.val (l.drop m) ≤ Wn.val l
  | l, 0 => by simp
  | [], m + 1 => by simp
  | c :: r, m + 1 => by
    have := val_drop_le r m
    show Wn.val (r.drop m) ≤ c % 128 + 128 * Wn.val r
    omega
theorem val_step (l : List Nat) (m : Nat) (h : m < l.length) : Wn.val (l.drop m) = Wn.val (l.drop (m + 1)) * 128 + l[m] % 128 := by
  rw [List.drop_eq_getElem_cons h]
  show l[m] % 128 + 128 * Wn.val (l.drop (m + 1)) = _
  omega
theorem val_fits (l : List Nat) (n : Nat) (hn : n < l.length) (h9 : n ≤ 9) (hl : n = 9 → l[n] ≤ 1) : Wn.val (l.take (n + 1)) < 18446744073709551616 := by
  by_cases h : n = 9
  · rw [List.take_succ_eq_append_getElem hn, Wn.val_snoc]
    have h1 := val_lt (l.take n)
    have hlen : (l.take n).length = n := by rw [List.length_take]; omega
    rw [hlen] at h1 ⊢
    have h2 := hl h
    subst h
    have h3 : l[9] % 128 ≤ 1 := Nat.le_trans (Nat.mod_le _ _) h2
    have h4 : l[9] % 128 * 2 ^ (7 * 9) ≤ 1 * 2 ^ (7 * 9) := Nat.mul_le_mul_right _ h3
    have e : (2 : Nat) ^ (7 * 9) = 9223372036854775808 := by decide
    omega
  · have h1 := val_lt (l.take (n + 1))
    have hlen : (l.take (n + 1)).length = n + 1 := by rw [List.length_take]; omega
    rw [hlen] at h1
    have h2 : (2 : Nat) ^ (7 * (n + 1)) ≤ 2 ^ 63 := Nat.pow_le_pow_right (by decide) (by omega)
    have e : (2 : Nat) ^ 63 = 9223372036854775808 := by decide
    omega
theorem ru_at (l : List Nat) (q : Nat) (hq : q ≤ l.length) : Wn.ru l (q : Int) = ((Wn.rd (l.drop q) 0 0).1, (if (Wn.rd (l.drop q) 0 0).2.2 = 0 then (q : Int) + ((Wn.rd (l.drop q) 0 0).2.1 : Int) else 0), (Wn.rd (l.drop q) 0 0).2.2) := by
  unfold Wn.ru
  rw [if_neg (by omega), Int.toNat_natCast]

end Go.Proofs.YtfkpdmmgjgchjabDoor

/-
  The reference's ReadInt; the law package's 'numbers' at each kind.
-/
namespace Go.Proofs.YtfkpdmmgjgchjabDoor
open Go Go.RowKit Go.ChangeShapes Go.WideShapes
open Wb

theorem uz_ref (x : Nat) : uz x = if x % 2 = 1 then -((x / 2 : Nat) : Int) - 1 else ((x / 2 : Nat) : Int) := by
  unfold uz
  by_cases h : x % 2 = 1
  · rw [if_pos h, if_neg (by omega)]
  · rw [if_neg h, if_pos (by omega)]
theorem ru_small (l : List Nat) (p : Int) : (Wn.ru l p).2.2 ≤ 12 := by
  rcases Wn.ru_cases l p with ⟨e, _, he, hr⟩ | ⟨q, x, n, rfl, hq, hn, hrd, hr⟩
  · rw [hr]; exact he
  · rw [hr]; simp
theorem ri_small (l : List Nat) (p : Int) : (ri l p).2.2 ≤ 12 := by
  have := ru_small l p
  unfold ri
  split
  · exact this
  · simp
end Go.Proofs.YtfkpdmmgjgchjabDoor

/-
  The reference's ReadBytes; the law package's 'stretches' at Bytes and ReadBytes.
-/
namespace Go.Proofs.YtfkpdmmgjgchjabDoor
open Go Go.RowKit Go.ChangeShapes Go.WideShapes
open Wb

theorem rb_small (l : List Nat) (p m : Int) : (rb l p m).2.2 ≤ 13 := by
  have := ru_small l p
  unfold rb
  repeat' split
  all_goals simp
  omega
end Go.Proofs.YtfkpdmmgjgchjabDoor
