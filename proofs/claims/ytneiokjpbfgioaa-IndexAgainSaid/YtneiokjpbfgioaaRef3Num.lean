/-
  The document's way of reading a number (from its last byte backwards), against the reading from its first on.
-/
import Derived.Test.YtneiokjpbfgioaaNum
namespace Go.Proofs.Ytneiokjpbfgioaa
namespace Wn

/-- the number that these bytes hold, lowest first -/
def val : List Nat → Nat
  | [] => 0
  | c :: r => c % 128 + 128 * val r
theorem val_snoc (l : List Nat) (c : Nat) : val (l ++ [c]) = val l + c % 128 * 2 ^ (7 * l.length) := by
  induction l with
  | nil => simp [val]
  | cons a r ih =>
    show a % 128 + 128 * val (r ++ [c]) = a % 128 + 128 * val r + c % 128 * 2 ^ (7 * (r.length + 1))
    rw [ih, pow_step, Nat.mul_add]
    have : c % 128 * (128 * 2 ^ (7 * r.length)) = 128 * (c % 128 * 2 ^ (7 * r.length)) := Nat.mul_left_comm _ _ _
    omega

theorem rd_pre : ∀ (n : Nat) (d : List Nat) (i acc : Nat), n ≤ d.length → i + n ≤ 9 → (∀ j (_ : j < n) (h2 : j < d.length), 128 ≤ d[j]) → rd d i acc = rd (d.drop n) (i + n) (acc + val (d.take n) * 2 ^ (7 * i))
  | 0, d, i, acc, _, _, _ => by simp [val]
  | n + 1, [], i, acc, h, _, _ => by simp at h
  | n + 1, c :: r, i, acc, h, hi, hb => by
    have hc : 128 ≤ c := hb 0 (by omega) (by simp)
    have hne : ¬ (i = 9 ∧ 1 < c) := by omega
    rw [rd, if_neg hne, if_pos hc, rd_pre n r (i + 1) _ (by simpa using h) (by omega) (fun j hj h2 => by
      have := hb (j + 1) (by omega) (by simpa using h2)
      simpa using this)]
    rw [List.drop_succ_cons, List.take_succ_cons, val, pow_step, show i + 1 + n = i + (n + 1) by omega, Nat.add_mul, Nat.add_assoc]
    have : val (r.take n) * (128 * 2 ^ (7 * i)) = 128 * val (r.take n) * 2 ^ (7 * i) := by rw [Nat.mul_left_comm, Nat.mul_assoc]
    rw [this]

/-- how the reading ends, behind n bytes that go on -/
theorem rd_short (d : List Nat) (n : Nat) (hn : n = d.length) (h9 : n ≤ 9) (hb : ∀ j (_ : j < n) (h2 : j < d.length), 128 ≤ d[j]) : rd d 0 0 = (0, 0, 10) := by
  rw [rd_pre n d 0 0 (by omega) (by omega) hb, hn, List.drop_length]
  rfl
theorem rd_lastb (d : List Nat) (n : Nat) (hn : n < d.length) (h9 : n ≤ 9) (hb : ∀ j (_ : j < n) (h2 : j < d.length), 128 ≤ d[j]) (hl : n = 9 ∨ d[n] < 128) :
    rd d 0 0 = if n = 9 ∧ 1 < d[n] then (0, 0, 12) else if d[n] = 0 ∧ 0 < n then (0, 0, 11) else (val (d.take (n + 1)), n + 1, 0) := by
  rw [rd_pre n d 0 0 (by omega) (by omega) hb, List.drop_eq_getElem_cons hn, rd, Nat.zero_add, Nat.zero_add, Nat.mul_zero, Nat.pow_zero, Nat.mul_one]
  by_cases h1 : n = 9 ∧ 1 < d[n]
  · rw [if_pos h1, if_pos h1]
  · have h2 : ¬ 128 ≤ d[n] := by omega
    rw [if_neg h1, if_neg h1, if_neg h2]
    by_cases h3 : d[n] = 0 ∧ 0 < n
    · rw [if_pos h3, if_pos h3]
    · rw [if_neg h3, if_neg h3, List.take_succ_eq_append_getElem hn, val_snoc, List.length_take, Nat.min_eq_left (by omega)]
end Wn
end Go.Proofs.Ytneiokjpbfgioaa
