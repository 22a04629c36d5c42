/-
  PLAIN MATHEMATICS OF THE NUMBERS, back: what is read is what is written.
-/
import Derived.Test.YtceokpklcfmadaaNum
import Derived.Test.YtceokpklcfmadaaBase
import Derived.Lib.Zigzag
import Derived.Laws.BitsAllLaws
namespace Go.Proofs.Ytceokpklcfmadaa
open Go Go.RowKit
open Wb

theorem rd_back : ∀ (l : List Nat) (i acc v n : Nat), ok l → i ≤ 9 → Wn.rd l i acc = (v, n, 0) →
    ∃ u, v = acc + u * 2 ^ (7 * i) ∧ n = i + (Wn.uint u).length ∧ l.take (Wn.uint u).length = Wn.uint u ∧ u * 2 ^ (7 * i) < 18446744073709551616 ∧ (0 < i → 0 < u) := by
  intro l
  induction l with
  | nil => intro i acc v n _ _ h; simp [Wn.rd] at h
  | cons c r ih =>
    intro i acc v n hok hi h
    have hc256 : c < 256 := hok c (by simp)
    by_cases h9 : i = 9 ∧ 1 < c
    · rw [Wn.rd_wide _ _ _ _ h9] at h; simp at h
    · by_cases hc : 128 ≤ c
      · rw [Wn.rd_more _ _ _ _ h9 hc] at h
        have hi8 : i + 1 ≤ 9 := by omega
        obtain ⟨u, hv, hn, ht, hb, hp⟩ := ih (i + 1) _ v n (fun x hx => hok x (by simp [hx])) hi8 h
        have hu := hp (by omega)
        have e1 : (c % 128 + 128 * u) / 128 = u := by omega
        have e2 : (c % 128 + 128 * u) % 128 = c % 128 := by omega
        have hbig := Wn.uint_big (c % 128 + 128 * u) (by omega)
        rw [e1, e2, show 128 + c % 128 = c by omega] at hbig
        have hsplit : (c % 128 + 128 * u) * 2 ^ (7 * i) = c % 128 * 2 ^ (7 * i) + u * (128 * 2 ^ (7 * i)) := by
          rw [Nat.add_mul, Nat.mul_comm 128 u, Nat.mul_assoc]
        refine ⟨c % 128 + 128 * u, ?_, ?_, ?_, ?_, fun _ => by omega⟩
        · rw [hv, Wn.pow_step, hsplit, Nat.add_assoc]
        · rw [hn, hbig, List.length_cons]; omega
        · rw [hbig, List.length_cons, List.take_succ_cons, ht]
        · rw [hsplit]
          rw [Wn.pow_step] at hb
          have hq : 18446744073709551616 = 2 ^ (64 - 7 * (i + 1)) * (128 * 2 ^ (7 * i)) := by
            rw [← Wn.pow_step, ← Nat.pow_add, show 64 - 7 * (i + 1) + 7 * (i + 1) = 64 by omega]
          rw [hq] at hb ⊢
          have hlt := Nat.lt_of_mul_lt_mul_right hb
          have hle : (u + 1) * (128 * 2 ^ (7 * i)) ≤ 2 ^ (64 - 7 * (i + 1)) * (128 * 2 ^ (7 * i)) := Nat.mul_le_mul_right _ hlt
          rw [Nat.add_mul, Nat.one_mul] at hle
          have h3 : c % 128 * 2 ^ (7 * i) < 128 * 2 ^ (7 * i) := Nat.mul_lt_mul_of_pos_right (by omega) (Nat.two_pow_pos _)
          omega
      · by_cases h0 : c = 0 ∧ 0 < i
        · rw [Wn.rd_min _ _ _ _ h0.1 h0.2] at h; simp at h
        · rw [Wn.rd_last _ _ _ _ h9 (by omega) h0, Nat.mod_eq_of_lt (by omega)] at h
          simp only [Prod.mk.injEq, and_true] at h
          have hs := Wn.uint_small c (by omega)
          refine ⟨c, h.1.symm, by rw [hs]; exact h.2.symm, by rw [hs]; simp, ?_, fun h1 => ?_⟩
          · by_cases hi9 : i = 9
            · subst hi9
              have : c ≤ 1 := by omega
              exact Nat.lt_of_le_of_lt (Nat.mul_le_mul_right (2 ^ (7 * 9)) this) (by decide)
            · have h1 : 2 ^ (7 * i) ≤ 2 ^ (7 * 8) := Nat.pow_le_pow_right (by decide) (by omega)
              exact Nat.lt_of_le_of_lt (Nat.mul_le_mul (show c ≤ 127 by omega) h1) (by decide)
          · rcases Nat.eq_zero_or_pos c with h2 | h2
            · exact absurd ⟨h2, h1⟩ h0
            · exact h2
/-- a number that is read at a place -/
theorem rd_back0 (l : List Nat) (v n : Nat) (hok : ok l) (h : Wn.rd l 0 0 = (v, n, 0)) : n = (Wn.uint v).length ∧ l.take n = Wn.uint v ∧ v < 18446744073709551616 := by
  obtain ⟨u, h1, h2, h3, h4, _⟩ := rd_back l 0 0 v n hok (by omega) h
  simp at h1 h2 h4
  subst h1
  subst h2
  exact ⟨rfl, h3, h4⟩

/-- a signed number as an unsigned one, and back -/
def zz (v : Int) : Nat := if 0 ≤ v then (2 * v).toNat else (-2 * v - 1).toNat
def uz (x : Nat) : Int := if x % 2 = 0 then ((x / 2 : Nat) : Int) else -((x / 2 : Nat) : Int) - 1
theorem zz_lt (v : Int) (h0 : -9223372036854775808 ≤ v) (h1 : v ≤ 9223372036854775807) : zz v < 18446744073709551616 := by
  unfold zz
  split <;> omega
theorem uz_zz (v : Int) : uz (zz v) = v := by
  unfold zz uz
  by_cases h : 0 ≤ v
  · rw [if_pos h, if_pos (by omega)]; omega
  · rw [if_neg h, if_neg (by omega)]; omega
theorem zz_uz (x : Nat) : zz (uz x) = x := by
  unfold zz uz
  by_cases h : x % 2 = 0
  · rw [if_pos h, if_pos (by omega)]; omega
  · rw [if_neg h, if_neg (by omega)]; omega
theorem uz_lt (x : Nat) (h : x < 18446744073709551616) : -9223372036854775808 ≤ uz x ∧ uz x ≤ 9223372036854775807 := by
  unfold uz
  split <;> omega
theorem zig_num (v : Int) (h0 : -9223372036854775808 ≤ v) (h1 : v ≤ 9223372036854775807) :
    bits .xor .u64 (IntKind.u64.wrap (IntKind.u64.wrap v * 2)) (IntKind.u64.wrap (v / 9223372036854775808)) = (zz v : Int) := by
  unfold zz
  by_cases h : 0 ≤ v
  · rw [if_pos h]
    have e1 : IntKind.u64.wrap (IntKind.u64.wrap v * 2) = (((2 * v).toNat : Nat) : Int) := by
      rw [IntKind.wrap_u64, IntKind.wrap_u64]; omega
    have e2 : IntKind.u64.wrap (v / 9223372036854775808) = ((0 : Nat) : Int) := by
      rw [IntKind.wrap_u64]; omega
    rw [e1, e2, bits_xor_u64_nat _ _ (by omega) (by decide), Nat.xor_zero]
  · rw [if_neg h]
    have e1 : IntKind.u64.wrap (IntKind.u64.wrap v * 2) = (((2 * v + 18446744073709551616).toNat : Nat) : Int) := by
      rw [IntKind.wrap_u64, IntKind.wrap_u64]; omega
    have e2 : IntKind.u64.wrap (v / 9223372036854775808) = ((2 ^ 64 - 1 : Nat) : Int) := by
      rw [IntKind.wrap_u64]; omega
    rw [e1, e2, bits_xor_u64_nat _ _ (by omega) (by decide), Nat.xor_comm, Lib.xor_ones64 _ (by omega)]
    omega
theorem xor_i64_comm (a b : Int) : bits .xor .i64 a b = bits .xor .i64 b a := by
  show IntKind.i64.wrap ((BitVec.ofInt 64 a ^^^ BitVec.ofInt 64 b).toNat : Int) = IntKind.i64.wrap ((BitVec.ofInt 64 b ^^^ BitVec.ofInt 64 a).toNat : Int)
  rw [BitVec.xor_comm]
theorem zag_num (x : Nat) (h : x < 18446744073709551616) : bits .xor .i64 (wrap64 ((x : Int) / 2)) (wrap64 (-wrap64 (bits .and .u64 (x : Int) 1))) = uz x := by
  have e0 : bits .and .u64 (x : Int) 1 = (x : Int) % 2 := Lib.u64_and1 x (by omega) (by omega)
  have e1 : wrap64 ((x : Int) / 2) = ((x / 2 : Nat) : Int) := by unfold wrap64; omega
  rw [e0, e1]
  unfold uz
  by_cases h2 : x % 2 = 0
  · rw [if_pos h2]
    have e2 : wrap64 (-wrap64 ((x : Int) % 2)) = ((0 : Nat) : Int) := by unfold wrap64; omega
    rw [e2]
    show IntKind.i64.wrap ((BitVec.ofInt 64 ((x / 2 : Nat) : Int) ^^^ BitVec.ofInt 64 ((0 : Nat) : Int)).toNat : Int) = _
    have h3 : (BitVec.ofInt 64 ((x / 2 : Nat) : Int)).toNat = x / 2 := by
      rw [BitVec.ofInt_natCast, BitVec.toNat_ofNat]; exact Nat.mod_eq_of_lt (by omega)
    have h4 : (BitVec.ofInt 64 ((0 : Nat) : Int)).toNat = 0 := by rw [BitVec.ofInt_natCast, BitVec.toNat_ofNat]
    rw [BitVec.toNat_xor, h3, h4, Nat.xor_zero, IntKind.wrap_i64]
    omega
  · rw [if_neg h2]
    have e2 : wrap64 (-wrap64 ((x : Int) % 2)) = -1 := by unfold wrap64; omega
    rw [e2, xor_i64_comm, Lib.i64_not _ (by omega)]

/-- ReadBytes' answer -/
def rb (l : List Nat) (p m : Int) : List Nat × Int × Nat :=
  if m < 0 then ([], 0, 1)
  else if (Wn.ru l p).2.2 ≠ 0 then ([], 0, (Wn.ru l p).2.2)
  else if m < ((Wn.ru l p).1 : Int) then ([], 0, 13)
  else if (l.length : Int) - (Wn.ru l p).2.1 < ((Wn.ru l p).1 : Int) then ([], 0, 10)
  else ((l.take ((Wn.ru l p).2.1.toNat + (Wn.ru l p).1)).drop (Wn.ru l p).2.1.toNat, (Wn.ru l p).2.1 + ((Wn.ru l p).1 : Int), 0)
end Go.Proofs.Ytceokpklcfmadaa
