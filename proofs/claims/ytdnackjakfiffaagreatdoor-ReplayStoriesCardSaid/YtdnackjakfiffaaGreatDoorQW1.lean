import Derived.KernelRfl
import Derived.WalkKit
import Derived.Laws.AppendOwnNone
import Derived.Lib.Zigzag
import Derived.Laws.BitsAllLaws
import Derived.Test.YtdnackjakfiffaaGreatDoorChecked
import Derived.WalkSpells
import Derived.WalkLawsBesides
import Derived.Handy
import Derived.Deep.QuietTactic
import Derived.BigQuiet
import Derived.Laws.CopyOwn
/-
  PLAIN MATHEMATICS OF THE SUM: the register's step is linear over exclusive or; four steps are one look into the table.
-/
namespace Go.Proofs.YtdnackjakfiffaaGreatDoor.Wm

def poly : Nat := 3988292384
def step (r : Nat) : Nat := if r % 2 = 1 then (r / 2) ^^^ poly else r / 2
def step4 (r : Nat) : Nat := step (step (step (step r)))
def feed (r c : Nat) : Nat := step4 (step4 (r ^^^ c))
def reg (r : Nat) (l : List Nat) : Nat := l.foldl feed r
def crc (l : List Nat) : Nat := 4294967295 ^^^ reg 4294967295 l
def tab : List Nat := [0, 498536548, 997073096, 651767980, 1994146192, 1802195444, 1303535960, 1342533948, 3988292384, 4027552580, 3604390888, 3412177804, 2607071920, 2262029012, 2685067896, 3183342108]

theorem xor_div2 (a b : Nat) : (a ^^^ b) / 2 = (a / 2) ^^^ (b / 2) := by
  apply Nat.eq_of_testBit_eq
  intro i
  simp [Nat.testBit_xor, Nat.testBit_div_two]
theorem xor_mod2 (a b : Nat) : (a ^^^ b) % 2 = (a % 2 + b % 2) % 2 := by
  have h : (a ^^^ b) % 2 ^ 1 = (a % 2 ^ 1) ^^^ (b % 2 ^ 1) := by
    apply Nat.eq_of_testBit_eq
    intro i
    simp only [Nat.testBit_xor, Nat.testBit_mod_two_pow]
    cases decide (i < 1) <;> simp
  simp only [Nat.pow_one] at h
  rw [h]
  rcases Nat.mod_two_eq_zero_or_one a with ha | ha <;> rcases Nat.mod_two_eq_zero_or_one b with hb | hb <;> simp [ha, hb]
theorem xor_self3 (a b p : Nat) : (a ^^^ p) ^^^ (b ^^^ p) = a ^^^ b := by
  apply Nat.eq_of_testBit_eq
  intro i
  simp only [Nat.testBit_xor]
  cases a.testBit i <;> cases b.testBit i <;> cases p.testBit i <;> rfl
theorem step_xor (a b : Nat) : step (a ^^^ b) = step a ^^^ step b := by
  unfold step
  rw [xor_div2, xor_mod2]
  rcases Nat.mod_two_eq_zero_or_one a with ha | ha <;> rcases Nat.mod_two_eq_zero_or_one b with hb | hb <;> simp [ha, hb]
  · exact (Nat.xor_assoc _ _ _)
  · rw [Nat.xor_assoc, Nat.xor_assoc, Nat.xor_comm (b / 2) poly]
  · exact (xor_self3 _ _ _).symm
theorem step4_xor (a b : Nat) : step4 (a ^^^ b) = step4 a ^^^ step4 b := by
  unfold step4; rw [step_xor, step_xor, step_xor, step_xor]
theorem xor_left_comm (a b c : Nat) : a ^^^ (b ^^^ c) = b ^^^ (a ^^^ c) := by
  rw [← Nat.xor_assoc, Nat.xor_comm a b, Nat.xor_assoc]
theorem feed_xor (a b x y : Nat) : feed (a ^^^ b) (x ^^^ y) = feed a x ^^^ feed b y := by
  unfold feed
  rw [← step4_xor, ← step4_xor]
  congr 2
  simp only [Nat.xor_assoc]
  rw [xor_left_comm b x y]
theorem step_double (q : Nat) : step (2 * q) = q := by
  unfold step
  rw [if_neg (by omega)]
  omega
theorem step4_16 (q : Nat) : step4 (16 * q) = q := by
  unfold step4
  rw [show 16 * q = 2 * (2 * (2 * (2 * q))) by omega, step_double, step_double, step_double, step_double]
theorem split16 (r : Nat) : r = (16 * (r / 16)) ^^^ (r % 16) := by
  have h : 2 ^ 4 * (r / 16) ^^^ (r % 16) = 2 ^ 4 * (r / 16) + r % 16 := by
    have := Nat.two_pow_add_eq_or_of_lt (i := 4) (b := r % 16) (by omega) (r / 16)
    rw [this]
    apply Nat.eq_of_testBit_eq
    intro i
    rw [Nat.testBit_xor, Nat.testBit_or, Nat.testBit_two_pow_mul]
    by_cases hi : 4 ≤ i
    · have : (r % 16).testBit i = false := Nat.testBit_lt_two_pow (Nat.lt_of_lt_of_le (show r % 16 < 2 ^ 4 by omega) (Nat.pow_le_pow_right (by decide) hi))
      simp [this]
    · simp [hi]
  have e : (2 : Nat) ^ 4 = 16 := rfl
  rw [e] at h
  omega
theorem tab_all : ∀ m, m < 16 → step4 m = tab.getD m 0 := by decide
theorem step4_tab (r : Nat) : step4 r = (r / 16) ^^^ tab.getD (r % 16) 0 := by
  have h := congrArg step4 (split16 r)
  rw [step4_xor, step4_16, tab_all (r % 16) (by omega)] at h
  exact h
theorem step_lt (r : Nat) (h : r < 4294967296) : step r < 4294967296 := by
  unfold step
  split
  · exact Nat.xor_lt_two_pow (n := 32) (by omega) (by decide)
  · omega
theorem step4_lt (r : Nat) (h : r < 4294967296) : step4 r < 4294967296 := step_lt _ (step_lt _ (step_lt _ (step_lt _ h)))
theorem xor_lt (a b : Nat) (ha : a < 4294967296) (hb : b < 4294967296) : a ^^^ b < 4294967296 := Nat.xor_lt_two_pow (n := 32) ha hb
theorem feed_lt (r c : Nat) (h : r < 4294967296) (hc : c < 256) : feed r c < 4294967296 :=
  step4_lt _ (step4_lt _ (xor_lt _ _ h (by omega)))
theorem reg_lt (l : List Nat) : ∀ r, r < 4294967296 → (∀ x ∈ l, x < 256) → reg r l < 4294967296 := by
  induction l with
  | nil => intro r h _; exact h
  | cons c l ih => intro r h hl; exact ih _ (feed_lt r c h (hl c (by simp))) (fun x hx => hl x (by simp [hx]))
theorem crc_lt (l : List Nat) (hl : ∀ x ∈ l, x < 256) : crc l < 4294967296 := xor_lt _ _ (by decide) (reg_lt l _ (by decide) hl)
theorem reg_append (r : Nat) (a b : List Nat) : reg r (a ++ b) = reg (reg r a) b := by unfold reg; rw [List.foldl_append]
theorem reg_snoc (r : Nat) (a : List Nat) (c : Nat) : reg r (a ++ [c]) = feed (reg r a) c := by rw [reg_append]; rfl

def xor3 : List Nat → List Nat → List Nat → List Nat
  | a :: x, b :: y, c :: z => (a ^^^ b ^^^ c) :: xor3 x y z
  | _, _, _ => []
theorem reg_xor3 : ∀ (x y z : List Nat) (a b c : Nat), x.length = y.length → x.length = z.length → reg (a ^^^ b ^^^ c) (xor3 x y z) = reg a x ^^^ reg b y ^^^ reg c z
  | [], [], [], _, _, _, _, _ => rfl
  | p :: x, q :: y, s :: z, a, b, c, h1, h2 => by
    have ih := reg_xor3 x y z (feed a p) (feed b q) (feed c s) (by simpa using h1) (by simpa using h2)
    show reg (feed (a ^^^ b ^^^ c) (p ^^^ q ^^^ s)) (xor3 x y z) = _
    rw [feed_xor, feed_xor]
    exact ih
  | [], _ :: _, _, _, _, _, h, _ => by simp at h
  | _ :: _, [], _, _, _, _, h, _ => by simp at h
  | [], [], _ :: _, _, _, _, _, h => by simp at h
  | _ :: _, _ :: _, [], _, _, _, _, h => by simp at h
theorem crc_xor3 (x y z : List Nat) (h1 : x.length = y.length) (h2 : x.length = z.length) : crc (xor3 x y z) = crc x ^^^ crc y ^^^ crc z := by
  unfold crc
  have h := reg_xor3 x y z 4294967295 4294967295 4294967295 h1 h2
  have e : (4294967295 : Nat) ^^^ 4294967295 ^^^ 4294967295 = 4294967295 := by decide
  rw [e] at h
  rw [h]
  apply Nat.eq_of_testBit_eq
  intro i
  simp only [Nat.testBit_xor]
  generalize (4294967295 : Nat).testBit i = p
  generalize Nat.testBit (reg 4294967295 x) i = u
  generalize Nat.testBit (reg 4294967295 y) i = v
  generalize Nat.testBit (reg 4294967295 z) i = t
  cases p <;> cases u <;> cases v <;> cases t <;> rfl

end Go.Proofs.YtdnackjakfiffaaGreatDoor.Wm

/-
  PLAIN MATHEMATICS OF THE NUMBERS: groups of seven bits, lowest first.
-/
namespace Go.Proofs.YtdnackjakfiffaaGreatDoor.Wn

def encF : Nat → Nat → List Nat
  | 0, v => [v]
  | f + 1, v => if v < 128 then [v] else (128 + v % 128) :: encF f (v / 128)
def uint (v : Nat) : List Nat := encF v v
theorem encF_eq : ∀ (f g v : Nat), v ≤ f → v ≤ g → encF f v = encF g v
  | 0, 0, _, _, _ => rfl
  | 0, g + 1, v, h, _ => by
    obtain rfl : v = 0 := by omega
    simp [encF]
  | f + 1, 0, v, _, h => by
    obtain rfl : v = 0 := by omega
    simp [encF]
  | f + 1, g + 1, v, h1, h2 => by
    unfold encF
    by_cases hv : v < 128
    · simp [hv]
    · simp only [hv, if_false]
      rw [encF_eq f g (v / 128) (by omega) (by omega)]
theorem uint_small (v : Nat) (h : v < 128) : uint v = [v] := by
  unfold uint
  cases v with
  | zero => rfl
  | succ n => simp [encF, h]
theorem uint_big (v : Nat) (h : 128 ≤ v) : uint v = (128 + v % 128) :: uint (v / 128) := by
  unfold uint
  cases v with
  | zero => omega
  | succ n =>
    rw [encF, if_neg (by omega), encF_eq n ((n + 1) / 128) ((n + 1) / 128) (by omega) (Nat.le_refl _)]
theorem uint_ok : ∀ (f v : Nat), v ≤ f → ∀ x ∈ uint v, x < 256
  | 0, v, h => by
    obtain rfl : v = 0 := by omega
    intro x hx
    rw [uint_small 0 (by decide)] at hx
    simp at hx
    omega
  | f + 1, v, h => by
    intro x hx
    by_cases hv : v < 128
    · rw [uint_small v hv] at hx
      simp at hx
      omega
    · rw [uint_big v (by omega)] at hx
      rcases List.mem_cons.1 hx with rfl | hx
      · omega
      · exact uint_ok f (v / 128) (by omega) x hx
theorem uint_pos (v : Nat) : 0 < (uint v).length := by
  by_cases hv : v < 128
  · rw [uint_small v hv]; simp
  · rw [uint_big v (by omega)]; simp
theorem uint_len : ∀ (k v : Nat), v < 128 ^ (k + 1) → (uint v).length ≤ k + 1
  | 0, v, h => by
    rw [uint_small v (by simpa using h)]
    simp
  | k + 1, v, h => by
    by_cases hv : v < 128
    · rw [uint_small v hv]; simp
    · rw [uint_big v (by omega)]
      have := uint_len k (v / 128) (by
        apply Nat.div_lt_of_lt_mul
        rw [Nat.mul_comm, ← Nat.pow_succ]
        exact h)
      simp
      omega
theorem uint_len10 (v : Nat) (h : v < 18446744073709551616) : (uint v).length ≤ 10 :=
  uint_len 9 v (Nat.lt_of_lt_of_le h (by decide))
theorem uint_len3 (v : Nat) (h : v ≤ 1048576) : (uint v).length ≤ 3 :=
  uint_len 2 v (Nat.lt_of_le_of_lt h (by decide))

/-- reading: the bytes that are left, their place, what has been read; the number, how many bytes, the error -/
def rd : List Nat → Nat → Nat → Nat × Nat × Nat
  | [], _, _ => (0, 0, 10)
  | c :: r, i, v =>
    if i = 9 ∧ 1 < c then (0, 0, 12)
    else if 128 ≤ c then rd r (i + 1) (v + c % 128 * 2 ^ (7 * i))
    else if c = 0 ∧ 0 < i then (0, 0, 11)
    else (v + c % 128 * 2 ^ (7 * i), i + 1, 0)

theorem pow_step (i : Nat) : 2 ^ (7 * (i + 1)) = 128 * 2 ^ (7 * i) := by
  rw [Nat.mul_add, Nat.mul_one, Nat.pow_add, Nat.mul_comm]

theorem rd_uint : ∀ (f v : Nat) (i acc : Nat) (rest : List Nat), v ≤ f → v * 2 ^ (7 * i) < 18446744073709551616 → (0 < i → 0 < v) →
    rd (uint v ++ rest) i acc = (acc + v * 2 ^ (7 * i), i + (uint v).length, 0) := by
  intro f
  induction f with
  | zero =>
    intro v i acc rest hf hlt hpos
    obtain rfl : v = 0 := by omega
    have hi : i = 0 := by
      rcases Nat.eq_zero_or_pos i with h | h
      · exact h
      · have := hpos h; omega
    subst hi
    simp [uint_small 0 (by decide), rd]
  | succ f ih =>
    intro v i acc rest hf hlt hpos
    have hP : 0 < 2 ^ (7 * i) := Nat.two_pow_pos _
    by_cases hv : v < 128
    · rw [uint_small v hv]
      have h9 : ¬ (i = 9 ∧ 1 < v) := by
        rintro ⟨rfl, h1⟩
        have : 2 * 2 ^ (7 * 9) ≤ v * 2 ^ (7 * 9) := Nat.mul_le_mul_right _ h1
        have e : 2 * 2 ^ (7 * 9) = 18446744073709551616 := by decide
        omega
      have h0 : ¬ (v = 0 ∧ 0 < i) := by
        rintro ⟨h1, h2⟩
        have := hpos h2
        omega
      simp only [List.cons_append, List.nil_append, rd, if_neg h9, if_neg (show ¬ 128 ≤ v by omega), if_neg h0, Nat.mod_eq_of_lt hv]
      rfl
    · rw [uint_big v (by omega)]
      have h9 : ¬ (i = 9 ∧ 1 < 128 + v % 128) := by
        rintro ⟨rfl, _⟩
        have : 128 * 2 ^ (7 * 9) ≤ v * 2 ^ (7 * 9) := Nat.mul_le_mul_right _ (by omega)
        have e : 18446744073709551616 ≤ 128 * 2 ^ (7 * 9) := by decide
        omega
      have hm : (128 + v % 128) % 128 = v % 128 := by omega
      have hdec : v = 128 * (v / 128) + v % 128 := (Nat.div_add_mod v 128).symm
      have hsplit : v * 2 ^ (7 * i) = v % 128 * 2 ^ (7 * i) + v / 128 * (128 * 2 ^ (7 * i)) := by
        have h1 : v * 2 ^ (7 * i) = (128 * (v / 128) + v % 128) * 2 ^ (7 * i) := congrArg (· * 2 ^ (7 * i)) hdec
        rw [h1, Nat.add_mul, Nat.add_comm, Nat.mul_comm 128 (v / 128), Nat.mul_assoc]
      have hle : v / 128 * 2 ^ (7 * (i + 1)) < 18446744073709551616 := by
        rw [pow_step]
        omega
      have := ih (v / 128) (i + 1) (acc + v % 128 * 2 ^ (7 * i)) rest (by omega) hle (fun _ => by omega)
      simp only [List.cons_append, rd, if_neg h9, if_pos (show 128 ≤ 128 + v % 128 by omega), hm]
      rw [this, pow_step, hsplit]
      simp only [List.length_cons, Prod.mk.injEq, and_true]
      omega

/-- a number that is read at the beginning -/
theorem rd_uint0 (v : Nat) (rest : List Nat) (h : v < 18446744073709551616) : rd (uint v ++ rest) 0 0 = (v, (uint v).length, 0) := by
  have := rd_uint v v 0 0 rest (Nat.le_refl _) (by simpa using h) (by omega)
  simpa using this

theorem rd_wide (c : Nat) (r : List Nat) (i v : Nat) (h : i = 9 ∧ 1 < c) : rd (c :: r) i v = (0, 0, 12) := by rw [rd, if_pos h]
theorem rd_more (c : Nat) (r : List Nat) (i v : Nat) (h : ¬ (i = 9 ∧ 1 < c)) (hc : 128 ≤ c) : rd (c :: r) i v = rd r (i + 1) (v + c % 128 * 2 ^ (7 * i)) := by rw [rd, if_neg h, if_pos hc]
theorem rd_min (c : Nat) (r : List Nat) (i v : Nat) (h : c = 0) (hi : 0 < i) : rd (c :: r) i v = (0, 0, 11) := by rw [rd, if_neg (by omega), if_neg (by omega), if_pos ⟨h, hi⟩]
theorem rd_last (c : Nat) (r : List Nat) (i v : Nat) (h : ¬ (i = 9 ∧ 1 < c)) (hc : c < 128) (h0 : ¬ (c = 0 ∧ 0 < i)) : rd (c :: r) i v = (v + c % 128 * 2 ^ (7 * i), i + 1, 0) := by
  rw [rd, if_neg h, if_neg (by omega), if_neg h0]

theorem rd_len : ∀ (l : List Nat) (i acc v n : Nat), rd l i acc = (v, n, 0) → n ≤ i + l.length ∧ i < n := by
  intro l
  induction l with
  | nil => intro i acc v n h; simp [rd] at h
  | cons c r ih =>
    intro i acc v n h
    by_cases h9 : i = 9 ∧ 1 < c
    · rw [rd_wide _ _ _ _ h9] at h; simp at h
    · by_cases hc : 128 ≤ c
      · rw [rd_more _ _ _ _ h9 hc] at h
        have := ih _ _ _ _ h
        simp
        omega
      · by_cases h0 : c = 0 ∧ 0 < i
        · rw [rd_min _ _ _ _ h0.1 h0.2] at h; simp at h
        · rw [rd_last _ _ _ _ h9 (by omega) h0] at h
          simp at h
          simp
          omega
theorem rd_err : ∀ (l : List Nat) (i acc v n e : Nat), rd l i acc = (v, n, e) → e ≠ 0 → v = 0 ∧ n = 0 ∧ e ≤ 12 := by
  intro l
  induction l with
  | nil => intro i acc v n e h _; simp [rd] at h; omega
  | cons c r ih =>
    intro i acc v n e h he
    by_cases h9 : i = 9 ∧ 1 < c
    · rw [rd_wide _ _ _ _ h9] at h; simp at h; omega
    · by_cases hc : 128 ≤ c
      · rw [rd_more _ _ _ _ h9 hc] at h
        exact ih _ _ _ _ _ h he
      · by_cases h0 : c = 0 ∧ 0 < i
        · rw [rd_min _ _ _ _ h0.1 h0.2] at h; simp at h; omega
        · rw [rd_last _ _ _ _ h9 (by omega) h0] at h
          simp at h
          omega

/-- ReadUint's answer -/
def ru (l : List Nat) (p : Int) : Nat × Int × Nat :=
  if p < 0 ∨ (l.length : Int) < p then (0, 0, 1)
  else ((rd (l.drop p.toNat) 0 0).1, (if (rd (l.drop p.toNat) 0 0).2.2 = 0 then p + ((rd (l.drop p.toNat) 0 0).2.1 : Int) else 0), (rd (l.drop p.toNat) 0 0).2.2)
theorem ru_out (l : List Nat) (p : Int) (h : p < 0 ∨ (l.length : Int) < p) : ru l p = (0, 0, 1) := by
  unfold ru
  rw [if_pos h]
theorem ru_in (l : List Nat) (p : Nat) (h : p ≤ l.length) (v n e : Nat) (hr : rd (l.drop p) 0 0 = (v, n, e)) : ru l (p : Int) = (v, (if e = 0 then ((p + n : Nat) : Int) else 0), e) := by
  unfold ru
  rw [if_neg (by omega), show ((p : Int)).toNat = p by omega, hr]
  simp
/-- the two ways of an answer -/
theorem ru_cases (l : List Nat) (p : Int) : (∃ e, e ≠ 0 ∧ e ≤ 12 ∧ ru l p = (0, 0, e)) ∨ ∃ q v n : Nat, p = (q : Int) ∧ q + n ≤ l.length ∧ 0 < n ∧ rd (l.drop q) 0 0 = (v, n, 0) ∧ ru l p = (v, ((q + n : Nat) : Int), 0) := by
  by_cases ho : p < 0 ∨ (l.length : Int) < p
  · exact .inl ⟨1, by decide, by decide, ru_out l p ho⟩
  · obtain ⟨q, rfl⟩ := Int.eq_ofNat_of_zero_le (show 0 ≤ p by omega)
    obtain ⟨v, n, e, hr⟩ : ∃ v n e, rd (l.drop q) 0 0 = (v, n, e) := ⟨_, _, _, rfl⟩
    have hu := ru_in l q (by omega) v n e hr
    by_cases he : e = 0
    · subst he
      have h1 := rd_len _ _ _ _ _ hr
      rw [List.length_drop] at h1
      exact .inr ⟨q, v, n, rfl, by omega, by omega, hr, by simpa using hu⟩
    · obtain ⟨rfl, rfl, h3⟩ := rd_err _ _ _ _ _ _ hr he
      rw [if_neg he] at hu
      exact .inl ⟨e, he, h3, hu⟩
end Go.Proofs.YtdnackjakfiffaaGreatDoor.Wn

/-
  BYTE STRINGS IN MEMORY: 'Bs': a slice value that holds a list of bytes; 'Own': one that lies in a row of the call's own; 'Ps': a slice of such slices.
-/
namespace Go.Proofs.YtdnackjakfiffaaGreatDoor
open Go Go.RowKit

namespace Wb
def bv (l : List Nat) : List Value := l.map fun (n : Nat) => Value.int .u8 (n : Int)
def ok (l : List Nat) : Prop := ∀ x ∈ l, x < 256
theorem bv_length (l : List Nat) : (bv l).length = l.length := by simp [bv]
theorem bv_append (a b : List Nat) : bv (a ++ b) = bv a ++ bv b := by simp [bv]
theorem bv_get (l : List Nat) (j : Nat) (h : j < l.length) : (bv l)[j]? = some (.int .u8 (l[j] : Int)) := by simp [bv, h]
theorem bv_one (l : List Nat) : ∀ u ∈ bv l, u.oneCell' = true := by
  intro u hu
  obtain ⟨_, _, rfl⟩ := List.mem_map.1 hu
  rfl
theorem ok_append {a b : List Nat} (h : ok a) (k : ok b) : ok (a ++ b) := by
  intro x hx
  rcases List.mem_append.1 hx with h1 | h1
  · exact h x h1
  · exact k x h1
theorem ok_nil : ok [] := by intro x hx; cases hx
theorem ok_one {n : Nat} (h : n < 256) : ok [n] := by intro x hx; simp at hx; omega
theorem ok_take {l : List Nat} (h : ok l) (k : Nat) : ok (l.take k) := fun x hx => h x (List.mem_of_mem_take hx)
theorem ok_drop {l : List Nat} (h : ok l) (k : Nat) : ok (l.drop k) := fun x hx => h x (List.mem_of_mem_drop hx)
theorem ok_get {l : List Nat} (h : ok l) (k : Nat) (hk : k < l.length) : l[k] < 256 := h _ (List.getElem_mem hk)
theorem ok_getD {l : List Nat} (h : ok l) (k : Nat) : l.getD k 0 < 256 := by
  by_cases hk : k < l.length
  · rw [List.getD_eq_getElem?_getD, List.getElem?_eq_getElem hk]; exact h _ (List.getElem_mem hk)
  · rw [List.getD_eq_getElem?_getD, List.getElem?_eq_none (by omega)]; decide

/-- A slice value that holds these bytes. -/
structure Bs (w : World) (v : Value) (l : List Nat) : Prop where
  shape : ∃ ao cap, v = .slice ao l.length cap ∧ l.length ≤ cap ∧ cap ≤ maxLen ∧ (ao = none → cap = 0) ∧
    (l ≠ [] → ∃ b off, ao = some ⟨b, off, none⟩ ∧ ∀ j (h : j < l.length), w.cell? ⟨b, off + j, none⟩ = some (.int .u8 (l[j] : Int)))
  good : ok l

theorem Bs.nil (w : World) : Bs w (.slice none 0 0) [] := ⟨⟨none, 0, rfl, Nat.le_refl _, by simp [maxLen], fun _ => rfl, fun h => absurd rfl h⟩, ok_nil⟩
/-- the two shapes -/
theorem Bs.cases {w : World} {v : Value} {l : List Nat} (h : Bs w v l) :
    (l = [] ∧ ∃ ao cap, v = .slice ao 0 cap ∧ cap ≤ maxLen ∧ (ao = none → cap = 0)) ∨
    (0 < l.length ∧ ∃ b off cap, v = .slice (some ⟨b, off, none⟩) l.length cap ∧ l.length ≤ cap ∧ cap ≤ maxLen ∧ ∀ j (h : j < l.length), w.cell? ⟨b, off + j, none⟩ = some (.int .u8 (l[j] : Int))) := by
  obtain ⟨ao, cap, rfl, hl, hm, hn, hc⟩ := h.shape
  by_cases e : l = []
  · subst e; exact .inl ⟨rfl, ao, cap, rfl, hm, hn⟩
  · obtain ⟨b, off, rfl, hcell⟩ := hc e
    exact .inr ⟨List.length_pos_iff.2 e, b, off, cap, rfl, hl, hm, hcell⟩
theorem Bs.lt {w : World} {b off cap : Nat} {l : List Nat} (h : Bs w (.slice (some ⟨b, off, none⟩) l.length cap) l) (hl : 0 < l.length) : b < w.heap.size := by
  obtain ⟨ao, cap', e, _, _, _, hc⟩ := h.shape
  obtain ⟨b', off', rfl, hcell⟩ := hc (List.ne_nil_of_length_pos hl)
  simp only [Value.slice.injEq, Option.some.injEq, Addr.mk.injEq, and_true, true_and] at e
  obtain ⟨⟨rfl, rfl⟩, rfl⟩ := e
  exact World.block_lt_of_cell? _ _ (hcell 0 hl)
/-- it stays so as long as what was there stays -/
theorem Bs.kept {w w' : World} {v : Value} {l : List Nat} (h : Bs w v l) (hb : Below w.heap.size w w') : Bs w' v l := by
  refine ⟨?_, h.good⟩
  obtain ⟨ao, cap, rfl, hl, hm, hn, hc⟩ := h.shape
  refine ⟨ao, cap, rfl, hl, hm, hn, fun hne => ?_⟩
  obtain ⟨b, off, rfl, hcell⟩ := hc hne
  exact ⟨b, off, rfl, fun j hj => (hb.cell (p := ⟨b, off + j, none⟩) (World.block_lt_of_cell? _ _ (hcell j hj))).trans (hcell j hj)⟩
theorem Bs.alloc {w : World} {v : Value} {l : List Nat} (h : Bs w v l) (o : Obj) : Bs (w.alloc o) v l := h.kept ((Below.refl _ _).alloc (Nat.le_refl _) o)
theorem Bs.drew {w : World} {v : Value} {l : List Nat} (h : Bs w v l) : Bs w.drew v l := h.kept ((Below.refl _ _).drew)
theorem Bs.len_le {w : World} {v : Value} {l : List Nat} (h : Bs w v l) : l.length ≤ maxLen := by
  obtain ⟨ao, cap, rfl, hl, hm, _⟩ := h.shape
  omega

/-- a piece of it -/
theorem Bs.sub {w : World} {b off cap : Nat} {l : List Nat} (h : Bs w (.slice (some ⟨b, off, none⟩) l.length cap) l) (lo hi : Nat) (h1 : lo < hi) (h2 : hi ≤ l.length) :
    Bs w (.slice (some ⟨b, off + lo, none⟩) (hi - lo) (cap - lo)) ((l.take hi).drop lo) := by
  obtain ⟨ao, cap', e, hl, hm, _, hc⟩ := h.shape
  obtain ⟨b', off', rfl, hcell⟩ := hc (List.ne_nil_of_length_pos (by omega))
  simp only [Value.slice.injEq, Option.some.injEq, Addr.mk.injEq, and_true, true_and] at e
  obtain ⟨⟨rfl, rfl⟩, rfl⟩ := e
  have hlen : ((l.take hi).drop lo).length = hi - lo := by simp; omega
  refine ⟨⟨_, _, by rw [hlen], by omega, by omega, fun e => (by cases e), fun _ => ⟨b, off + lo, rfl, fun j hj => ?_⟩⟩, ok_drop (ok_take h.good _) _⟩
  rw [hlen] at hj
  rw [Nat.add_assoc, hcell (lo + j) (by omega)]
  simp

/-- A slice value in a row of the call's own, from block B on. -/
structure Own (B : Nat) (w : World) (v : Value) (l : List Nat) : Prop where
  row : w.ownsRow B 5 1 v l.length (bv l)
  good : ok l
theorem Own.nil (B : Nat) (w : World) : Own B w (.slice none 0 0) [] := ⟨World.ownsRow_nil _ _ _ _, ok_nil⟩
theorem Own.shape {B : Nat} {w : World} {v : Value} {l : List Nat} (h : Own B w v l) : (v = .slice none 0 0 ∧ l = []) ∨ ∃ g cap, v = .slice (some ⟨g, 0, none⟩) l.length cap ∧ B ≤ g ∧ g < w.heap.size ∧ l.length ≤ cap ∧ cap ≤ maxLen ∧ (∀ j (h : j < l.length), w.cell? ⟨g, j, none⟩ = some (.int .u8 (l[j] : Int))) := by
  have h0 := h.row
  rcases h.row.2 with ⟨rfl, h1⟩ | ⟨g, cap, cur, rfl, hb, hg, h1, h2, h3, h4⟩
  · exact .inl ⟨rfl, List.eq_nil_of_length_eq_zero h1⟩
  · refine .inr ⟨g, cap, rfl, hb, (Array.getElem?_eq_some_iff.1 hg).1, h1, h2, fun j hj => ?_⟩
    rw [h0.cellAt j (by omega), bv_get l j hj]
theorem Own.bs {B : Nat} {w : World} {v : Value} {l : List Nat} (h : Own B w v l) : Bs w v l := by
  refine ⟨?_, h.good⟩
  rcases h.shape with ⟨rfl, rfl⟩ | ⟨g, cap, rfl, _, _, h1, h2, hc⟩
  · exact (Bs.nil w).shape
  · exact ⟨some ⟨g, 0, none⟩, cap, rfl, h1, h2, fun e => (by cases e), fun _ => ⟨g, 0, rfl, fun j hj => by rw [Nat.zero_add]; exact hc j hj⟩⟩
theorem Own.kept {B : Nat} {w w' : World} {v : Value} {l : List Nat} (h : Own B w v l) (hb : Below w.heap.size w w') : Own B w' v l := by
  refine ⟨⟨h.row.1, ?_⟩, h.good⟩
  rcases h.row.2 with h1 | ⟨g, cap, cur, rfl, h1, hg, rest⟩
  · exact .inl h1
  · exact .inr ⟨g, cap, cur, rfl, h1, (hb.block g (Array.getElem?_eq_some_iff.1 hg).1).trans hg, rest⟩
theorem Own.alloc {B : Nat} {w : World} {v : Value} {l : List Nat} (h : Own B w v l) (o : Obj) : Own B (w.alloc o) v l := h.kept ((Below.refl _ _).alloc (Nat.le_refl _) o)
theorem Own.mono {B B' : Nat} {w : World} {v : Value} {l : List Nat} (h : Own B w v l) (hB : B' ≤ B) : Own B' w v l := by
  refine ⟨⟨h.row.1, ?_⟩, h.good⟩
  rcases h.row.2 with h1 | ⟨g, cap, cur, rfl, h1, rest⟩
  · exact .inl h1
  · exact .inr ⟨g, cap, cur, rfl, by omega, rest⟩
/-- a literal []byte{..} -/
theorem Own.lit {B : Nat} (w : World) (l : List Nat) (hl : ok l) (hB : B ≤ w.heap.size) (hm : l.length ≤ maxLen) (cs : Array Value) (hcs : cs.toList = bv l) : Own B (w.alloc (.cells cs 5)) (.slice (some ⟨w.heap.size, 0, none⟩) l.length l.length) l := by
  have h := World.ownsRow_lit (base := B) (e := 5) (size := 1) w cs l.length hB hm (by rw [← Array.length_toList, hcs, bv_length, Nat.mul_one])
  rw [hcs] at h
  exact ⟨h, hl⟩

theorem Bs.one (w : World) (n : Nat) (h : n < 256) (x : Int) (hx : x = (n : Int)) : Bs (w.alloc (.cells #[.int .u8 x] 5)) (.slice (some ⟨w.heap.size, 0, none⟩) 1 1) [n] := by
  subst hx
  exact (Own.lit (B := 0) w [n] (ok_one h) (Nat.zero_le _) (by simp [maxLen]) #[.int .u8 (n : Int)] rfl).bs

/-- append(v, x...) of bytes onto a row of the call's own: for the walk. -/
theorem wpList_append {P : Program} (w : World) {ops : Array Oper} {rest : List Oper} {o : Oper} {a : Act} {Q : Exit → Act → World → Prop} (hgd : o.guard = none) (s x : Operand) (t : TypeId)
    (ho : o.op = .call { callee := .builtin .append, args := #[s, x], argTypes := #[t, t] })
    (B : Nat) (hinfo : (P.info? 5).map (fun i => (i.zero, i.size, i.bytes)) = some (some (.int .u8 0), 1, 1)) (ht : P.underlying t = some (.slice 5))
    (v : Value) (l : List Nat) (hv : a.eval s = v) (h : Own B w v l) (xv : Value) (m : List Nat) (hx : a.eval x = xv) (hm : Bs w xv m)
    (hmax : l.length + m.length ≤ 140737488355328) (hB : B ≤ w.heap.size)
    (hK : ∀ v' w', Own B w' v' (l ++ m) → Below B w w' → w.grownBy w' v.ownBlock → wpList P ops Q rest (a.put o.dst v') w') : wpList P ops Q (o :: rest) a w := by
  obtain ⟨i0, hi, hz0, hz1, hz2⟩ := info_parts hinfo
  have lift : ∀ v' w', w'.ownsRow B 5 1 v' (l.length + m.length) (bv l ++ bv m) → w.grownBy w' v.ownBlock → Own B w' v' (l ++ m) ∧ Below B w w' := by
    intro v' w' h1 h2
    refine ⟨⟨?_, ok_append h.good hm.good⟩, (Below.refl B w).grown h2 hB (fun k hk => (h.row.lt k hk).1)⟩
    rw [List.length_append, bv_append]
    exact h1
  obtain ⟨ao, cap, rfl, hl, hmx, hn, hc⟩ := hm.shape
  cases ao with
  | none =>
    obtain rfl := hn rfl
    have h0 : m = [] := List.eq_nil_of_length_eq_zero (by omega)
    subst h0
    refine wpList_append_own_none hgd s x t ho B 5 i0 1 ht hi v l.length (bv l) hv h.row hx ?_
    have := hK v w (by simpa using h) (Below.refl _ _) (World.grownBy.refl _ _)
    exact this
  | some ad =>
    refine wpList_append_own w hgd s x t ho B 5 i0 (.int .u8 0) 1 1 ht hi hz0 hz1 hz2 rfl (by decide) v l.length (bv l) hv h.row ad m.length cap (bv m) hx (by rw [bv_length, Nat.mul_one]) ?_ (bv_one m) (by unfold maxLen; omega) (by omega) hB ?_
    · intro j u hj
      have hjl : j < m.length := by have := (List.getElem?_eq_some_iff.1 hj).1; rwa [bv_length] at this
      obtain ⟨b, off, e, hcell⟩ := hc (List.ne_nil_of_length_pos (by omega))
      obtain rfl := Option.some.inj e
      rw [bv_get m j hjl] at hj
      rw [Addr.add_lit, hcell j hjl]
      exact hj
    · intro v' w' h1 h2 _
      obtain ⟨r1, r2⟩ := lift v' w' h1 h2
      exact hK v' w' r1 r2 h2

/-- The same as one step of a region that draws its order. -/
theorem step_append {P : Program} {ops : Array Oper} {o : Oper} {a : Act} {w : World} {K : Act → World → Prop} {Q : Exit → Act → World → Prop} {E : Prop} (hgd : o.guard = none) (s x : Operand) (t : TypeId)
    (ho : o.op = .call { callee := .builtin .append, args := #[s, x], argTypes := #[t, t] })
    (B : Nat) (hinfo : (P.info? 5).map (fun i => (i.zero, i.size, i.bytes)) = some (some (.int .u8 0), 1, 1)) (ht : P.underlying t = some (.slice 5))
    (v : Value) (l : List Nat) (hv : a.eval s = v) (h : Own B w v l) (xv : Value) (m : List Nat) (hx : a.eval x = xv) (hm : Bs w xv m)
    (hmax : l.length + m.length ≤ 140737488355328) (hB : B ≤ w.heap.size)
    (hK : ∀ v' w', Own B w' v' (l ++ m) → Below B w w' → w.grownBy w' v.ownBlock → K (a.put o.dst v') w') :
    if Region.wanted o (yielded ops a.tmps) = true then Oper.wp P o a w K Q else E := by
  have hw : Region.wanted o (yielded ops a.tmps) = true := by simp [Region.wanted, hgd]
  rw [if_pos hw]
  obtain ⟨i0, hi, hz0, hz1, hz2⟩ := info_parts hinfo
  have lift : ∀ v' w', w'.ownsRow B 5 1 v' (l.length + m.length) (bv l ++ bv m) → w.grownBy w' v.ownBlock → Own B w' v' (l ++ m) ∧ Below B w w' := by
    intro v' w' h1 h2
    refine ⟨⟨?_, ok_append h.good hm.good⟩, (Below.refl B w).grown h2 hB (fun k hk => (h.row.lt k hk).1)⟩
    rw [List.length_append, bv_append]
    exact h1
  obtain ⟨ao, cap, rfl, hl, hmx, hn, hc⟩ := hm.shape
  cases ao with
  | none =>
    obtain rfl := hn rfl
    have h0 : m = [] := List.eq_nil_of_length_eq_zero (by omega)
    subst h0
    have hrun := run_append_owned_none (P := P) w B t o.type 5 i0 1 ht hi v l.length (bv l) h.row
    unfold Oper.wp
    simp [execOp, ho, resolve, invoke, builtin, hv, hx, hrun, Result.andThen]
    exact hK v w (by simpa using h) (Below.refl _ _) (World.grownBy.refl _ _)
  | some ad =>
    obtain ⟨v', w', hrun, h1, h2, _⟩ := run_append_own (P := P) w B t o.type 5 i0 (.int .u8 0) 1 1 ht hi hz0 hz1 hz2 rfl (by decide) v l.length (bv l) h.row ad m.length cap (bv m) (by rw [bv_length, Nat.mul_one]) (by
      intro j u hj
      have hjl : j < m.length := by have := (List.getElem?_eq_some_iff.1 hj).1; rwa [bv_length] at this
      obtain ⟨b, off, e, hcell⟩ := hc (List.ne_nil_of_length_pos (by omega))
      obtain rfl := Option.some.inj e
      rw [bv_get m j hjl] at hj
      rw [Addr.add_lit, hcell j hjl]
      exact hj) (bv_one m) (by unfold maxLen; omega) (by omega) hB
    unfold Oper.wp
    simp [execOp, ho, resolve, invoke, builtin, hv, hx, hrun, Result.andThen]
    obtain ⟨r1, r2⟩ := lift v' w' h1 h2
    exact hK v' w' r1 r2 h2

/-- A slice of byte strings. -/
structure Ps (w : World) (v : Value) (ls : List (List Nat)) : Prop where
  shape : ∃ ao cap, v = .slice ao ls.length cap ∧ ls.length ≤ maxLen ∧ (ls ≠ [] → ∃ b off, ao = some ⟨b, off, none⟩ ∧ ∀ j (h : j < ls.length), ∃ vj, w.cell? ⟨b, off + j, none⟩ = some vj ∧ Bs w vj ls[j])
theorem Ps.kept {w w' : World} {v : Value} {ls : List (List Nat)} (h : Ps w v ls) (hb : Below w.heap.size w w') : Ps w' v ls := by
  obtain ⟨ao, cap, rfl, hm, hc⟩ := h.shape
  refine ⟨ao, cap, rfl, hm, fun hne => ?_⟩
  obtain ⟨b, off, rfl, hcell⟩ := hc hne
  refine ⟨b, off, rfl, fun j hj => ?_⟩
  obtain ⟨vj, h1, h2⟩ := hcell j hj
  exact ⟨vj, (hb.cell (p := ⟨b, off + j, none⟩) (World.block_lt_of_cell? _ _ h1)).trans h1, h2.kept hb⟩
/-- a new row of slices -/
theorem Ps.lit (w : World) (vs : List Value) (ls : List (List Nat)) (t : TypeId) (cs : Array Value) (hcs : cs.toList = vs) (hl : vs.length = ls.length) (hm : ls.length ≤ maxLen) (h : ∀ j (h1 : j < vs.length) (h2 : j < ls.length), Bs w vs[j] ls[j]) :
    Ps (w.alloc (.cells cs t)) (.slice (some ⟨w.heap.size, 0, none⟩) ls.length ls.length) ls := by
  refine ⟨_, _, rfl, hm, fun _ => ⟨_, _, rfl, fun j hj => ?_⟩⟩
  have hj' : j < vs.length := by omega
  refine ⟨vs[j], ?_, (h j hj' hj).alloc _⟩
  rw [Nat.zero_add]
  have e : (w.alloc (.cells cs t)).cell? ⟨w.heap.size, j, none⟩ = cs[j]? := World.cell?_alloc_new w _ _ j
  rw [e, ← Array.getElem?_toList, hcs, List.getElem?_eq_getElem hj']
theorem ps1 (w : World) (g : Nat) (hg : g = w.heap.size) {v : Value} {l : List Nat} (t : TypeId) (h : Bs w v l) : Ps (w.alloc (.cells #[v] t)) (.slice (some ⟨g, 0, none⟩) 1 1) [l] := by
  subst hg
  exact Ps.lit w [v] [l] t #[v] rfl rfl (by simp [maxLen]) (fun j h1 h2 => by
    match j, h1 with
    | 0, _ => exact h)
theorem ps2 (w : World) (g : Nat) (hg : g = w.heap.size) {v v2 : Value} {l l2 : List Nat} (t : TypeId) (h : Bs w v l) (h2 : Bs w v2 l2) : Ps (w.alloc (.cells #[v, v2] t)) (.slice (some ⟨g, 0, none⟩) 2 2) [l, l2] := by
  subst hg
  exact Ps.lit w [v, v2] [l, l2] t #[v, v2] rfl rfl (by simp [maxLen]) (fun j h1 _ => by
    match j, h1 with
    | 0, _ => exact h
    | 1, _ => exact h2)
theorem ps3 (w : World) (g : Nat) (hg : g = w.heap.size) {v v2 v3 : Value} {l l2 l3 : List Nat} (t : TypeId) (h : Bs w v l) (h2 : Bs w v2 l2) (h3 : Bs w v3 l3) : Ps (w.alloc (.cells #[v, v2, v3] t)) (.slice (some ⟨g, 0, none⟩) 3 3) [l, l2, l3] := by
  subst hg
  exact Ps.lit w [v, v2, v3] [l, l2, l3] t #[v, v2, v3] rfl rfl (by simp [maxLen]) (fun j h1 _ => by
    match j, h1 with
    | 0, _ => exact h
    | 1, _ => exact h2
    | 2, _ => exact h3)
theorem up {w w1 : World} (h : Below w.heap.size w w1) (o : Obj) : Below w.heap.size w (w1.alloc o) := h.alloc h.size o
theorem andThen {w w1 w2 : World} (h : Below w.heap.size w w1) (k : Below w1.heap.size w1 w2) : Below w.heap.size w w2 := h.trans (k.mono h.size)
theorem up0 (w : World) (o : Obj) : Below w.heap.size w (w.alloc o) := up (Below.refl _ _) o
end Wb
end Go.Proofs.YtdnackjakfiffaaGreatDoor

/-
  PLAIN MATHEMATICS OF THE NUMBERS, back: what is read is what is written.
-/
namespace Go.Proofs.YtdnackjakfiffaaGreatDoor
open Go Go.RowKit
open Wb

theorem rd_back : ∀ (l : List Nat) (i acc v n : Nat), ok l → i ≤ 9 → Wn.rd l i acc = (v, n, 0) →
    ∃ u, v = acc + u * 2 ^ (7 * i) ∧ n = i + (Wn.uint u).length ∧ l.take (Wn.uint u).length = Wn.uint u ∧ u * 2 ^ (7 * i) < 18446744073709551616 ∧ (0 < i → 0 < u) := by
  intro l
  induction l with
  | nil => intro i acc v n _ _ h; simp [Wn.rd] at h
  | cons c r ih =>
    intro i acc v n hok hi h
    have hc256 : c < 256 := hok c (by simp)
    by_cases h9 : i = 9 ∧ 1 < c
    · rw [Wn.rd_wide _ _ _ _ h9] at h; simp at h
    · by_cases hc : 128 ≤ c
      · rw [Wn.rd_more _ _ _ _ h9 hc] at h
        have hi8 : i + 1 ≤ 9 := by omega
        obtain ⟨u, hv, hn, ht, hb, hp⟩ := ih (i + 1) _ v n (fun x hx => hok x (by simp [hx])) hi8 h
        have hu := hp (by omega)
        have e1 : (c % 128 + 128 * u) / 128 = u := by omega
        have e2 : (c % 128 + 128 * u) % 128 = c % 128 := by omega
        have hbig := Wn.uint_big (c % 128 + 128 * u) (by omega)
        rw [e1, e2, show 128 + c % 128 = c by omega] at hbig
        have hsplit : (c % 128 + 128 * u) * 2 ^ (7 * i) = c % 128 * 2 ^ (7 * i) + u * (128 * 2 ^ (7 * i)) := by
          rw [Nat.add_mul, Nat.mul_comm 128 u, Nat.mul_assoc]
        refine ⟨c % 128 + 128 * u, ?_, ?_, ?_, ?_, fun _ => by omega⟩
        · rw [hv, Wn.pow_step, hsplit, Nat.add_assoc]
        · rw [hn, hbig, List.length_cons]; omega
        · rw [hbig, List.length_cons, List.take_succ_cons, ht]
        · rw [hsplit]
          rw [Wn.pow_step] at hb
          have hq : 18446744073709551616 = 2 ^ (64 - 7 * (i + 1)) * (128 * 2 ^ (7 * i)) := by
            rw [← Wn.pow_step, ← Nat.pow_add, show 64 - 7 * (i + 1) + 7 * (i + 1) = 64 by omega]
          rw [hq] at hb ⊢
          have hlt := Nat.lt_of_mul_lt_mul_right hb
          have hle : (u + 1) * (128 * 2 ^ (7 * i)) ≤ 2 ^ (64 - 7 * (i + 1)) * (128 * 2 ^ (7 * i)) := Nat.mul_le_mul_right _ hlt
          rw [Nat.add_mul, Nat.one_mul] at hle
          have h3 : c % 128 * 2 ^ (7 * i) < 128 * 2 ^ (7 * i) := Nat.mul_lt_mul_of_pos_right (by omega) (Nat.two_pow_pos _)
          omega
      · by_cases h0 : c = 0 ∧ 0 < i
        · rw [Wn.rd_min _ _ _ _ h0.1 h0.2] at h; simp at h
        · rw [Wn.rd_last _ _ _ _ h9 (by omega) h0, Nat.mod_eq_of_lt (by omega)] at h
          simp only [Prod.mk.injEq, and_true] at h
          have hs := Wn.uint_small c (by omega)
          refine ⟨c, h.1.symm, by rw [hs]; exact h.2.symm, by rw [hs]; simp, ?_, fun h1 => ?_⟩
          · by_cases hi9 : i = 9
            · subst hi9
              have : c ≤ 1 := by omega
              exact Nat.lt_of_le_of_lt (Nat.mul_le_mul_right (2 ^ (7 * 9)) this) (by decide)
            · have h1 : 2 ^ (7 * i) ≤ 2 ^ (7 * 8) := Nat.pow_le_pow_right (by decide) (by omega)
              exact Nat.lt_of_le_of_lt (Nat.mul_le_mul (show c ≤ 127 by omega) h1) (by decide)
          · rcases Nat.eq_zero_or_pos c with h2 | h2
            · exact absurd ⟨h2, h1⟩ h0
            · exact h2
/-- a number that is read at a place -/
theorem rd_back0 (l : List Nat) (v n : Nat) (hok : ok l) (h : Wn.rd l 0 0 = (v, n, 0)) : n = (Wn.uint v).length ∧ l.take n = Wn.uint v ∧ v < 18446744073709551616 := by
  obtain ⟨u, h1, h2, h3, h4, _⟩ := rd_back l 0 0 v n hok (by omega) h
  simp at h1 h2 h4
  subst h1
  subst h2
  exact ⟨rfl, h3, h4⟩

/-- a signed number as an unsigned one, and back -/
def zz (v : Int) : Nat := if 0 ≤ v then (2 * v).toNat else (-2 * v - 1).toNat
def uz (x : Nat) : Int := if x % 2 = 0 then ((x / 2 : Nat) : Int) else -((x / 2 : Nat) : Int) - 1
theorem zz_lt (v : Int) (h0 : -9223372036854775808 ≤ v) (h1 : v ≤ 9223372036854775807) : zz v < 18446744073709551616 := by
  unfold zz
  split <;> omega
theorem uz_zz (v : Int) : uz (zz v) = v := by
  unfold zz uz
  by_cases h : 0 ≤ v
  · rw [if_pos h, if_pos (by omega)]; omega
  · rw [if_neg h, if_neg (by omega)]; omega
theorem zz_uz (x : Nat) : zz (uz x) = x := by
  unfold zz uz
  by_cases h : x % 2 = 0
  · rw [if_pos h, if_pos (by omega)]; omega
  · rw [if_neg h, if_neg (by omega)]; omega
theorem uz_lt (x : Nat) (h : x < 18446744073709551616) : -9223372036854775808 ≤ uz x ∧ uz x ≤ 9223372036854775807 := by
  unfold uz
  split <;> omega
theorem zig_num (v : Int) (h0 : -9223372036854775808 ≤ v) (h1 : v ≤ 9223372036854775807) :
    bits .xor .u64 (IntKind.u64.wrap (IntKind.u64.wrap v * 2)) (IntKind.u64.wrap (v / 9223372036854775808)) = (zz v : Int) := by
  unfold zz
  by_cases h : 0 ≤ v
  · rw [if_pos h]
    have e1 : IntKind.u64.wrap (IntKind.u64.wrap v * 2) = (((2 * v).toNat : Nat) : Int) := by
      rw [IntKind.wrap_u64, IntKind.wrap_u64]; omega
    have e2 : IntKind.u64.wrap (v / 9223372036854775808) = ((0 : Nat) : Int) := by
      rw [IntKind.wrap_u64]; omega
    rw [e1, e2, bits_xor_u64_nat _ _ (by omega) (by decide), Nat.xor_zero]
  · rw [if_neg h]
    have e1 : IntKind.u64.wrap (IntKind.u64.wrap v * 2) = (((2 * v + 18446744073709551616).toNat : Nat) : Int) := by
      rw [IntKind.wrap_u64, IntKind.wrap_u64]; omega
    have e2 : IntKind.u64.wrap (v / 9223372036854775808) = ((2 ^ 64 - 1 : Nat) : Int) := by
      rw [IntKind.wrap_u64]; omega
    rw [e1, e2, bits_xor_u64_nat _ _ (by omega) (by decide), Nat.xor_comm, Lib.xor_ones64 _ (by omega)]
    omega
theorem xor_i64_comm (a b : Int) : bits .xor .i64 a b = bits .xor .i64 b a := by
  show IntKind.i64.wrap ((BitVec.ofInt 64 a ^^^ BitVec.ofInt 64 b).toNat : Int) = IntKind.i64.wrap ((BitVec.ofInt 64 b ^^^ BitVec.ofInt 64 a).toNat : Int)
  rw [BitVec.xor_comm]
theorem zag_num (x : Nat) (h : x < 18446744073709551616) : bits .xor .i64 (wrap64 ((x : Int) / 2)) (wrap64 (-wrap64 (bits .and .u64 (x : Int) 1))) = uz x := by
  have e0 : bits .and .u64 (x : Int) 1 = (x : Int) % 2 := Lib.u64_and1 x (by omega) (by omega)
  have e1 : wrap64 ((x : Int) / 2) = ((x / 2 : Nat) : Int) := by unfold wrap64; omega
  rw [e0, e1]
  unfold uz
  by_cases h2 : x % 2 = 0
  · rw [if_pos h2]
    have e2 : wrap64 (-wrap64 ((x : Int) % 2)) = ((0 : Nat) : Int) := by unfold wrap64; omega
    rw [e2]
    show IntKind.i64.wrap ((BitVec.ofInt 64 ((x / 2 : Nat) : Int) ^^^ BitVec.ofInt 64 ((0 : Nat) : Int)).toNat : Int) = _
    have h3 : (BitVec.ofInt 64 ((x / 2 : Nat) : Int)).toNat = x / 2 := by
      rw [BitVec.ofInt_natCast, BitVec.toNat_ofNat]; exact Nat.mod_eq_of_lt (by omega)
    have h4 : (BitVec.ofInt 64 ((0 : Nat) : Int)).toNat = 0 := by rw [BitVec.ofInt_natCast, BitVec.toNat_ofNat]
    rw [BitVec.toNat_xor, h3, h4, Nat.xor_zero, IntKind.wrap_i64]
    omega
  · rw [if_neg h2]
    have e2 : wrap64 (-wrap64 ((x : Int) % 2)) = -1 := by unfold wrap64; omega
    rw [e2, xor_i64_comm, Lib.i64_not _ (by omega)]

/-- ReadBytes' answer -/
def rb (l : List Nat) (p m : Int) : List Nat × Int × Nat :=
  if m < 0 then ([], 0, 1)
  else if (Wn.ru l p).2.2 ≠ 0 then ([], 0, (Wn.ru l p).2.2)
  else if m < ((Wn.ru l p).1 : Int) then ([], 0, 13)
  else if (l.length : Int) - (Wn.ru l p).2.1 < ((Wn.ru l p).1 : Int) then ([], 0, 10)
  else ((l.take ((Wn.ru l p).2.1.toNat + (Wn.ru l p).1)).drop (Wn.ru l p).2.1.toNat, (Wn.ru l p).2.1 + ((Wn.ru l p).1 : Int), 0)
end Go.Proofs.YtdnackjakfiffaaGreatDoor

/-
  The element types' rows of the table.
-/
namespace Go.Proofs.YtdnackjakfiffaaGreatDoor
open Go Go.RowKit
open Wb
theorem info5 : (Tryz.prog.info? 5).map (fun i => (i.zero, i.size, i.bytes)) = some (some (.int .u8 0), 1, 1) := by kernel_rfl
end Go.Proofs.YtdnackjakfiffaaGreatDoor

/-
  wire.Sum: the register over all bytes of all parts.
-/
namespace Go.Proofs.YtdnackjakfiffaaGreatDoor
open Go Go.RowKit
open Wb

/-- the walk's numbers -/
theorem num_x (S c : Nat) (hS : S < 4294967296) (hc : c < 256) : bits .xor .u32 (S : Int) (c : Int) = ((S ^^^ c : Nat) : Int) := u32_xor_nat S c hS (by omega)
theorem num_a (X : Nat) (hX : X < 4294967296) : bits .and .u32 (X : Int) 15 = ((X % 16 : Nat) : Int) := by
  have h := u32_and_nat X 15 hX (by decide)
  have e : X &&& 15 = X % 16 := Nat.and_two_pow_sub_one_eq_mod X 4
  rw [e] at h
  exact h
theorem num_s (X t Y : Nat) (hX : X < 4294967296) (ht : t = Wm.tab.getD (X % 16) 0) (hY : Y = Wm.step4 X) : bits .xor .u32 ((X : Int) / 16) (t : Int) = (Y : Int) := by
  rw [show ((X : Int) / 16) = ((X / 16 : Nat) : Int) by omega, hY, Wm.step4_tab, ← ht]
  have hl : ∀ m, m < 16 → Wm.tab.getD m 0 < 4294967296 := by decide
  exact u32_xor_nat (X / 16) t (by omega) (by rw [ht]; exact hl _ (Nat.mod_lt _ (by decide)))
theorem num_n (R : Nat) (hR : R < 4294967296) : bits .xor .u32 IntKind.u32.max (R : Int) = ((4294967295 ^^^ R : Nat) : Int) := u32_xor_nat 4294967295 R (by decide) hR

end Go.Proofs.YtdnackjakfiffaaGreatDoor

/-
  Package record: a record's value; apart; the reference's number.
-/
namespace Go.Proofs.YtdnackjakfiffaaGreatDoor
open Go Go.RowKit
open Wb

/-- a record's numbers -/
structure Nums where
  v : Int
  k : Int
  s : Int
  p : Int
  t : Int
  a : Int
  l : Int
  c : Int
  n : Int
  i : Int
deriving DecidableEq
/-- a record by value -/
def rv (x : Nums) (nm : ByteArray) (d : Value) : Value := .agg #[.int .i64 x.v, .int .i64 x.k, .int .i64 x.s, .int .i64 x.p, .int .i64 x.t, .int .i64 x.a, .int .i64 x.l, .int .i64 x.c, .int .i64 x.n, .int .i64 x.i, .string nm, d]
set_option maxRecDepth 100000 in
theorem apart_any (x : Nums) (nm : ByteArray) (ao : Option Addr) (n cap : Nat) (w : World) :
    Calls Tryz.prog 65 #[rv x nm (.slice ao n cap)] w fun e w' => e = .returned (.agg #[.int .i64 0, .int .i64 x.k, .int .i64 x.s, .int .i64 x.p, .int .i64 x.t, .int .i64 x.a, .int .i64 x.l, .int .i64 x.c, .int .i64 x.n, .int .i64 x.i, .string nm, .slice ao n cap]) ∧ Below w.heap.size w w' := by
  unfold rv
  go_enter Tryz.func65, Tryz.ntmps65
  go_wp2
  go_returns
  exact ⟨rfl, by go_grown⟩
/-- the number of a tag -/
def Nums.tag (x : Nums) (t : Nat) : Int := if t = 1 then x.k else if t = 2 then x.s else if t = 3 then x.p else if t = 4 then x.t else if t = 5 then x.a else if t = 6 then x.l else if t = 7 then x.c else if t = 8 then x.n else if t = 9 then x.i else 0
end Go.Proofs.YtdnackjakfiffaaGreatDoor

/-
  The small functions of package wire: outside, sumBytes, readSum, own; the law package's num, same.
-/
namespace Go.Proofs.YtdnackjakfiffaaGreatDoor
open Go Go.RowKit
open Wb

def le4 (s : Nat) : List Nat := [s % 256, s / 256 % 256, s / 65536 % 256, s / 16777216 % 256]
theorem le4_ok (s : Nat) : ok (le4 s) := by
  intro x hx
  simp [le4] at hx
  omega
end Go.Proofs.YtdnackjakfiffaaGreatDoor

/-
  wire: readSum, own, bodySize, Uint.
-/
namespace Go.Proofs.YtdnackjakfiffaaGreatDoor
open Go Go.RowKit
open Wb

theorem or_add (k a b : Nat) (ha : a < 2 ^ k) : a ||| (b * 2 ^ k) = a + b * 2 ^ k := by
  rw [Nat.mul_comm, Nat.or_comm, ← Nat.two_pow_add_eq_or_of_lt ha, Nat.add_comm]
theorem or4 (a b c d : Nat) (g0 : a < 256) (g1 : b < 256) (g2 : c < 256) (g3 : d < 256) :
    bits BinOp.or IntKind.u32 (bits BinOp.or IntKind.u32 (bits BinOp.or IntKind.u32 (a : Int) ((b : Int) * 256)) ((c : Int) * 65536)) ((d : Int) * 16777216) = ((a + 256 * b + 65536 * c + 16777216 * d : Nat) : Int) := by
  rw [show ((b : Int) * 256) = ((b * 2 ^ 8 : Nat) : Int) by omega, u32_or_nat a (b * 2 ^ 8) (by omega) (by omega), or_add 8 a b g0,
    show ((c : Int) * 65536) = ((c * 2 ^ 16 : Nat) : Int) by omega, u32_or_nat _ (c * 2 ^ 16) (by omega) (by omega), or_add 16 (a + b * 2 ^ 8) c (by omega),
    show ((d : Int) * 16777216) = ((d * 2 ^ 24 : Nat) : Int) by omega, u32_or_nat _ (d * 2 ^ 24) (by omega) (by omega), or_add 24 (a + b * 2 ^ 8 + c * 2 ^ 16) d (by omega)]
  omega

end Go.Proofs.YtdnackjakfiffaaGreatDoor

/-
  wire: Uint, ReadUint.
-/
namespace Go.Proofs.YtdnackjakfiffaaGreatDoor
open Go Go.RowKit
open Wb

theorem or128 (u : Nat) : bits .or .u8 ((u : Int) % 256) 128 = ((128 + u % 128 : Nat) : Int) := by
  rw [show ((u : Int) % 256) = ((u % 256 : Nat) : Int) by omega]
  have h0 := u8_or_nat (u % 256) 128 (by omega) (by decide)
  refine h0.trans ?_
  congr 1
  have h : (u % 256) ||| 128 = 128 + u % 128 := by
    have e : u % 256 = u % 128 + (u / 128 % 2) * 2 ^ 7 := by omega
    have hb : u % 128 < 2 ^ 7 := by omega
    rcases Nat.mod_two_eq_zero_or_one (u / 128) with h0 | h0
    · rw [e, h0]
      have := or_add 7 (u % 128) 1 hb
      simp at this ⊢
      omega
    · rw [e, h0, Nat.one_mul, ← Nat.one_mul (2 ^ 7), ← or_add 7 (u % 128) 1 hb, Nat.or_assoc]
      have e2 : (1 * 2 ^ 7 ||| 128 : Nat) = 1 * 2 ^ 7 := by decide
      rw [e2, or_add 7 (u % 128) 1 hb]
      omega
  exact h

end Go.Proofs.YtdnackjakfiffaaGreatDoor

/-
  wire: ReadUint.
-/
namespace Go.Proofs.YtdnackjakfiffaaGreatDoor
open Go Go.RowKit
open Wb

def tup3 (a : Nat) (b : Int) (c : Nat) : Value := .tuple #[.int .u64 (a : Int), .int .i64 b, .int .i64 (c : Int)]

theorem and127 (c : Nat) (hc : c < 256) : bits .and .u8 (c : Int) 127 = ((c % 128 : Nat) : Int) := by
  have h0 := u8_and_nat c 127 hc (by decide)
  have e : c &&& 127 = c % 128 := Nat.and_two_pow_sub_one_eq_mod c 7
  rw [e] at h0
  exact h0
theorem shift_or (acc c j : Nat) (hc : c < 256) (hacc : acc < 2 ^ (7 * j)) (hj : j ≤ 9) (h9 : j = 9 → c ≤ 1) :
    bits .or .u64 (acc : Int) (IntKind.u64.wrap (IntKind.u64.wrap (bits .and .u8 (c : Int) 127) * 2 ^ (7 * j))) = ((acc + c % 128 * 2 ^ (7 * j) : Nat) : Int) := by
  rw [and127 c hc]
  have hlt : c % 128 * 2 ^ (7 * j) < 18446744073709551616 := by
    by_cases h : j = 9
    · have := h9 h
      subst h
      have h3 : c % 128 ≤ 1 := by omega
      exact Nat.lt_of_le_of_lt (Nat.mul_le_mul_right (2 ^ (7 * 9)) h3) (by decide)
    · have h1 : 2 ^ (7 * j) ≤ 2 ^ (7 * 8) := Nat.pow_le_pow_right (by decide) (by omega)
      have h2 : c % 128 * 2 ^ (7 * j) ≤ 127 * 2 ^ (7 * 8) := Nat.mul_le_mul (by omega) h1
      exact Nat.lt_of_le_of_lt h2 (by decide)
  have hal : acc < 18446744073709551616 := by
    have h1 : 2 ^ (7 * j) ≤ 2 ^ (7 * 9) := Nat.pow_le_pow_right (by decide) (by omega)
    exact Nat.lt_trans (Nat.lt_of_lt_of_le hacc h1) (by decide)
  have w1 : IntKind.u64.wrap ((c % 128 : Nat) : Int) = ((c % 128 : Nat) : Int) := by rw [IntKind.wrap_u64]; omega
  have cast : ((c % 128 : Nat) : Int) * 2 ^ (7 * j) = ((c % 128 * 2 ^ (7 * j) : Nat) : Int) := by
    rw [Int.natCast_mul, Int.natCast_pow]
    rfl
  rw [w1, cast]
  have w2 : IntKind.u64.wrap ((c % 128 * 2 ^ (7 * j) : Nat) : Int) = ((c % 128 * 2 ^ (7 * j) : Nat) : Int) := by
    rw [IntKind.wrap_u64]
    omega
  rw [w2, u64_or_nat acc _ hal hlt, or_add (7 * j) acc (c % 128) hacc]

end Go.Proofs.YtdnackjakfiffaaGreatDoor

/-
  wire: ReadUint at any place; Frame.
-/
namespace Go.Proofs.YtdnackjakfiffaaGreatDoor
open Go Go.RowKit
open Wb

def fr (body : List Nat) : List Nat := Wn.uint body.length ++ body ++ le4 (Wm.crc (Wn.uint body.length ++ body)) ++ [165]

end Go.Proofs.YtdnackjakfiffaaGreatDoor

/-
  wire: Int, ReadInt, Bytes, ReadBytes.
-/
namespace Go.Proofs.YtdnackjakfiffaaGreatDoor
open Go Go.RowKit
open Wb

/-- ReadInt's answer -/
def ri (l : List Nat) (p : Int) : Int × Int × Nat := if (Wn.ru l p).2.2 ≠ 0 then (0, 0, (Wn.ru l p).2.2) else (uz (Wn.ru l p).1, (Wn.ru l p).2.1, 0)

theorem bsNil (w : World) (a : Addr) (c : Nat) (h : c ≤ maxLen) : Bs w (.slice (some a) 0 c) [] :=
  ⟨⟨some a, c, rfl, Nat.zero_le _, h, fun e => (by cases e), fun e => absurd rfl e⟩, ok_nil⟩
theorem rb_arg (l : List Nat) (p m : Int) (h : m < 0) : rb l p m = ([], 0, 1) := by unfold rb; rw [if_pos h]
end Go.Proofs.YtdnackjakfiffaaGreatDoor
