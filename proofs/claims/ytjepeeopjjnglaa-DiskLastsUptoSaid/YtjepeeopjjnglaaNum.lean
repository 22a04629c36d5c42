/-
  PLAIN MATHEMATICS OF THE NUMBERS: groups of seven bits, lowest first.
-/
import Derived.KernelRfl
namespace Go.Proofs.Ytjepeeopjjnglaa.Wn

def encF : Nat → Nat → List Nat
  | 0, v => [v]
  | f + 1, v => if v < 128 then [v] else (128 + v % 128) :: encF f (v / 128)
def uint (v : Nat) : List Nat := encF v v
theorem encF_eq : ∀ (f g v : Nat), v ≤ f → v ≤ g → encF f v = encF g v
  | 0, 0, _, _, _ => rfl
  | 0, g + 1, v, h, _ => by
    obtain rfl : v = 0 := by omega
    simp [encF]
  | f + 1, 0, v, _, h => by
    obtain rfl : v = 0 := by omega
    simp [encF]
  | f + 1, g + 1, v, h1, h2 => by
    unfold encF
    by_cases hv : v < 128
    · simp [hv]
    · simp only [hv, if_false]
      rw [encF_eq f g (v / 128) (by omega) (by omega)]
theorem uint_small (v : Nat) (h : v < 128) : uint v = [v] := by
  unfold uint
  cases v with
  | zero => rfl
  | succ n => simp [encF, h]
theorem uint_big (v : Nat) (h : 128 ≤ v) : uint v = (128 + v % 128) :: uint (v / 128) := by
  unfold uint
  cases v with
  | zero => omega
  | succ n =>
    rw [encF, if_neg (by omega), encF_eq n ((n + 1) / 128) ((n + 1) / 128) (by omega) (Nat.le_refl _)]
theorem uint_ok : ∀ (f v : Nat), v ≤ f → ∀ x ∈ uint v, x < 256
  | 0, v, h => by
    obtain rfl : v = 0 := by omega
    intro x hx
    rw [uint_small 0 (by decide)] at hx
    simp at hx
    omega
  | f + 1, v, h => by
    intro x hx
    by_cases hv : v < 128
    · rw [uint_small v hv] at hx
      simp at hx
      omega
    · rw [uint_big v (by omega)] at hx
      rcases List.mem_cons.1 hx with rfl | hx
      · omega
      · exact uint_ok f (v / 128) (by omega) x hx
theorem uint_pos (v : Nat) : 0 < (uint v).length := by
  by_cases hv : v < 128
  · rw [uint_small v hv]; simp
  · rw [uint_big v (by omega)]; simp
theorem uint_len : ∀ (k v : Nat), v < 128 ^ (k + 1) → (uint v).length ≤ k + 1
  | 0, v, h => by
    rw [uint_small v (by simpa using h)]
    simp
  | k + 1, v, h => by
    by_cases hv : v < 128
    · rw [uint_small v hv]; simp
    · rw [uint_big v (by omega)]
      have := uint_len k (v / 128) (by
        apply Nat.div_lt_of_lt_mul
        rw [Nat.mul_comm, ← Nat.pow_succ]
        exact h)
      simp
      omega
theorem uint_len10 (v : Nat) (h : v < 18446744073709551616) : (uint v).length ≤ 10 :=
  uint_len 9 v (Nat.lt_of_lt_of_le h (by decide))
theorem uint_len3 (v : Nat) (h : v ≤ 1048576) : (uint v).length ≤ 3 :=
  uint_len 2 v (Nat.lt_of_le_of_lt h (by decide))

/-- reading: the bytes that are left, their place, what has been read; the number, how many bytes, the error -/
def rd : List Nat → Nat → Nat → Nat × Nat × Nat
  | [], _, _ => (0, 0, 10)
  | c :: r, i, v =>
    if i = 9 ∧ 1 < c then (0, 0, 12)
    else if 128 ≤ c then rd r (i + 1) (v + c % 128 * 2 ^ (7 * i))
    else if c = 0 ∧ 0 < i then (0, 0, 11)
    else (v + c % 128 * 2 ^ (7 * i), i + 1, 0)

theorem pow_step (i : Nat) : 2 ^ (7 * (i + 1)) = 128 * 2 ^ (7 * i) := by
  rw [Nat.mul_add, Nat.mul_one, Nat.pow_add, Nat.mul_comm]

theorem rd_uint : ∀ (f v : Nat) (i acc : Nat) (rest : List Nat), v ≤ f → v * 2 ^ (7 * i) < 18446744073709551616 → (0 < i → 0 < v) →
    rd (uint v ++ rest) i acc = (acc + v * 2 ^ (7 * i), i + (uint v).length, 0) := by
  intro f
  induction f with
  | zero =>
    intro v i acc rest hf hlt hpos
    obtain rfl : v = 0 := by omega
    have hi : i = 0 := by
      rcases Nat.eq_zero_or_pos i with h | h
      · exact h
      · have := hpos h; omega
    subst hi
    simp [uint_small 0 (by decide), rd]
  | succ f ih =>
    intro v i acc rest hf hlt hpos
    have hP : 0 < 2 ^ (7 * i) := Nat.two_pow_pos _
    by_cases hv : v < 128
    · rw [uint_small v hv]
      have h9 : ¬ (i = 9 ∧ 1 < v) := by
        rintro ⟨rfl, h1⟩
        have : 2 * 2 ^ (7 * 9) ≤ v * 2 ^ (7 * 9) := Nat.mul_le_mul_right _ h1
        have e : 2 * 2 ^ (7 * 9) = 18446744073709551616 := by decide
        omega
      have h0 : ¬ (v = 0 ∧ 0 < i) := by
        rintro ⟨h1, h2⟩
        have := hpos h2
        omega
      simp only [List.cons_append, List.nil_append, rd, if_neg h9, if_neg (show ¬ 128 ≤ v by omega), if_neg h0, Nat.mod_eq_of_lt hv]
      rfl
    · rw [uint_big v (by omega)]
      have h9 : ¬ (i = 9 ∧ 1 < 128 + v % 128) := by
        rintro ⟨rfl, _⟩
        have : 128 * 2 ^ (7 * 9) ≤ v * 2 ^ (7 * 9) := Nat.mul_le_mul_right _ (by omega)
        have e : 18446744073709551616 ≤ 128 * 2 ^ (7 * 9) := by decide
        omega
      have hm : (128 + v % 128) % 128 = v % 128 := by omega
      have hdec : v = 128 * (v / 128) + v % 128 := (Nat.div_add_mod v 128).symm
      have hsplit : v * 2 ^ (7 * i) = v % 128 * 2 ^ (7 * i) + v / 128 * (128 * 2 ^ (7 * i)) := by
        have h1 : v * 2 ^ (7 * i) = (128 * (v / 128) + v % 128) * 2 ^ (7 * i) := congrArg (· * 2 ^ (7 * i)) hdec
        rw [h1, Nat.add_mul, Nat.add_comm, Nat.mul_comm 128 (v / 128), Nat.mul_assoc]
      have hle : v / 128 * 2 ^ (7 * (i + 1)) < 18446744073709551616 := by
        rw [pow_step]
        omega
      have := ih (v / 128) (i + 1) (acc + v % 128 * 2 ^ (7 * i)) rest (by omega) hle (fun _ => by omega)
      simp only [List.cons_append, rd, if_neg h9, if_pos (show 128 ≤ 128 + v % 128 by omega), hm]
      rw [this, pow_step, hsplit]
      simp only [List.length_cons, Prod.mk.injEq, and_true]
      omega

/-- a number that is read at the beginning -/
theorem rd_uint0 (v : Nat) (rest : List Nat) (h : v < 18446744073709551616) : rd (uint v ++ rest) 0 0 = (v, (uint v).length, 0) := by
  have := rd_uint v v 0 0 rest (Nat.le_refl _) (by simpa using h) (by omega)
  simpa using this

theorem rd_wide (c : Nat) (r : List Nat) (i v : Nat) (h : i = 9 ∧ 1 < c) : rd (c :: r) i v = (0, 0, 12) := by rw [rd, if_pos h]
theorem rd_more (c : Nat) (r : List Nat) (i v : Nat) (h : ¬ (i = 9 ∧ 1 < c)) (hc : 128 ≤ c) : rd (c :: r) i v = rd r (i + 1) (v + c % 128 * 2 ^ (7 * i)) := by rw [rd, if_neg h, if_pos hc]
theorem rd_min (c : Nat) (r : List Nat) (i v : Nat) (h : c = 0) (hi : 0 < i) : rd (c :: r) i v = (0, 0, 11) := by rw [rd, if_neg (by omega), if_neg (by omega), if_pos ⟨h, hi⟩]
theorem rd_last (c : Nat) (r : List Nat) (i v : Nat) (h : ¬ (i = 9 ∧ 1 < c)) (hc : c < 128) (h0 : ¬ (c = 0 ∧ 0 < i)) : rd (c :: r) i v = (v + c % 128 * 2 ^ (7 * i), i + 1, 0) := by
  rw [rd, if_neg h, if_neg (by omega), if_neg h0]

theorem rd_len : ∀ (l : List Nat) (i acc v n : Nat), rd l i acc = (v, n, 0) → n ≤ i + l.length ∧ i < n := by
  intro l
  induction l with
  | nil => intro i acc v n h; simp [rd] at h
  | cons c r ih =>
    intro i acc v n h
    by_cases h9 : i = 9 ∧ 1 < c
    · rw [rd_wide _ _ _ _ h9] at h; simp at h
    · by_cases hc : 128 ≤ c
      · rw [rd_more _ _ _ _ h9 hc] at h
        have := ih _ _ _ _ h
        simp
        omega
      · by_cases h0 : c = 0 ∧ 0 < i
        · rw [rd_min _ _ _ _ h0.1 h0.2] at h; simp at h
        · rw [rd_last _ _ _ _ h9 (by omega) h0] at h
          simp at h
          simp
          omega
theorem rd_err : ∀ (l : List Nat) (i acc v n e : Nat), rd l i acc = (v, n, e) → e ≠ 0 → v = 0 ∧ n = 0 ∧ e ≤ 12 := by
  intro l
  induction l with
  | nil => intro i acc v n e h _; simp [rd] at h; omega
  | cons c r ih =>
    intro i acc v n e h he
    by_cases h9 : i = 9 ∧ 1 < c
    · rw [rd_wide _ _ _ _ h9] at h; simp at h; omega
    · by_cases hc : 128 ≤ c
      · rw [rd_more _ _ _ _ h9 hc] at h
        exact ih _ _ _ _ _ h he
      · by_cases h0 : c = 0 ∧ 0 < i
        · rw [rd_min _ _ _ _ h0.1 h0.2] at h; simp at h; omega
        · rw [rd_last _ _ _ _ h9 (by omega) h0] at h
          simp at h
          omega

/-- ReadUint's answer -/
def ru (l : List Nat) (p : Int) : Nat × Int × Nat :=
  if p < 0 ∨ (l.length : Int) < p then (0, 0, 1)
  else ((rd (l.drop p.toNat) 0 0).1, (if (rd (l.drop p.toNat) 0 0).2.2 = 0 then p + ((rd (l.drop p.toNat) 0 0).2.1 : Int) else 0), (rd (l.drop p.toNat) 0 0).2.2)
theorem ru_out (l : List Nat) (p : Int) (h : p < 0 ∨ (l.length : Int) < p) : ru l p = (0, 0, 1) := by
  unfold ru
  rw [if_pos h]
theorem ru_in (l : List Nat) (p : Nat) (h : p ≤ l.length) (v n e : Nat) (hr : rd (l.drop p) 0 0 = (v, n, e)) : ru l (p : Int) = (v, (if e = 0 then ((p + n : Nat) : Int) else 0), e) := by
  unfold ru
  rw [if_neg (by omega), show ((p : Int)).toNat = p by omega, hr]
  simp
/-- the two ways of an answer -/
theorem ru_cases (l : List Nat) (p : Int) : (∃ e, e ≠ 0 ∧ e ≤ 12 ∧ ru l p = (0, 0, e)) ∨ ∃ q v n : Nat, p = (q : Int) ∧ q + n ≤ l.length ∧ 0 < n ∧ rd (l.drop q) 0 0 = (v, n, 0) ∧ ru l p = (v, ((q + n : Nat) : Int), 0) := by
  by_cases ho : p < 0 ∨ (l.length : Int) < p
  · exact .inl ⟨1, by decide, by decide, ru_out l p ho⟩
  · obtain ⟨q, rfl⟩ := Int.eq_ofNat_of_zero_le (show 0 ≤ p by omega)
    obtain ⟨v, n, e, hr⟩ : ∃ v n e, rd (l.drop q) 0 0 = (v, n, e) := ⟨_, _, _, rfl⟩
    have hu := ru_in l q (by omega) v n e hr
    by_cases he : e = 0
    · subst he
      have h1 := rd_len _ _ _ _ _ hr
      rw [List.length_drop] at h1
      exact .inr ⟨q, v, n, rfl, by omega, by omega, hr, by simpa using hu⟩
    · obtain ⟨rfl, rfl, h3⟩ := rd_err _ _ _ _ _ _ hr he
      rw [if_neg he] at hu
      exact .inl ⟨e, he, h3, hu⟩
end Go.Proofs.Ytjepeeopjjnglaa.Wn
