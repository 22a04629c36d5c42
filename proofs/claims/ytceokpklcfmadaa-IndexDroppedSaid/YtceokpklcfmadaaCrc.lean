/-
  PLAIN MATHEMATICS OF THE SUM: the register's step is linear over exclusive or; four steps are one look into the table.
-/
import Derived.KernelRfl
namespace Go.Proofs.Ytceokpklcfmadaa.Wm

def poly : Nat := 3988292384
def step (r : Nat) : Nat := if r % 2 = 1 then (r / 2) ^^^ poly else r / 2
def step4 (r : Nat) : Nat := step (step (step (step r)))
def feed (r c : Nat) : Nat := step4 (step4 (r ^^^ c))
def reg (r : Nat) (l : List Nat) : Nat := l.foldl feed r
def crc (l : List Nat) : Nat := 4294967295 ^^^ reg 4294967295 l
def tab : List Nat := [0, 498536548, 997073096, 651767980, 1994146192, 1802195444, 1303535960, 1342533948, 3988292384, 4027552580, 3604390888, 3412177804, 2607071920, 2262029012, 2685067896, 3183342108]

theorem xor_div2 (a b : Nat) : (a ^^^ b) / 2 = (a / 2) ^^^ (b / 2) := by
  apply Nat.eq_of_testBit_eq
  intro i
  simp [Nat.testBit_xor, Nat.testBit_div_two]
theorem xor_mod2 (a b : Nat) : (a ^^^ b) % 2 = (a % 2 + b % 2) % 2 := by
  have h : (a ^^^ b) % 2 ^ 1 = (a % 2 ^ 1) ^^^ (b % 2 ^ 1) := by
    apply Nat.eq_of_testBit_eq
    intro i
    simp only [Nat.testBit_xor, Nat.testBit_mod_two_pow]
    cases decide (i < 1) <;> simp
  simp only [Nat.pow_one] at h
  rw [h]
  rcases Nat.mod_two_eq_zero_or_one a with ha | ha <;> rcases Nat.mod_two_eq_zero_or_one b with hb | hb <;> simp [ha, hb]
theorem xor_self3 (a b p : Nat) : (a ^^^ p) ^^^ (b ^^^ p) = a ^^^ b := by
  apply Nat.eq_of_testBit_eq
  intro i
  simp only [Nat.testBit_xor]
  cases a.testBit i <;> cases b.testBit i <;> cases p.testBit i <;> rfl
theorem step_xor (a b : Nat) : step (a ^^^ b) = step a ^^^ step b := by
  unfold step
  rw [xor_div2, xor_mod2]
  rcases Nat.mod_two_eq_zero_or_one a with ha | ha <;> rcases Nat.mod_two_eq_zero_or_one b with hb | hb <;> simp [ha, hb]
  · exact (Nat.xor_assoc _ _ _)
  · rw [Nat.xor_assoc, Nat.xor_assoc, Nat.xor_comm (b / 2) poly]
  · exact (xor_self3 _ _ _).symm
theorem step4_xor (a b : Nat) : step4 (a ^^^ b) = step4 a ^^^ step4 b := by
  unfold step4; rw [step_xor, step_xor, step_xor, step_xor]
theorem xor_left_comm (a b c : Nat) : a ^^^ (b ^^^ c) = b ^^^ (a ^^^ c) := by
  rw [← Nat.xor_assoc, Nat.xor_comm a b, Nat.xor_assoc]
theorem feed_xor (a b x y : Nat) : feed (a ^^^ b) (x ^^^ y) = feed a x ^^^ feed b y := by
  unfold feed
  rw [← step4_xor, ← step4_xor]
  congr 2
  simp only [Nat.xor_assoc]
  rw [xor_left_comm b x y]
theorem step_double (q : Nat) : step (2 * q) = q := by
  unfold step
  rw [if_neg (by omega)]
  omega
theorem step4_16 (q : Nat) : step4 (16 * q) = q := by
  unfold step4
  rw [show 16 * q = 2 * (2 * (2 * (2 * q))) by omega, step_double, step_double, step_double, step_double]
theorem split16 (r : Nat) : r = (16 * (r / 16)) ^^^ (r % 16) := by
  have h : 2 ^ 4 * (r / 16) ^^^ (r % 16) = 2 ^ 4 * (r / 16) + r % 16 := by
    have := Nat.two_pow_add_eq_or_of_lt (i := 4) (b := r % 16) (by omega) (r / 16)
    rw [this]
    apply Nat.eq_of_testBit_eq
    intro i
    rw [Nat.testBit_xor, Nat.testBit_or, Nat.testBit_two_pow_mul]
    by_cases hi : 4 ≤ i
    · have : (r % 16).testBit i = false := Nat.testBit_lt_two_pow (Nat.lt_of_lt_of_le (show r % 16 < 2 ^ 4 by omega) (Nat.pow_le_pow_right (by decide) hi))
      simp [this]
    · simp [hi]
  have e : (2 : Nat) ^ 4 = 16 := rfl
  rw [e] at h
  omega
theorem tab_all : ∀ m, m < 16 → step4 m = tab.getD m 0 := by decide
theorem step4_tab (r : Nat) : step4 r = (r / 16) ^^^ tab.getD (r % 16) 0 := by
  have h := congrArg step4 (split16 r)
  rw [step4_xor, step4_16, tab_all (r % 16) (by omega)] at h
  exact h
theorem step_lt (r : Nat) (h : r < 4294967296) : step r < 4294967296 := by
  unfold step
  split
  · exact Nat.xor_lt_two_pow (n := 32) (by omega) (by decide)
  · omega
theorem step4_lt (r : Nat) (h : r < 4294967296) : step4 r < 4294967296 := step_lt _ (step_lt _ (step_lt _ (step_lt _ h)))
theorem xor_lt (a b : Nat) (ha : a < 4294967296) (hb : b < 4294967296) : a ^^^ b < 4294967296 := Nat.xor_lt_two_pow (n := 32) ha hb
theorem feed_lt (r c : Nat) (h : r < 4294967296) (hc : c < 256) : feed r c < 4294967296 :=
  step4_lt _ (step4_lt _ (xor_lt _ _ h (by omega)))
theorem reg_lt (l : List Nat) : ∀ r, r < 4294967296 → (∀ x ∈ l, x < 256) → reg r l < 4294967296 := by
  induction l with
  | nil => intro r h _; exact h
  | cons c l ih => intro r h hl; exact ih _ (feed_lt r c h (hl c (by simp))) (fun x hx => hl x (by simp [hx]))
theorem crc_lt (l : List Nat) (hl : ∀ x ∈ l, x < 256) : crc l < 4294967296 := xor_lt _ _ (by decide) (reg_lt l _ (by decide) hl)
theorem reg_append (r : Nat) (a b : List Nat) : reg r (a ++ b) = reg (reg r a) b := by unfold reg; rw [List.foldl_append]
theorem reg_snoc (r : Nat) (a : List Nat) (c : Nat) : reg r (a ++ [c]) = feed (reg r a) c := by rw [reg_append]; rfl

def xor3 : List Nat → List Nat → List Nat → List Nat
  | a :: x, b :: y, c :: z => (a ^^^ b ^^^ c) :: xor3 x y z
  | _, _, _ => []
theorem reg_xor3 : ∀ (x y z : List Nat) (a b c : Nat), x.length = y.length → x.length = z.length → reg (a ^^^ b ^^^ c) (xor3 x y z) = reg a x ^^^ reg b y ^^^ reg c z
  | [], [], [], _, _, _, _, _ => rfl
  | p :: x, q :: y, s :: z, a, b, c, h1, h2 => by
    have ih := reg_xor3 x y z (feed a p) (feed b q) (feed c s) (by simpa using h1) (by simpa using h2)
    show reg (feed (a ^^^ b ^^^ c) (p ^^^ q ^^^ s)) (xor3 x y z) = _
    rw [feed_xor, feed_xor]
    exact ih
  | [], _ :: _, _, _, _, _, h, _ => by simp at h
  | _ :: _, [], _, _, _, _, h, _ => by simp at h
  | [], [], _ :: _, _, _, _, _, h => by simp at h
  | _ :: _, _ :: _, [], _, _, _, _, h => by simp at h
theorem crc_xor3 (x y z : List Nat) (h1 : x.length = y.length) (h2 : x.length = z.length) : crc (xor3 x y z) = crc x ^^^ crc y ^^^ crc z := by
  unfold crc
  have h := reg_xor3 x y z 4294967295 4294967295 4294967295 h1 h2
  have e : (4294967295 : Nat) ^^^ 4294967295 ^^^ 4294967295 = 4294967295 := by decide
  rw [e] at h
  rw [h]
  apply Nat.eq_of_testBit_eq
  intro i
  simp only [Nat.testBit_xor]
  generalize (4294967295 : Nat).testBit i = p
  generalize Nat.testBit (reg 4294967295 x) i = u
  generalize Nat.testBit (reg 4294967295 y) i = v
  generalize Nat.testBit (reg 4294967295 z) i = t
  cases p <;> cases u <;> cases v <;> cases t <;> rfl

end Go.Proofs.Ytceokpklcfmadaa.Wm
