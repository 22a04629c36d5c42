/-
  PLAIN MATHEMATICS OF A BURST: bits turned over within 32 that lie beside one another are told by the sum.
-/
import Derived.Test.YtnglcadhleefiaaDoorFrm
namespace Go.Proofs.YtnglcadhleefiaaDoor
open Wb

/-- bytes with the bits of a number laid over them, lowest first -/
def xorL : List Nat → Nat → List Nat
  | [], _ => []
  | c :: l, X => (c ^^^ X % 256) :: xorL l (X / 256)
theorem xorL_length : ∀ (l : List Nat) (X : Nat), (xorL l X).length = l.length
  | [], _ => rfl
  | c :: l, X => by simp [xorL, xorL_length l]
theorem xorL_zero : ∀ (l : List Nat), xorL l 0 = l
  | [] => rfl
  | c :: l => by simp [xorL, xorL_zero l]
theorem xorL_ok : ∀ (l : List Nat) (X : Nat), ok l → ok (xorL l X)
  | [], _, h => h
  | c :: l, X, h => by
    intro x hx
    rcases List.mem_cons.1 hx with rfl | hx
    · exact Nat.xor_lt_two_pow (n := 8) (h c (by simp)) (by omega)
    · exact xorL_ok l (X / 256) (fun y hy => h y (by simp [hy])) x hx
theorem xorL_append : ∀ (a b : List Nat) (X : Nat), xorL (a ++ b) X = xorL a X ++ xorL b (X / 2 ^ (8 * a.length))
  | [], b, X => by simp [xorL]
  | c :: a, b, X => by
    simp only [List.cons_append, xorL]
    rw [xorL_append a b (X / 256), Nat.div_div_eq_div_mul]
    congr 4
    rw [List.length_cons, Nat.mul_add, Nat.pow_add, Nat.mul_comm]
theorem xorL_mul : ∀ (a : List Nat) (Y : Nat), xorL a (Y * 2 ^ (8 * a.length)) = a
  | [], _ => rfl
  | c :: a, Y => by
    have e : Y * 2 ^ (8 * (c :: a).length) = 256 * (Y * 2 ^ (8 * a.length)) := by
      rw [List.length_cons, Nat.mul_add, Nat.pow_add, ← Nat.mul_assoc, Nat.mul_comm]
    rw [e, xorL, Nat.mul_mod_right, Nat.mul_div_cancel_left _ (by decide), xorL_mul a Y]
    simp
theorem xor_mod256 (a b : Nat) : (a ^^^ b) % 256 = (a % 256) ^^^ (b % 256) := by
  apply Nat.eq_of_testBit_eq
  intro i
  rw [show 256 = 2 ^ 8 from rfl, Nat.testBit_mod_two_pow, Nat.testBit_xor, Nat.testBit_xor, Nat.testBit_mod_two_pow, Nat.testBit_mod_two_pow]
  by_cases h : i < 8 <;> simp [h]
theorem xor_div256 (a b : Nat) : (a ^^^ b) / 256 = (a / 256) ^^^ (b / 256) := by
  have h : ∀ x : Nat, x / 256 = x >>> 8 := fun x => (Nat.shiftRight_eq_div_pow x 8).symm
  rw [h, h, h]
  apply Nat.eq_of_testBit_eq
  intro i
  simp [Nat.testBit_xor]
/-- one bit more -/
theorem xorL_flip : ∀ (l : List Nat) (X j b : Nat), b < 8 → (h : j < l.length) → xorL l (X ^^^ 2 ^ (8 * j + b)) = (xorL l X).set j ((xorL l X).getD j 0 ^^^ 2 ^ b)
  | c :: l, X, 0, b, hb, _ => by
    have hlt : 2 ^ b < 256 := Nat.pow_lt_pow_right (by decide) hb
    simp only [xorL, Nat.mul_zero, Nat.zero_add, List.set_cons_zero, List.getD_cons_zero]
    rw [xor_mod256, xor_div256, Nat.mod_eq_of_lt hlt, Nat.div_eq_of_lt hlt, Nat.xor_zero, Nat.xor_assoc]
  | c :: l, X, j + 1, b, hb, h => by
    have e : 2 ^ (8 * (j + 1) + b) = 256 * 2 ^ (8 * j + b) := by
      rw [show 8 * (j + 1) + b = 8 + (8 * j + b) by omega, Nat.pow_add]
    simp only [xorL, List.set_cons_succ, List.getD_cons_succ]
    rw [xor_mod256, xor_div256, e, Nat.mul_mod_right, Nat.mul_div_cancel_left _ (by decide), Nat.xor_zero]
    rw [xorL_flip l (X / 256) j b hb (by simpa using h)]

/-- many steps -/
def steps : Nat → Nat → Nat
  | 0, r => r
  | k + 1, r => steps k (Wm.step r)
theorem steps_add : ∀ (a b r : Nat), steps (a + b) r = steps b (steps a r)
  | 0, b, r => by simp [steps]
  | a + 1, b, r => by rw [show a + 1 + b = (a + b) + 1 by omega]; exact steps_add a b (Wm.step r)
theorem steps_mul : ∀ (k m : Nat), steps k (m * 2 ^ k) = m
  | 0, m => by simp [steps]
  | k + 1, m => by
    have e : m * 2 ^ (k + 1) = 2 * (m * 2 ^ k) := by rw [Nat.pow_succ, ← Nat.mul_assoc, Nat.mul_comm]
    rw [e, steps, Wm.step_double, steps_mul k m]
theorem step_ne (r : Nat) (h : r < 4294967296) (h0 : r ≠ 0) : Wm.step r ≠ 0 := by
  unfold Wm.step
  split
  · intro e
    have e2 : r / 2 = Wm.poly := by
      have h1 : (r / 2 ^^^ Wm.poly) ^^^ Wm.poly = 0 ^^^ Wm.poly := by rw [e]
      rwa [Nat.xor_assoc, Nat.xor_self, Nat.xor_zero, Nat.zero_xor] at h1
    unfold Wm.poly at e2
    omega
  · omega
theorem steps_ne : ∀ (k r : Nat), r < 4294967296 → r ≠ 0 → steps k r ≠ 0
  | 0, _, _, h0 => h0
  | k + 1, r, h, h0 => steps_ne k _ (Wm.step_lt r h) (step_ne r h h0)
theorem steps_burst (k m f : Nat) (hm : m < 4294967296) (h0 : m ≠ 0) : steps k (m * 2 ^ f) ≠ 0 := by
  by_cases hk : k ≤ f
  · have e : m * 2 ^ f = (m * 2 ^ (f - k)) * 2 ^ k := by rw [Nat.mul_assoc, ← Nat.pow_add, show f - k + k = f by omega]
    rw [e, steps_mul]
    have : 0 < 2 ^ (f - k) := Nat.two_pow_pos _
    exact Nat.ne_of_gt (Nat.mul_pos (Nat.pos_of_ne_zero h0) this)
  · rw [show k = f + (k - f) by omega, steps_add, steps_mul]
    exact steps_ne _ _ hm h0
theorem steps_xor : ∀ (k a b : Nat), steps k (a ^^^ b) = steps k a ^^^ steps k b
  | 0, _, _ => rfl
  | k + 1, a, b => by rw [steps, Wm.step_xor, steps_xor k, steps, steps]
theorem feed_steps (r c : Nat) : Wm.feed r c = steps 8 (r ^^^ c) := rfl

theorem split256 (X : Nat) : X = (X % 256) ^^^ (256 * (X / 256)) := by
  have h : 2 ^ 8 * (X / 256) ^^^ (X % 256) = 2 ^ 8 * (X / 256) + X % 256 := by
    have h1 := Nat.two_pow_add_eq_or_of_lt (i := 8) (b := X % 256) (by omega) (X / 256)
    rw [h1]
    apply Nat.eq_of_testBit_eq
    intro i
    rw [Nat.testBit_xor, Nat.testBit_or, Nat.testBit_two_pow_mul]
    by_cases hi : 8 ≤ i
    · have : (X % 256).testBit i = false := Nat.testBit_lt_two_pow (Nat.lt_of_lt_of_le (show X % 256 < 2 ^ 8 by omega) (Nat.pow_le_pow_right (by decide) hi))
      simp [this]
    · simp [hi]
  rw [Nat.xor_comm, show (256 : Nat) * (X / 256) = 2 ^ 8 * (X / 256) from rfl, h]
  omega
/-- the register over laid bytes -/
theorem reg_xorL : ∀ (l : List Nat) (a X : Nat), Wm.reg a (xorL l X) = Wm.reg a l ^^^ (steps (8 * l.length) X ^^^ X / 2 ^ (8 * l.length))
  | [], a, X => by
    show a = a ^^^ (X ^^^ X / 1)
    rw [Nat.div_one, Nat.xor_self, Nat.xor_zero]
  | c :: l, a, X => by
    have ih := reg_xorL l (Wm.feed a (c ^^^ X % 256)) (X / 256)
    have hf : Wm.feed a (c ^^^ X % 256) = Wm.feed a c ^^^ steps 8 (X % 256) := by
      rw [feed_steps, feed_steps, ← Nat.xor_assoc, steps_xor]
    have e8 : 8 * (c :: l).length = 8 + 8 * l.length := by rw [List.length_cons]; omega
    have hX : steps 8 X = steps 8 (X % 256) ^^^ X / 256 := by
      have h1 := congrArg (steps 8) (split256 X)
      rw [steps_xor, show 256 * (X / 256) = (X / 256) * 2 ^ 8 by omega, steps_mul] at h1
      exact h1
    have hreg : Wm.reg (Wm.feed a c ^^^ steps 8 (X % 256)) l = Wm.reg (Wm.feed a c) l ^^^ steps (8 * l.length) (steps 8 (X % 256)) := reg_lin l _ _
    show Wm.reg (Wm.feed a (c ^^^ X % 256)) (xorL l (X / 256)) = Wm.reg (Wm.feed a c) l ^^^ _
    rw [ih, hf, hreg, e8, steps_add, hX, steps_xor, Nat.div_div_eq_div_mul, ← show (2 : Nat) ^ (8 + 8 * l.length) = 256 * 2 ^ (8 * l.length) by rw [Nat.pow_add]]
    simp only [Nat.xor_assoc]
where
  reg_lin : ∀ (l : List Nat) (a b : Nat), Wm.reg (a ^^^ b) l = Wm.reg a l ^^^ steps (8 * l.length) b
    | [], _, _ => rfl
    | c :: l, a, b => by
      have e8 : 8 * (c :: l).length = 8 + 8 * l.length := by rw [List.length_cons]; omega
      have hf : Wm.feed (a ^^^ b) c = Wm.feed a c ^^^ steps 8 b := by
        rw [feed_steps, feed_steps, Nat.xor_assoc, Nat.xor_comm b c, ← Nat.xor_assoc, steps_xor]
      show Wm.reg (Wm.feed (a ^^^ b) c) l = Wm.reg (Wm.feed a c) l ^^^ _
      rw [hf, reg_lin l, e8, steps_add]

theorem le4_xor (s D : Nat) : xorL (le4 s) D = le4 (s ^^^ D) := by
  have e2 : ∀ x : Nat, x / 65536 = x / 256 / 256 := fun x => by omega
  have e3 : ∀ x : Nat, x / 16777216 = x / 256 / 256 / 256 := fun x => by omega
  unfold le4
  simp only [xorL, e2, e3, xor_div256, xor_mod256]
theorem sum4_xor (s D : Nat) (hs : s < 4294967296) (hD : D < 4294967296) (r : List Nat) : sum4 (xorL (le4 s) D ++ r) = s ^^^ D := by
  rw [le4_xor]
  exact le4_sum _ (Wm.xor_lt _ _ hs hD) r

/-- the frame with bits turned over -/
theorem rf_burst (body : List Nat) (m f : Nat) (hb : ok body) (h0 : 0 < body.length) (h1 : body.length ≤ 1048576) (hm : m < 4294967296) (hm0 : m ≠ 0)
    (hM : m * 2 ^ ((8 * (Wn.uint body.length).length) + f) < 2 ^ (8 * ((fr body).length - 1))) :
    rf (xorL (fr body) (m * 2 ^ ((8 * (Wn.uint body.length).length) + f))) 0 = ([], 0, 16) := by
  have hfl := fr_length body
  generalize hU : Wn.uint body.length = U at *
  have hgood : ok (U ++ body) := by rw [← hU]; exact ok_append (uint_okW _) hb
  generalize hS : Wm.crc (U ++ body) = s at *
  have hs : s < 4294967296 := by rw [← hS]; exact Wm.crc_lt _ hgood
  have e0 : fr body = U ++ (body ++ (le4 s ++ [165])) := by unfold fr; rw [hU, hS]; simp
  generalize hX : m * 2 ^ (8 * U.length + f) = X at *
  have hXU : X = (m * 2 ^ f) * 2 ^ (8 * U.length) := by rw [← hX, Nat.mul_assoc, ← Nat.pow_add, Nat.add_comm f]
  have hXne : ∀ k, steps k X ≠ 0 := fun k => by rw [← hX]; exact steps_burst k m _ hm hm0
  -- the pieces
  have p1 : xorL (fr body) X = U ++ xorL (body ++ (le4 s ++ [165])) (m * 2 ^ f) := by
    rw [e0, xorL_append, hXU, xorL_mul, Nat.mul_div_cancel _ (Nat.two_pow_pos _)]
  have hflen : (fr body).length - 1 = (U ++ body).length + 4 := by rw [hfl, List.length_append]; omega
  have p2 : xorL (fr body) X = xorL (U ++ body) X ++ (xorL (le4 s) (X / 2 ^ (8 * (U ++ body).length)) ++ [165]) := by
    have hD : X / 2 ^ (8 * (U ++ body).length) / 2 ^ (8 * (le4 s).length) = 0 := by
      rw [Nat.div_div_eq_div_mul, ← Nat.pow_add]
      apply Nat.div_eq_of_lt
      rw [hflen] at hM
      exact Nat.lt_of_lt_of_le hM (Nat.pow_le_pow_right (by decide) (by simp [le4]; omega))
    rw [e0, ← List.append_assoc U body, xorL_append (U ++ body), xorL_append (le4 s), hD, xorL_zero]
  have hDlt : X / 2 ^ (8 * (U ++ body).length) < 4294967296 := by
    apply Nat.div_lt_of_lt_mul
    rw [hflen] at hM
    refine Nat.lt_of_lt_of_le hM ?_
    rw [Nat.mul_add, Nat.pow_add]
    exact Nat.le_refl _
  generalize hD : X / 2 ^ (8 * (U ++ body).length) = D at *
  have hr := Wn.rd_uint0 body.length (xorL (body ++ (le4 s ++ [165])) (m * 2 ^ f)) (by omega)
  rw [hU, ← p1] at hr
  have hu := Wn.ru_in (xorL (fr body) X) 0 (Nat.zero_le _) _ _ 0 (by rw [List.drop_zero]; exact hr)
  rw [show (0 : Int) = ((0 : Nat) : Int) from rfl, rf_at _ 0 _ _ (by simpa using hu), Nat.zero_add]
  have hlen : (xorL (U ++ body) X).length = U.length + body.length := by rw [xorL_length]; simp
  have hdr : (xorL (fr body) X).drop (U.length + body.length) = xorL (le4 s) D ++ [165] := by
    rw [p2, ← hlen, List.drop_left]
  have htk : (xorL (fr body) X).take (U.length + body.length) = xorL (U ++ body) X := by
    rw [p2, ← hlen, List.take_left]
  have h165 : (xorL (fr body) X).getD (U.length + body.length + 4) 0 = 165 := by
    have : (xorL (fr body) X)[U.length + body.length + 4]? = ((xorL (fr body) X).drop (U.length + body.length))[4]? := by rw [List.getElem?_drop]
    rw [List.getD_eq_getElem?_getD, this, hdr, List.getElem?_append_right (by rw [xorL_length]; exact Nat.le_refl _), xorL_length]
    rfl
  have hcrc : Wm.crc (xorL (U ++ body) X) = s ^^^ (steps (8 * (U ++ body).length) X ^^^ D) := by
    unfold Wm.crc
    rw [reg_xorL, hD, ← Nat.xor_assoc]
    have : Wm.crc (U ++ body) = s := hS
    unfold Wm.crc at this
    rw [this]
  have hne : s ^^^ D ≠ s ^^^ (steps (8 * (U ++ body).length) X ^^^ D) := by
    intro e
    have e2 : steps (8 * (U ++ body).length) X = 0 := by
      have h2 : s ^^^ (s ^^^ D) = s ^^^ (s ^^^ (steps (8 * (U ++ body).length) X ^^^ D)) := by rw [← e]
      rw [← Nat.xor_assoc, Nat.xor_self, Nat.zero_xor, ← Nat.xor_assoc, Nat.xor_self, Nat.zero_xor] at h2
      have h3 : D ^^^ D = (steps (8 * (U ++ body).length) X ^^^ D) ^^^ D := by rw [← h2]
      rw [Nat.xor_self, Nat.xor_assoc, Nat.xor_self, Nat.xor_zero] at h3
      exact h3.symm
    exact hXne _ e2
  unfold rfAt
  rw [if_neg (by omega), if_neg (by omega), if_neg (by rw [xorL_length, hfl]; omega), h165, if_neg (by simp), hdr, sum4_xor s D hs hDlt, htk, List.drop_zero, hcrc, if_pos hne]
  rfl
end Go.Proofs.YtnglcadhleefiaaDoor
