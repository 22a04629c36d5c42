import Derived.Test.YtenhaogheilmoaaDoorQW2
import Derived.Test.YtenhaogheilmoaaDoorQW1
import Derived.Test.YtenhaogheilmoaaDoorQR5
import Derived.Test.YtenhaogheilmoaaDoorQX1
import Derived.Test.YtenhaogheilmoaaDoorQK2
import Derived.Test.YtenhaogheilmoaaDoorQL2
/-
  Archives as plain lists of bytes: what is packed is read, what is read is packed as it was, no proper beginning is read.
-/
namespace Go.Proofs.YtenhaogheilmoaaDoor
open Go Go.RowKit
open Wb

theorem ru_back (a b : List Nat) (v : Nat) (h : v < 18446744073709551616) : Wn.ru (a ++ Wn.uint v ++ b) (a.length : Int) = (v, ((a.length + (Wn.uint v).length : Nat) : Int), 0) := by
  have hd : (a ++ Wn.uint v ++ b).drop a.length = Wn.uint v ++ b := by rw [List.append_assoc, List.drop_left]
  have := Wn.ru_in (a ++ Wn.uint v ++ b) a.length (by simp) v (Wn.uint v).length 0 (by rw [hd]; exact Wn.rd_uint0 v b h)
  simpa using this
theorem ru_there (l : List Nat) (q v n : Nat) (hok : ok l) (h : Wn.rd (l.drop q) 0 0 = (v, n, 0)) : (l.take (q + n)).drop q = Wn.uint v ∧ n = (Wn.uint v).length ∧ v < 18446744073709551616 := by
  obtain ⟨h1, h2, h3⟩ := rd_back0 (l.drop q) v n (ok_drop hok q) h
  refine ⟨?_, h1, h3⟩
  rw [← h2, List.drop_take]
  congr 1
  omega
theorem seg_join (l : List Nat) (q t x : Nat) (h1 : q ≤ t) : (l.take (t + x)).drop q = (l.take t).drop q ++ (l.take (t + x)).drop t := by
  rw [List.drop_take, List.drop_take, List.drop_take, show t + x - q = (t - q) + x by omega, List.take_add, List.drop_drop, show q + (t - q) = t by omega, show t + x - t = x by omega]

/-- what is read of a frame is there -/
theorem rf_there (l : List Nat) (p : Int) (hok : ok l) (h : (rf l p).2.2 = 0) : ∃ q m : Nat, p = (q : Int) ∧ (rf l p).2.1 = (m : Int) ∧ m ≤ l.length ∧ 0 < (rf l p).1.length ∧ (rf l p).1.length ≤ 1048576 ∧ (l.take m).drop q = fr (rf l p).1 := by
  rcases Wn.ru_cases l p with ⟨e, he, _, hr⟩ | ⟨q, v, n, rfl, hq, hn, hrd, hr⟩
  · rw [rf_err l p e he hr] at h
    exact absurd h he
  · obtain ⟨hU, hn2, hv⟩ := ru_there l q v n hok hrd
    rw [rf_at l q v n hr] at h ⊢
    generalize ht : q + n = t at *
    unfold rfAt at h ⊢
    by_cases h1 : v = 0
    · rw [if_pos h1] at h; exact absurd h (by decide)
    rw [if_neg h1] at h ⊢
    by_cases h2 : 1048576 < v
    · rw [if_pos h2] at h; exact absurd h (by decide)
    rw [if_neg h2] at h ⊢
    by_cases h3 : l.length < t + v + 5
    · rw [if_pos h3] at h; exact absurd h (by decide)
    rw [if_neg h3] at h ⊢
    by_cases h4 : l.getD (t + v + 4) 0 ≠ 165
    · rw [if_pos h4] at h; exact absurd h (by decide)
    rw [if_neg h4] at h ⊢
    by_cases h5 : sum4 (l.drop (t + v)) ≠ Wm.crc ((l.take (t + v)).drop q)
    · rw [if_pos h5] at h; exact absurd h (by decide)
    rw [if_neg h5]
    have hbl : ((l.take (t + v)).drop t).length = v := by simp; omega
    refine ⟨q, t + v + 5, rfl, rfl, by omega, by rw [hbl]; omega, by rw [hbl]; omega, ?_⟩
    show (l.take (t + v + 5)).drop q = fr ((l.take (t + v)).drop t)
    have e1 : (l.take (t + v)).drop q = Wn.uint v ++ (l.take (t + v)).drop t := by rw [seg_join l q t v (by omega), hU]
    have e2 : (l.take (t + v + 5)).drop q = (l.take (t + v)).drop q ++ (l.take (t + v + 5)).drop (t + v) := seg_join l q (t + v) 5 (by omega)
    unfold fr
    rw [hbl, ← e1, e2]
    rw [List.append_assoc]
    congr 1
    obtain ⟨a, b, c, d, r, hd, hs⟩ := drop4 l (t + v) (by omega)
    have hg : ok (a :: b :: c :: d :: r) := by rw [← hd]; exact ok_drop hok _
    have ga := hg a (by simp)
    have gb := hg b (by simp)
    have gc := hg c (by simp)
    have gd := hg d (by simp)
    have h165 : (l.drop (t + v)).getD 4 0 = 165 := by
      have := Decidable.of_not_not h4
      rw [List.getD_eq_getElem?_getD] at this ⊢
      rwa [List.getElem?_drop]
    have hsum : Wm.crc ((l.take (t + v)).drop q) = a + 256 * b + 65536 * c + 16777216 * d := by
      rw [← hs]; exact (Decidable.of_not_not h5).symm
    rw [hsum, List.drop_take, show t + v + 5 - (t + v) = 5 by omega, hd]
    rw [hd] at h165
    have hr : r.take 1 = [165] := by
      match r, h165 with
      | x :: r', h => simp at h; simp [h]
      | [], h => simp at h
    show a :: b :: c :: d :: r.take 1 = _
    rw [hr]
    unfold le4
    have e3 : (a + 256 * b + 65536 * c + 16777216 * d) % 256 = a := by omega
    have e4 : (a + 256 * b + 65536 * c + 16777216 * d) / 256 % 256 = b := by omega
    have e5 : (a + 256 * b + 65536 * c + 16777216 * d) / 65536 % 256 = c := by omega
    have e6 : (a + 256 * b + 65536 * c + 16777216 * d) / 16777216 % 256 = d := by omega
    rw [e3, e4, e5, e6]
    rfl
namespace Ar
/-- how records are written and read -/
structure Cdc (R : Type) where
  V : R → Nat
  E : R → List Nat
  D : Nat → List Nat → Option R
  good : R → Prop
  v1 : ∀ r, good r → V r < 256
  okE : ∀ r, good r → ok (E r)
  len : ∀ r, good r → (E r).length ≤ 1000000
  back : ∀ r, good r → D (V r) (E r) = some r
  one : ∀ v b r, ok b → D v b = some r → good r ∧ V r = v ∧ E r = b
def hd : List Nat := [65, 78, 65, 82, 1]
def fst (top n : Nat) : List Nat := fr (84 :: (Wn.uint top ++ Wn.uint n))
def lst (a : List Nat) : List Nat := fr (69 :: le4 (Wm.crc a))
def nums (b : List Nat) : Option (Nat × Nat) :=
  if b.head? ≠ some 84 then none
  else if (Wn.ru b 1).2.2 ≠ 0 ∨ 9223372036854775807 < (Wn.ru b 1).1 then none
  else if (Wn.ru b (Wn.ru b 1).2.1).2.2 ≠ 0 ∨ (Wn.ru b (Wn.ru b 1).2.1).2.1 ≠ (b.length : Int) then none
  else some ((Wn.ru b 1).1, (Wn.ru b (Wn.ru b 1).2.1).1)
section
variable {R : Type} (c : Cdc R)
def rcb (r : R) : List Nat := 82 :: c.V r :: c.E r
def rcs (rs : List R) : List Nat := rs.flatMap fun r => fr (rcb c r)
def fore (top : Nat) (rs : List R) : List Nat := hd ++ fst top rs.length ++ rcs c rs
def pack (top : Nat) (rs : List R) : List Nat := fore c top rs ++ lst (fore c top rs)
def recOf : List Nat → Option R
  | 82 :: v :: b => c.D v b
  | _ => none
def recs (l : List Nat) : Nat → Int → List R → Option (List R × Int)
  | 0, at_, acc => some (acc, at_)
  | n + 1, at_, acc => if (rf l at_).2.2 ≠ 0 then none else match recOf c (rf l at_).1 with
    | none => none
    | some r => recs l n (rf l at_).2.1 (acc ++ [r])
/-- the last frame, and what follows -/
def fin (l : List Nat) (top : Nat) (rs : List R) (at_ : Int) : Option (Nat × List R) :=
  if (rf l at_).2.2 ≠ 0 then none
  else if (rf l at_).1 ≠ 69 :: le4 (Wm.crc (l.take at_.toNat)) then none
  else if (rf l at_).2.1 < (l.length : Int) then none
  else some (top, rs)
def read (l : List Nat) : Option (Nat × List R) :=
  if 8388608 < l.length then none
  else if l.take 5 ≠ hd then none
  else if (rf l 5).2.2 ≠ 0 then none
  else match nums (rf l 5).1 with
    | none => none
    | some (top, n) => match recs c l n (rf l 5).2.1 [] with
      | none => none
      | some (rs, at_) => fin l top rs at_
theorem le4_ok (s : Nat) : ok (le4 s) := by
  intro x hx
  simp only [le4, List.mem_cons, List.not_mem_nil, or_false] at hx
  omega
theorem le4_len (s : Nat) : (le4 s).length = 4 := rfl
theorem nums_back (top n : Nat) (h1 : top ≤ 9223372036854775807) (h2 : n < 18446744073709551616) : nums (84 :: (Wn.uint top ++ Wn.uint n)) = some (top, n) := by
  have e1 : Wn.ru (84 :: (Wn.uint top ++ Wn.uint n)) 1 = (top, ((1 + (Wn.uint top).length : Nat) : Int), 0) := by
    have h := ru_back [84] (Wn.uint n) top (by omega)
    exact h
  have e2 : Wn.ru (84 :: (Wn.uint top ++ Wn.uint n)) ((1 + (Wn.uint top).length : Nat) : Int) = (n, ((1 + (Wn.uint top).length + (Wn.uint n).length : Nat) : Int), 0) := by
    have h := ru_back (84 :: Wn.uint top) [] n h2
    rw [List.append_nil, List.length_cons, Nat.add_comm (Wn.uint top).length 1] at h
    exact h
  unfold nums
  rw [if_neg (by simp), e1]
  simp only
  rw [if_neg (by omega), e2]
  simp only
  rw [if_neg]
  rintro (h | h)
  · exact h rfl
  · apply h
    simp only [List.length_cons, List.length_append]
    omega
theorem rcb_ok {r : R} (h : c.good r) : ok (rcb c r) := by
  intro x hx
  rcases List.mem_cons.1 hx with rfl | hx
  · omega
  rcases List.mem_cons.1 hx with rfl | hx
  · exact c.v1 r h
  · exact c.okE r h x hx
theorem recs_back : ∀ (rs : List R) (ahead behind : List Nat) (acc : List R), (∀ r ∈ rs, c.good r) → recs c (ahead ++ rcs c rs ++ behind) rs.length (ahead.length : Int) acc = some (acc ++ rs, ((ahead.length + (rcs c rs).length : Nat) : Int))
  | [], ahead, behind, acc, _ => by simp [recs, rcs]
  | r :: rs, ahead, behind, acc, h => by
    have hg := h r (List.mem_cons_self ..)
    have e : ahead ++ rcs c (r :: rs) ++ behind = ahead ++ fr (rcb c r) ++ (rcs c rs ++ behind) := by
      unfold rcs
      rw [List.flatMap_cons]
      simp only [List.append_assoc]
    have hr := rf_fr ahead (rcb c r) (rcs c rs ++ behind) (rcb_ok c hg) (by simp [rcb]) (by have := c.len r hg; simp only [rcb, List.length_cons]; omega)
    rw [← e] at hr
    rw [List.length_cons, recs, hr]
    simp only
    rw [if_neg (by simp)]
    have er : recOf c (rcb c r) = some r := by
      show c.D (c.V r) (c.E r) = some r
      exact c.back r hg
    rw [er]
    simp only
    have ih := recs_back rs (ahead ++ fr (rcb c r)) behind (acc ++ [r]) (fun x hx => h x (List.mem_cons_of_mem _ hx))
    rw [show ahead ++ fr (rcb c r) ++ rcs c rs ++ behind = ahead ++ rcs c (r :: rs) ++ behind by rw [e]; simp only [List.append_assoc], List.length_append] at ih
    rw [ih]
    have el : (rcs c (r :: rs)).length = (fr (rcb c r)).length + (rcs c rs).length := by
      unfold rcs
      rw [List.flatMap_cons, List.length_append]
    rw [el]
    simp only [List.append_assoc, List.singleton_append, Option.some.injEq, Prod.mk.injEq, true_and, Int.natCast_inj]
    omega
/-- what is packed is read; with anything behind it, it is not -/
theorem read_pack (top : Nat) (rs : List R) (y : List Nat) (hg : ∀ r ∈ rs, c.good r) (h1 : top ≤ 9223372036854775807) (h2 : rs.length < 18446744073709551616) (h3 : (pack c top rs ++ y).length ≤ 8388608) : read c (pack c top rs ++ y) = if y = [] then some (top, rs) else none := by
  obtain ⟨l, hl⟩ : ∃ l, pack c top rs ++ y = l := ⟨_, rfl⟩
  rw [hl] at h3 ⊢
  have e1 : hd ++ fr (84 :: (Wn.uint top ++ Wn.uint rs.length)) ++ (rcs c rs ++ lst (fore c top rs) ++ y) = l := by
    rw [← hl]
    unfold pack fore fst
    simp only [List.append_assoc]
  have e2 : hd ++ fst top rs.length ++ rcs c rs ++ (lst (fore c top rs) ++ y) = l := by
    rw [← hl]
    unfold pack fore
    simp only [List.append_assoc]
  have e3 : fore c top rs ++ fr (69 :: le4 (Wm.crc (fore c top rs))) ++ y = l := by
    rw [← hl]
    rfl
  have hb : ok (84 :: (Wn.uint top ++ Wn.uint rs.length)) := by
    intro x hx
    rcases List.mem_cons.1 hx with rfl | hx
    · omega
    rcases List.mem_append.1 hx with hx | hx
    · exact Wn.uint_ok top top (Nat.le_refl _) x hx
    · exact Wn.uint_ok _ _ (Nat.le_refl _) x hx
  have hlen1 : (84 :: (Wn.uint top ++ Wn.uint rs.length)).length ≤ 1048576 := by
    have q := congrArg List.length e1
    rw [List.length_append, List.length_append, fr_length] at q
    rcases Nat.lt_or_ge 1048576 (84 :: (Wn.uint top ++ Wn.uint rs.length)).length with h | h
    · exfalso
      have t1 := Wn.uint_len10 top (by omega)
      have t2 := Wn.uint_len10 rs.length h2
      simp only [List.length_cons, List.length_append] at h
      omega
    · exact h
  have r1 := rf_fr hd (84 :: (Wn.uint top ++ Wn.uint rs.length)) (rcs c rs ++ lst (fore c top rs) ++ y) hb (by simp) hlen1
  rw [e1] at r1
  have r1' : rf l 5 = (84 :: (Wn.uint top ++ Wn.uint rs.length), (((hd ++ fst top rs.length).length : Nat) : Int), 0) := by
    rw [List.length_append]
    exact r1
  have r2 := recs_back c rs (hd ++ fst top rs.length) (lst (fore c top rs) ++ y) [] hg
  rw [e2] at r2
  have r3 := rf_fr (fore c top rs) (69 :: le4 (Wm.crc (fore c top rs))) y (by
    intro x hx
    rcases List.mem_cons.1 hx with rfl | hx
    · omega
    · exact le4_ok _ x hx) (by simp) (by simp [le4_len])
  rw [e3] at r3
  have hfl : (hd ++ fst top rs.length).length + (rcs c rs).length = (fore c top rs).length := by
    unfold fore
    exact List.length_append.symm
  unfold read
  rw [if_neg (by omega), if_neg (by
    intro h
    apply h
    rw [← e1]
    rfl), r1']
  simp only
  rw [if_neg (by simp), nums_back top rs.length h1 h2]
  simp only
  rw [r2]
  simp only [List.nil_append]
  rw [hfl]
  unfold fin
  rw [r3]
  simp only
  rw [if_neg (by simp), if_neg (by
    intro h
    apply h
    rw [Int.toNat_natCast, ← e3, List.append_assoc, List.take_left])]
  have hll : l.length = (fore c top rs).length + (fr (69 :: le4 (Wm.crc (fore c top rs)))).length + y.length := by
    rw [← e3, List.length_append, List.length_append]
  by_cases hy : y = []
  · rw [if_pos hy, if_neg]
    subst hy
    simp only [List.length_nil] at hll
    omega
  · rw [if_neg hy, if_pos]
    have : 0 < y.length := List.length_pos_iff.2 hy
    omega
theorem ok_sub {l : List Nat} (h : ok l) (a b : Nat) : ok ((l.take a).drop b) := fun x hx => h x (List.mem_of_mem_take (List.mem_of_mem_drop hx))
theorem rf_body_ok {l : List Nat} {p : Int} (hok : ok l) (h : (rf l p).2.2 = 0) : ok (rf l p).1 := by
  obtain ⟨q, m, -, -, -, -, -, e⟩ := rf_there l p hok h
  have h2 := ok_sub hok m q
  rw [e] at h2
  intro x hx
  exact h2 x (by unfold fr; simp [hx])
theorem recOf_there {b : List Nat} {r : R} (hb : ok b) (h : recOf c b = some r) : b = rcb c r ∧ c.good r := by
  match b, hb, h with
  | 82 :: v :: x, hb, h =>
    have h1 : c.D v x = some r := h
    obtain ⟨g, e1, e2⟩ := c.one v x r (fun y hy => hb y (List.mem_cons_of_mem _ (List.mem_cons_of_mem _ hy))) h1
    unfold rcb
    rw [e1, e2]
    exact ⟨rfl, g⟩
theorem seg_len {l : List Nat} {q m : Nat} {x : List Nat} (hm : m ≤ l.length) (e : (l.take m).drop q = x) (hx : 0 < x.length) : q + x.length = m := by
  have h := congrArg List.length e
  rw [List.length_drop, List.length_take] at h
  omega
theorem fr_pos (b : List Nat) : 0 < (fr b).length := by
  rw [fr_length]
  omega
theorem recs_there {l : List Nat} (hok : ok l) : ∀ (n q : Nat) (acc rs' : List R) (at' : Int), q ≤ l.length → recs c l n (q : Int) acc = some (rs', at') → ∃ (rs : List R) (m : Nat), rs' = acc ++ rs ∧ rs.length = n ∧ at' = (m : Int) ∧ q ≤ m ∧ m ≤ l.length ∧ (l.take m).drop q = rcs c rs ∧ ∀ r ∈ rs, c.good r
  | 0, q, acc, rs', at', hq, h => by
    rw [recs] at h
    injection h with h
    injection h with h1 h2
    exact ⟨[], q, by rw [← h1, List.append_nil], rfl, h2.symm, Nat.le_refl _, hq, by simp [rcs], fun r hr => by cases hr⟩
  | n + 1, q, acc, rs', at', hq, h => by
    rw [recs] at h
    split at h
    · cases h
    · rename_i h0
      have h0 : (rf l (q : Int)).2.2 = 0 := by omega
      split at h
      · cases h
      · rename_i r hr
        obtain ⟨q2, m1, e1, e2, e3, e4, e5, e6⟩ := rf_there l (q : Int) hok h0
        obtain rfl : q2 = q := by omega
        obtain ⟨eb, hg⟩ := recOf_there c (rf_body_ok hok h0) hr
        have hl := seg_len e3 e6 (fr_pos _)
        rw [e2] at h
        obtain ⟨rs, m, k1, k2, k3, k4, k5, k6, k7⟩ := recs_there hok n m1 (acc ++ [r]) rs' at' e3 h
        refine ⟨r :: rs, m, by rw [k1]; simp, by rw [List.length_cons, k2], k3, by omega, k5, ?_, fun x hx => ?_⟩
        · have hj := seg_join l q2 m1 (m - m1) (by omega)
          rw [show m1 + (m - m1) = m by omega, e6, k6, eb] at hj
          rw [hj]
          unfold rcs
          rw [List.flatMap_cons]
        · rcases List.mem_cons.1 hx with rfl | hx
          · exact hg
          · exact k7 x hx
theorem nums_there {b : List Nat} {top n : Nat} (hb : ok b) (h : nums b = some (top, n)) : b = 84 :: (Wn.uint top ++ Wn.uint n) ∧ top ≤ 9223372036854775807 ∧ n < 18446744073709551616 := by
  unfold nums at h
  split at h
  · cases h
  rename_i h1
  split at h
  · cases h
  rename_i h2
  split at h
  · cases h
  rename_i h3
  injection h with h
  injection h with t1 t2
  rcases Wn.ru_cases b 1 with ⟨e, he, _, hr⟩ | ⟨q, v, k, hq, hqk, hk, hrd, hr⟩
  · exfalso; apply h2; left; rw [hr]; exact he
  obtain rfl : q = 1 := by omega
  rw [hr] at h2 h3 t1 t2
  simp only at h2 h3 t1 t2
  rcases Wn.ru_cases b ((1 + k : Nat) : Int) with ⟨e, he, _, hr2⟩ | ⟨q2, v2, k2, hq2, hqk2, hk2, hrd2, hr2⟩
  · exfalso; apply h3; left; rw [hr2]; exact he
  obtain rfl : q2 = 1 + k := by omega
  rw [hr2] at h3 t2
  simp only at h3 t2
  obtain ⟨u1, u2, u3⟩ := ru_there b 1 v k hb hrd
  obtain ⟨w1, w2, w3⟩ := ru_there b (1 + k) v2 k2 hb hrd2
  have hend : 1 + k + k2 = b.length := by omega
  subst t1 t2
  refine ⟨?_, by omega, w3⟩
  have hj := seg_join b 1 (1 + k) k2 (by omega)
  rw [u1, w1, hend, List.take_length] at hj
  match b, h1 with
  | [], h1 => simp at h1
  | x :: r, h1 =>
    simp only [List.head?_cons, ne_eq, Option.some.injEq, Decidable.not_not] at h1
    rw [List.drop_one, List.tail_cons] at hj
    rw [h1, hj]
/-- whatever is read is packed as just these bytes -/
theorem read_there {l : List Nat} {top : Nat} {rs : List R} (hok : ok l) (h : read c l = some (top, rs)) : pack c top rs = l ∧ (∀ r ∈ rs, c.good r) ∧ top ≤ 9223372036854775807 ∧ rs.length < 18446744073709551616 ∧ l.length ≤ 8388608 := by
  unfold read at h
  split at h
  · cases h
  rename_i h1
  split at h
  · cases h
  rename_i h2
  split at h
  · cases h
  rename_i h3
  have h3 : (rf l 5).2.2 = 0 := by omega
  split at h
  · cases h
  rename_i top' n hn
  split at h
  · cases h
  rename_i rs' at' hrc
  obtain ⟨q, m0, e1, e2, e3, e4, e5, e6⟩ := rf_there l 5 hok h3
  obtain rfl : q = 5 := by omega
  obtain ⟨nb, nt, nn⟩ := nums_there (rf_body_ok hok h3) hn
  have hl0 := seg_len e3 e6 (fr_pos _)
  rw [e2] at hrc
  obtain ⟨rs2, m, k1, k2, k3, k4, k5, k6, k7⟩ := recs_there c hok n m0 [] rs' at' e3 hrc
  rw [List.nil_append] at k1
  subst k1 k3
  unfold fin at h
  split at h
  · cases h
  rename_i h4
  have h4 : (rf l (m : Int)).2.2 = 0 := by omega
  split at h
  · cases h
  rename_i h5
  split at h
  · cases h
  rename_i h6
  injection h with h
  injection h with t1 t2
  subst t1 t2
  obtain ⟨q2, m2, f1, f2, f3, f4, f5, f6⟩ := rf_there l (m : Int) hok h4
  obtain rfl : q2 = m := by omega
  have h5 : (rf l (q2 : Int)).1 = 69 :: le4 (Wm.crc (l.take q2)) := by
    have := Decidable.not_not.1 h5
    rwa [Int.toNat_natCast] at this
  obtain rfl : m2 = l.length := by omega
  have hfore : l.take q2 = fore c top' rs' := by
    have j1 := seg_join l 0 5 (m0 - 5) (by omega)
    rw [show 5 + (m0 - 5) = m0 by omega, List.drop_zero, List.drop_zero, e6, nb] at j1
    have j2 := seg_join l 0 m0 (q2 - m0) (by omega)
    rw [show m0 + (q2 - m0) = q2 by omega, List.drop_zero, List.drop_zero, k6, j1] at j2
    rw [j2, Decidable.not_not.1 h2]
    unfold fore fst
    rw [k2]
  refine ⟨?_, k7, nt, by rw [k2]; exact nn, by omega⟩
  have hd2 : l.drop q2 = lst (l.take q2) := by
    rw [List.take_length] at f6
    rw [f6, h5]
    rfl
  unfold pack
  rw [← hfore, ← hd2, List.take_append_drop]
/-- no proper beginning is read -/
theorem read_part (top : Nat) (rs : List R) (k : Nat) (hg : ∀ r ∈ rs, c.good r) (h1 : top ≤ 9223372036854775807) (h2 : rs.length < 18446744073709551616) (h3 : (pack c top rs).length ≤ 8388608) (hok : ok (pack c top rs)) (hk : k < (pack c top rs).length) : read c ((pack c top rs).take k) = none := by
  cases hr : read c ((pack c top rs).take k) with
  | none => rfl
  | some x =>
    obtain ⟨top', rs'⟩ := x
    obtain ⟨e, g, a1, a2, a3⟩ := read_there c (fun x hx => hok x (List.mem_of_mem_take hx)) hr
    have ew : pack c top' rs' ++ (pack c top rs).drop k = pack c top rs := by rw [e, List.take_append_drop]
    have r1 := read_pack c top rs [] hg h1 h2 (by rw [List.append_nil]; exact h3)
    have r2 := read_pack c top' rs' ((pack c top rs).drop k) g a1 a2 (by rw [ew]; exact h3)
    rw [List.append_nil, if_pos rfl] at r1
    rw [ew, r1, if_neg] at r2
    · cases r2
    · intro h
      have := List.drop_eq_nil_iff.1 h
      omega
end
end Ar
end Go.Proofs.YtenhaogheilmoaaDoor

/-
  How records are written and read, as archives need it.
-/
namespace Go.Proofs.YtenhaogheilmoaaDoor
open Go Go.RowKit
open Wb

theorem valB_ok (x : Nums) (nm : ByteArray) (l : List Nat) (hl : ok l) (t : Nat) : ok (valB x nm l t) := by
  unfold valB
  split
  · exact uint_okW _
  split
  · intro y hy
    rcases List.mem_append.1 hy with h | h
    · exact uint_okW _ y h
    · exact nbs_ok nm y h
  split
  · intro y hy
    rcases List.mem_append.1 hy with h | h
    · exact uint_okW _ y h
    · exact hl y h
  · exact uint_okW _
theorem encN_ok (x : Nums) (nm : ByteArray) (l : List Nat) (hl : ok l) : ∀ n, ok (encN x nm l n)
  | 0 => fun y hy => by cases hy
  | n + 1 => by
    rw [encN_succ]
    intro y hy
    rcases List.mem_append.1 hy with h | h
    · split at h
      · cases h
      · rcases List.mem_append.1 h with h | h
        · exact uint_okW _ y h
        · exact valB_ok x nm l hl _ y h
    · exact encN_ok x nm l hl n y h
theorem valB_small (x : Nums) (nm : ByteArray) (l : List Nat) (t : Nat) (hx : x.nice) (hs : nm.size ≤ 192) (hl : l.length ≤ 16384) (h1 : 1 ≤ t) (h2 : t ≤ 11) : (valB x nm l t).length ≤ 16400 := by
  unfold valB
  split
  · have := Wn.uint_len10 (zz x.c) (zz_lt x.c hx.2.1 hx.2.2)
    omega
  · split
    · have := Wn.uint_len10 (nbs nm).length (by rw [nbs_len]; omega)
      rw [List.length_append]
      rw [nbs_len] at *
      omega
    · split
      · have := Wn.uint_len10 l.length (by omega)
        rw [List.length_append]
        omega
      · have h := hx.1 t h1 (by omega) (by omega)
        have := Wn.uint_len10 (x.tag t).toNat (by omega)
        omega
theorem encN_small (x : Nums) (nm : ByteArray) (l : List Nat) (hx : x.nice) (hs : nm.size ≤ 192) (hl : l.length ≤ 16384) : ∀ n, n ≤ 11 → (encN x nm l n).length ≤ n * 16420
  | 0, _ => Nat.le_refl _
  | n + 1, hn => by
    rw [encN_succ, List.length_append]
    have ih := encN_small x nm l hx hs hl n (by omega)
    have h1 : (if zeroT x nm l.length (11 - n) = true then [] else Wn.uint (11 - n) ++ valB x nm l (11 - n)).length ≤ 16420 := by
      split
      · simp
      · have a := Wn.uint_len10 (11 - n) (by omega)
        have b := valB_small x nm l (11 - n) hx hs hl (by omega) (by omega)
        rw [List.length_append]
        omega
    omega
def Rec.good (r : Rec) : Prop := chk r.x r.nm r.l = 0 ∧ r.x.fit ∧ ok r.l
theorem Rec.good.v {r : Rec} (h : r.good) : 1 ≤ r.x.v ∧ r.x.v ≤ 3 := (chk_nice _ _ _ h.1 h.2.1).2.1
theorem Rec.good.nice {r : Rec} (h : r.good) : r.x.nice := (chk_nice _ _ _ h.1 h.2.1).1
theorem Rec.good.short {r : Rec} (h : r.good) : r.nm.size ≤ 192 ∧ r.l.length ≤ 16384 := chk_fits _ _ _ (chk_nice _ _ _ h.1 h.2.1).2.2.2.2
theorem Rec.good.len {r : Rec} (h : r.good) : (enc r.x r.nm r.l).length ≤ 180620 := by
  have := encN_small r.x r.nm r.l h.nice h.short.1 h.short.2 11 (Nat.le_refl _)
  unfold enc
  omega
def recD (v : Nat) (b : List Nat) : Option Rec := if (dcd (v : Int) b).1 = 0 then some ⟨(dcd (v : Int) b).2.x, bstr (dcd (v : Int) b).2.nm, (dcd (v : Int) b).2.l⟩ else none
theorem sane_fit {q : Pts} (h : q.sane) : q.x.fit := h.1
def recC : Ar.Cdc Rec where
  V := fun r => r.x.v.toNat
  E := fun r => enc r.x r.nm r.l
  D := recD
  good := Rec.good
  v1 := fun r h => by
    have := h.v
    omega
  okE := fun r h => encN_ok _ _ _ h.2.2 11
  len := fun r h => by
    have := h.len
    omega
  back := fun r h => by
    have e := dcd_enc r.x r.nm r.l h.nice h.short.1 h.short.2 h.v h.1
    have hv := h.v
    unfold recD
    rw [show ((r.x.v.toNat : Nat) : Int) = r.x.v by omega, e]
    simp only [if_true, bstr_nbs]
  one := fun v b r hb h => by
    unfold recD at h
    obtain ⟨e, q, hq⟩ : ∃ e q, dcd (v : Int) b = (e, q) := ⟨_, _, rfl⟩
    rw [hq] at h
    simp only at h
    by_cases he : e = 0
    · rw [if_pos he] at h
      subst he
      injection h with h
      subst h
      obtain ⟨h1, h2, h3, h4⟩ := dcd_inv (v : Int) b hb q hq
      refine ⟨⟨h4, h1.1, h1.2.2⟩, ?_, h3⟩
      show q.x.v.toNat = v
      rw [h2]
      rfl
    · rw [if_neg he] at h
      cases h
end Go.Proofs.YtenhaogheilmoaaDoor
