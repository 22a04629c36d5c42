import Derived.Lib.AtoiAllCases
import Derived.Lib.ItoaNum
import Derived.Lib.Strings
import Derived.Shelf.Strings.Prefix
import Derived.Shelf.Strconv.Itoa3
import Derived.Shelf.Strconv.ErrVarAll
import Derived.Ground.NamesProg
import Derived.Test.YtpikdngccgdhiaaDoorProg
import Derived.Test.YtpikdngccgdhiaaDoorChecked
import Derived.WalkKit
import Derived.Below
import Derived.LoopN
import Derived.Handy
import Derived.Laws.BytesString
import Derived.Laws.IdiomStrings
import Derived.Laws.Rows
import Derived.Lib.SmallJoins
import Derived.Test.YtpikdngccgdhiaaDoorQW2
import Derived.Test.YtpikdngccgdhiaaDoorQW1
/-
  Package manifest: what is written and read, no program.
-/
namespace Go.Proofs.YtpikdngccgdhiaaDoor
open Go Go.RowKit
open Wb

theorem ru_back (a b : List Nat) (v : Nat) (h : v < 18446744073709551616) : Wn.ru (a ++ Wn.uint v ++ b) (a.length : Int) = (v, ((a.length + (Wn.uint v).length : Nat) : Int), 0) := by
  have hd : (a ++ Wn.uint v ++ b).drop a.length = Wn.uint v ++ b := by rw [List.append_assoc, List.drop_left]
  have := Wn.ru_in (a ++ Wn.uint v ++ b) a.length (by simp) v (Wn.uint v).length 0 (by rw [hd]; exact Wn.rd_uint0 v b h)
  simpa using this
theorem ru_there (l : List Nat) (q v n : Nat) (hok : ok l) (h : Wn.rd (l.drop q) 0 0 = (v, n, 0)) : (l.take (q + n)).drop q = Wn.uint v ∧ n = (Wn.uint v).length ∧ v < 18446744073709551616 := by
  obtain ⟨h1, h2, h3⟩ := rd_back0 (l.drop q) v n (ok_drop hok q) h
  refine ⟨?_, h1, h3⟩
  rw [← h2, List.drop_take]
  congr 1
  omega
theorem seg_join (l : List Nat) (q t x : Nat) (h1 : q ≤ t) : (l.take (t + x)).drop q = (l.take t).drop q ++ (l.take (t + x)).drop t := by
  rw [List.drop_take, List.drop_take, List.drop_take, show t + x - q = (t - q) + x by omega, List.take_add, List.drop_drop, show q + (t - q) = t by omega, show t + x - t = x by omega]

theorem rf_there (l : List Nat) (p : Int) (hok : ok l) (h : (rf l p).2.2 = 0) : ∃ q m : Nat, p = (q : Int) ∧ (rf l p).2.1 = (m : Int) ∧ m ≤ l.length ∧ 0 < (rf l p).1.length ∧ (rf l p).1.length ≤ 1048576 ∧ (l.take m).drop q = fr (rf l p).1 := by
  rcases Wn.ru_cases l p with ⟨e, he, _, hr⟩ | ⟨q, v, n, rfl, hq, hn, hrd, hr⟩
  · rw [rf_err l p e he hr] at h
    exact absurd h he
  · obtain ⟨hU, hn2, hv⟩ := ru_there l q v n hok hrd
    rw [rf_at l q v n hr] at h ⊢
    generalize ht : q + n = t at *
    unfold rfAt at h ⊢
    by_cases h1 : v = 0
    · rw [if_pos h1] at h; exact absurd h (by decide)
    rw [if_neg h1] at h ⊢
    by_cases h2 : 1048576 < v
    · rw [if_pos h2] at h; exact absurd h (by decide)
    rw [if_neg h2] at h ⊢
    by_cases h3 : l.length < t + v + 5
    · rw [if_pos h3] at h; exact absurd h (by decide)
    rw [if_neg h3] at h ⊢
    by_cases h4 : l.getD (t + v + 4) 0 ≠ 165
    · rw [if_pos h4] at h; exact absurd h (by decide)
    rw [if_neg h4] at h ⊢
    by_cases h5 : sum4 (l.drop (t + v)) ≠ Wm.crc ((l.take (t + v)).drop q)
    · rw [if_pos h5] at h; exact absurd h (by decide)
    rw [if_neg h5]
    have hbl : ((l.take (t + v)).drop t).length = v := by simp; omega
    refine ⟨q, t + v + 5, rfl, rfl, by omega, by rw [hbl]; omega, by rw [hbl]; omega, ?_⟩
    show (l.take (t + v + 5)).drop q = fr ((l.take (t + v)).drop t)
    have e1 : (l.take (t + v)).drop q = Wn.uint v ++ (l.take (t + v)).drop t := by rw [seg_join l q t v (by omega), hU]
    have e2 : (l.take (t + v + 5)).drop q = (l.take (t + v)).drop q ++ (l.take (t + v + 5)).drop (t + v) := seg_join l q (t + v) 5 (by omega)
    unfold fr
    rw [hbl, ← e1, e2]
    rw [List.append_assoc]
    congr 1
    obtain ⟨a, b, c, d, r, hd, hs⟩ := drop4 l (t + v) (by omega)
    have hg : ok (a :: b :: c :: d :: r) := by rw [← hd]; exact ok_drop hok _
    have ga := hg a (by simp)
    have gb := hg b (by simp)
    have gc := hg c (by simp)
    have gd := hg d (by simp)
    have h165 : (l.drop (t + v)).getD 4 0 = 165 := by
      have := Decidable.of_not_not h4
      rw [List.getD_eq_getElem?_getD] at this ⊢
      rwa [List.getElem?_drop]
    have hsum : Wm.crc ((l.take (t + v)).drop q) = a + 256 * b + 65536 * c + 16777216 * d := by
      rw [← hs]; exact (Decidable.of_not_not h5).symm
    rw [hsum, List.drop_take, show t + v + 5 - (t + v) = 5 by omega, hd]
    rw [hd] at h165
    have hr : r.take 1 = [165] := by
      match r, h165 with
      | x :: r', h => simp at h; simp [h]
      | [], h => simp at h
    show a :: b :: c :: d :: r.take 1 = _
    rw [hr]
    unfold le4
    have e3 : (a + 256 * b + 65536 * c + 16777216 * d) % 256 = a := by omega
    have e4 : (a + 256 * b + 65536 * c + 16777216 * d) / 256 % 256 = b := by omega
    have e5 : (a + 256 * b + 65536 * c + 16777216 * d) / 65536 % 256 = c := by omega
    have e6 : (a + 256 * b + 65536 * c + 16777216 * d) / 16777216 % 256 = d := by omega
    rw [e3, e4, e5, e6]
    rfl
structure Sg where
  n : Int
  s : Int
  c : Int
structure Mf where
  g : Int
  v : Int
  x : Int
  t : Int
  l : List Sg
def zeroM : Mf := ⟨0, 0, 0, 0, []⟩
/-- may a segment stand behind b? -/
def sgOk (next b : Int) (last : Bool) (s : Sg) : Bool := decide (b < s.n) && (decide (s.n < next) && (if last then decide (s.s = 0) && decide (s.c = 0) else decide (1 ≤ s.s) && (decide (s.s ≤ 524288) && (decide (0 ≤ s.c) && decide (s.c ≤ 524288)))))
def sgsOk (next : Int) : Int → List Sg → Bool
  | _, [] => true
  | b, s :: r => sgOk next b r.isEmpty s && sgsOk next s.n r
/-- what Check answers -/
def chkM (m : Mf) : Nat :=
  if ¬ (1 ≤ m.g ∧ m.g ≤ 1099511627776) then 80
  else if m.v < 1 ∨ 3 < m.v then 3
  else if ¬ (1 ≤ m.x ∧ m.x ≤ 1099511627776) then 81
  else if m.t < 0 then 86
  else if m.l.length = 0 ∨ 128 < m.l.length then 82
  else if sgsOk m.x 0 m.l = true then 0 else 83
def sgNums : Int → List Sg → List Int
  | _, [] => []
  | b, s :: r => (s.n - b) :: s.s :: s.c :: sgNums s.n r
def numsM (m : Mf) : List Int := m.g :: m.v :: m.x :: m.t :: (m.l.length : Int) :: sgNums 0 m.l
/-- numbers one behind the other -/
def putL (ns : List Int) : List Nat := ns.flatMap fun n => Wn.uint n.toNat
def bodyM (m : Mf) : List Nat := 77 :: putL (numsM m)
def encM (m : Mf) : List Nat := fr (bodyM m)
/-- the next number: where it begins, the fault; what is added -/
def nx (body : List Nat) (st : Int × Nat) (base : Int) : Int × (Int × Nat) :=
  if st.2 ≠ 0 then (0, st)
  else if (Wn.ru body st.1).2.2 ≠ 0 then (0, (st.1, (Wn.ru body st.1).2.2))
  else if 9223372036854775807 - base < ((Wn.ru body st.1).1 : Int) then (0, (st.1, 85))
  else (base + ((Wn.ru body st.1).1 : Int), ((Wn.ru body st.1).2.1, 0))
def pl (body : List Nat) : Nat → (Int × Nat) → Int → List Sg → (Int × Nat) × List Sg
  | 0, st, _, acc => (st, acc)
  | k + 1, st, b, acc =>
    if (nx body (nx body (nx body st b).2 0).2 0).2.2 ≠ 0 then ((nx body (nx body (nx body st b).2 0).2 0).2, acc)
    else pl body k (nx body (nx body (nx body st b).2 0).2 0).2 (nx body st b).1 (acc ++ [⟨(nx body st b).1, (nx body (nx body st b).2 0).1, (nx body (nx body (nx body st b).2 0).2 0).1⟩])
def n1 (body : List Nat) := nx body (1, 0) 0
def n2 (body : List Nat) := nx body (n1 body).2 0
def n3 (body : List Nat) := nx body (n2 body).2 0
def n4 (body : List Nat) := nx body (n3 body).2 0
def n5 (body : List Nat) := nx body (n4 body).2 0
def prs (body : List Nat) : Mf × Nat :=
  if (pl body (n5 body).1.toNat (n5 body).2 0 []).1.2 ≠ 0 then (zeroM, (pl body (n5 body).1.toNat (n5 body).2 0 []).1.2)
  else if (pl body (n5 body).1.toNat (n5 body).2 0 []).1.1 ≠ (body.length : Int) then (zeroM, 85)
  else (⟨(n1 body).1, (n2 body).1, (n3 body).1, (n4 body).1, (pl body (n5 body).1.toNat (n5 body).2 0 []).2⟩, 0)
/-- what Decode answers -/
def decM (b : List Nat) : Mf × Nat :=
  if (rf b 0).2.2 ≠ 0 then (zeroM, (rf b 0).2.2)
  else if (rf b 0).2.1 ≠ (b.length : Int) ∨ (rf b 0).1.head? ≠ some 77 then (zeroM, 85)
  else if (prs (rf b 0).1).2 ≠ 0 then (zeroM, (prs (rf b 0).1).2)
  else if chkM (prs (rf b 0).1).1 ≠ 0 then (zeroM, chkM (prs (rf b 0).1).1)
  else ((prs (rf b 0).1).1, 0)

theorem nx_put (pre : List Nat) (n : Int) (r : List Int) (base : Int) (h0 : 0 ≤ n) (hb : 0 ≤ base) (h : base + n ≤ 9223372036854775807) :
    nx (pre ++ putL (n :: r)) ((pre.length : Int), 0) base = (base + n, (((pre ++ Wn.uint n.toNat).length : Int), 0)) := by
  have e : pre ++ putL (n :: r) = pre ++ Wn.uint n.toNat ++ putL r := by simp [putL]
  have hr := ru_back pre (putL r) n.toNat (by omega)
  rw [← e] at hr
  unfold nx
  simp only [hr]
  rw [if_neg (by simp), if_neg (by simp), if_neg (by omega)]
  rw [List.length_append, show ((n.toNat : Nat) : Int) = n by omega]
theorem put_cons (pre : List Nat) (n : Int) (r : List Int) : pre ++ putL (n :: r) = (pre ++ Wn.uint n.toNat) ++ putL r := by simp [putL]
/-- what may be a list of segments -/
def Fits (b : Int) : List Sg → Prop
  | [] => True
  | s :: r => b ≤ s.n ∧ s.n ≤ 1099511627776 ∧ 0 ≤ s.s ∧ s.s ≤ 524288 ∧ 0 ≤ s.c ∧ s.c ≤ 524288 ∧ Fits s.n r
theorem pl_put : ∀ (l : List Sg) (pre : List Nat) (b : Int) (acc : List Sg), 0 ≤ b → Fits b l → pl (pre ++ putL (sgNums b l)) l.length ((pre.length : Int), 0) b acc = ((((pre ++ putL (sgNums b l)).length : Int), 0), acc ++ l)
  | [], pre, b, acc, _, _ => by simp [pl, sgNums, putL]
  | s :: r, pre, b, acc, hb, hf => by
    obtain ⟨h1, h2, h3, h4, h5, h6, h7⟩ := hf
    have a1 := nx_put pre (s.n - b) (s.s :: s.c :: sgNums s.n r) b (by omega) hb (by omega)
    have a2 := nx_put (pre ++ Wn.uint (s.n - b).toNat) s.s (s.c :: sgNums s.n r) 0 h3 (by omega) (by omega)
    have a3 := nx_put (pre ++ Wn.uint (s.n - b).toNat ++ Wn.uint s.s.toNat) s.c (sgNums s.n r) 0 h5 (by omega) (by omega)
    rw [← put_cons] at a2
    rw [← put_cons, ← put_cons] at a3
    have ih := pl_put r (pre ++ Wn.uint (s.n - b).toNat ++ Wn.uint s.s.toNat ++ Wn.uint s.c.toNat) s.n (acc ++ [⟨s.n, s.s, s.c⟩]) (by omega) h7
    rw [← put_cons, ← put_cons, ← put_cons] at ih
    show pl _ (r.length + 1) _ b acc = _
    rw [pl]
    simp only [sgNums, a1, a2, a3]
    rw [if_neg (by simp), show b + (s.n - b) = s.n by omega, show (0 : Int) + s.s = s.s by omega, show (0 : Int) + s.c = s.c by omega, ih]
    simp
theorem fits_of (next : Int) (hn : next ≤ 1099511627776) : ∀ (l : List Sg) (b : Int), sgsOk next b l = true → Fits b l
  | [], _, _ => trivial
  | s :: r, b, h => by
    rw [sgsOk, Bool.and_eq_true] at h
    obtain ⟨h1, h2⟩ := h
    unfold sgOk at h1
    simp only [Bool.and_eq_true, decide_eq_true_eq] at h1
    obtain ⟨q1, q2, q3⟩ := h1
    have q4 : 0 ≤ s.s ∧ s.s ≤ 524288 ∧ 0 ≤ s.c ∧ s.c ≤ 524288 := by
      split at q3
      · simp only [Bool.and_eq_true, decide_eq_true_eq] at q3
        omega
      · simp only [Bool.and_eq_true, decide_eq_true_eq] at q3
        omega
    exact ⟨by omega, by omega, q4.1, q4.2.1, q4.2.2.1, q4.2.2.2, fits_of next hn r s.n h2⟩
theorem chk_parts {m : Mf} (h : chkM m = 0) : 1 ≤ m.g ∧ m.g ≤ 1099511627776 ∧ 1 ≤ m.v ∧ m.v ≤ 3 ∧ 1 ≤ m.x ∧ m.x ≤ 1099511627776 ∧ 0 ≤ m.t ∧ 0 < m.l.length ∧ m.l.length ≤ 128 ∧ sgsOk m.x 0 m.l = true := by
  unfold chkM at h
  repeat (split at h; · cases h)
  split at h
  · rename_i h1 h2 h3 h4 h5 h6
    exact ⟨by omega, by omega, by omega, by omega, by omega, by omega, by omega, by omega, by omega, h6⟩
  · cases h
theorem putL_len : ∀ ns : List Int, (∀ n ∈ ns, n ≤ 9223372036854775807) → (putL ns).length ≤ 10 * ns.length
  | [], _ => by simp [putL]
  | n :: r, h => by
    have h1 := putL_len r (fun x hx => h x (List.mem_cons_of_mem _ hx))
    have h2 := Wn.uint_len10 n.toNat (by have := h n (List.mem_cons_self ..); omega)
    have e : putL (n :: r) = Wn.uint n.toNat ++ putL r := by simp [putL]
    rw [e, List.length_append, List.length_cons]
    omega
theorem putL_ok (ns : List Int) : ok (putL ns) := by
  intro x hx
  unfold putL at hx
  obtain ⟨n, _, hx⟩ := List.mem_flatMap.1 hx
  exact uint_okW _ x hx
theorem sgNums_len : ∀ (l : List Sg) (b : Int), (sgNums b l).length = 3 * l.length
  | [], _ => rfl
  | s :: r, b => by
    rw [sgNums]
    simp only [List.length_cons, sgNums_len r]
    omega
theorem sgNums_le : ∀ (l : List Sg) (b : Int), 0 ≤ b → Fits b l → ∀ n ∈ sgNums b l, 0 ≤ n ∧ n ≤ 1099511627776
  | [], _, _, _, n, hn => by simp [sgNums] at hn
  | s :: r, b, hb, hf, n, hn => by
    obtain ⟨h1, h2, h3, h4, h5, h6, h7⟩ := hf
    rw [sgNums] at hn
    simp only [List.mem_cons] at hn
    rcases hn with rfl | rfl | rfl | hn
    · omega
    · omega
    · omega
    · exact sgNums_le r s.n (by omega) h7 n hn
theorem numsM_le {m : Mf} (h : chkM m = 0) (ht : m.t ≤ 9223372036854775807) : ∀ n ∈ numsM m, 0 ≤ n ∧ n ≤ 9223372036854775807 := by
  obtain ⟨h1, h2, h3, h4, h5, h6, h7, h8, h9, h10⟩ := chk_parts h
  intro n hn
  unfold numsM at hn
  simp only [List.mem_cons] at hn
  rcases hn with rfl | rfl | rfl | rfl | rfl | hn
  · omega
  · omega
  · omega
  · omega
  · omega
  · have := sgNums_le m.l 0 (by omega) (fits_of m.x h6 m.l 0 h10) n hn
    omega
theorem bodyM_len {m : Mf} (h : chkM m = 0) (ht : m.t ≤ 9223372036854775807) : (bodyM m).length ≤ 4000 := by
  have h1 := putL_len (numsM m) (fun n hn => (numsM_le h ht n hn).2)
  have h2 := (chk_parts h).2.2.2.2.2.2.2.2.1
  have h3 := sgNums_len m.l 0
  unfold bodyM
  unfold numsM at h1 ⊢
  simp only [List.length_cons] at h1 ⊢
  omega
/-- what is written is read as it was -/
theorem dec_enc (m : Mf) (h : chkM m = 0) (ht : m.t ≤ 9223372036854775807) : decM (encM m) = (m, 0) := by
  obtain ⟨h1, h2, h3, h4, h5, h6, h7, h8, h9, h10⟩ := chk_parts h
  have hr : rf (encM m) 0 = (bodyM m, ((encM m).length : Int), 0) := by
    have := rf_fr [] (bodyM m) [] (fun x hx => by
      unfold bodyM at hx
      rcases List.mem_cons.1 hx with rfl | hx
      · decide
      · exact putL_ok _ x hx) (by unfold bodyM; simp) (by have := bodyM_len h ht; omega)
    simpa [encM] using this
  have hf := fits_of m.x h6 m.l 0 h10
  have e0 : bodyM m = [77] ++ putL (numsM m) := rfl
  have a1 := nx_put [77] m.g (m.v :: m.x :: m.t :: (m.l.length : Int) :: sgNums 0 m.l) 0 (by omega) (by omega) (by omega)
  have a2 := nx_put ([77] ++ Wn.uint m.g.toNat) m.v (m.x :: m.t :: (m.l.length : Int) :: sgNums 0 m.l) 0 (by omega) (by omega) (by omega)
  have a3 := nx_put ([77] ++ Wn.uint m.g.toNat ++ Wn.uint m.v.toNat) m.x (m.t :: (m.l.length : Int) :: sgNums 0 m.l) 0 (by omega) (by omega) (by omega)
  have a4 := nx_put ([77] ++ Wn.uint m.g.toNat ++ Wn.uint m.v.toNat ++ Wn.uint m.x.toNat) m.t ((m.l.length : Int) :: sgNums 0 m.l) 0 (by omega) (by omega) (by omega)
  have a5 := nx_put ([77] ++ Wn.uint m.g.toNat ++ Wn.uint m.v.toNat ++ Wn.uint m.x.toNat ++ Wn.uint m.t.toNat) (m.l.length : Int) (sgNums 0 m.l) 0 (by omega) (by omega) (by omega)
  have a6 := pl_put m.l ([77] ++ Wn.uint m.g.toNat ++ Wn.uint m.v.toNat ++ Wn.uint m.x.toNat ++ Wn.uint m.t.toNat ++ Wn.uint (m.l.length : Int).toNat) 0 [] (by omega) hf
  rw [← put_cons] at a2
  rw [← put_cons, ← put_cons] at a3
  rw [← put_cons, ← put_cons, ← put_cons] at a4
  rw [← put_cons, ← put_cons, ← put_cons, ← put_cons] at a5
  rw [← put_cons, ← put_cons, ← put_cons, ← put_cons, ← put_cons] at a6
  have q1 : n1 (bodyM m) = (0 + m.g, ((([77] ++ Wn.uint m.g.toNat).length : Int), 0)) := a1
  have q2 : n2 (bodyM m) = (0 + m.v, ((([77] ++ Wn.uint m.g.toNat ++ Wn.uint m.v.toNat).length : Int), 0)) := by unfold n2; rw [q1]; exact a2
  have q3 : n3 (bodyM m) = (0 + m.x, ((([77] ++ Wn.uint m.g.toNat ++ Wn.uint m.v.toNat ++ Wn.uint m.x.toNat).length : Int), 0)) := by unfold n3; rw [q2]; exact a3
  have q4 : n4 (bodyM m) = (0 + m.t, ((([77] ++ Wn.uint m.g.toNat ++ Wn.uint m.v.toNat ++ Wn.uint m.x.toNat ++ Wn.uint m.t.toNat).length : Int), 0)) := by unfold n4; rw [q3]; exact a4
  have q5 : n5 (bodyM m) = (0 + (m.l.length : Int), ((([77] ++ Wn.uint m.g.toNat ++ Wn.uint m.v.toNat ++ Wn.uint m.x.toNat ++ Wn.uint m.t.toNat ++ Wn.uint (m.l.length : Int).toNat).length : Int), 0)) := by unfold n5; rw [q4]; exact a5
  have q6 : pl (bodyM m) m.l.length (n5 (bodyM m)).2 0 [] = ((((bodyM m).length : Int), 0), m.l) := by
    rw [q5]
    exact a6
  have hp : prs (bodyM m) = (m, 0) := by
    unfold prs
    rw [show (n5 (bodyM m)).1.toNat = m.l.length by rw [q5]; simp, q6, q1, q2, q3, q4]
    simp
  unfold decM
  rw [hr]
  simp only [hp, h]
  rw [if_neg (by simp), if_neg (by simp [bodyM]), if_neg (by simp), if_neg (by simp)]

theorem nx_fault (body : List Nat) (st : Int × Nat) (base : Int) (h : (nx body st base).2.2 = 0) : st.2 = 0 := by
  unfold nx at h
  split at h
  · exact h
  · omega
/-- a number that was read stands there -/
theorem nx_there (body : List Nat) (hok : ok body) (p : Int) (base v q : Int) (f : Nat) (h : nx body (p, f) base = (v, (q, 0))) :
    ∃ a b : Nat, p = (a : Int) ∧ q = (b : Int) ∧ b ≤ body.length ∧ 0 ≤ v - base ∧ v ≤ 9223372036854775807 ∧ body.take b = body.take a ++ Wn.uint (v - base).toNat := by
  have hf : f = 0 := nx_fault body (p, f) base (by rw [h])
  subst hf
  unfold nx at h
  rcases Wn.ru_cases body p with ⟨e, he, _, hr⟩ | ⟨a, x, n, rfl, hle, hn, hrd, hr⟩
  · rw [hr] at h
    rw [if_neg (by simp), if_pos he] at h
    simp only [Prod.mk.injEq] at h
    exact absurd h.2.2 he
  · simp only [hr] at h
    rw [if_neg (by simp), if_neg (by simp)] at h
    split at h
    · simp at h
    · simp only [Prod.mk.injEq, and_true] at h
      obtain ⟨h1, h2⟩ := h
      obtain ⟨t1, t2, t3⟩ := ru_there body a x n hok hrd
      refine ⟨a, a + n, rfl, h2.symm, hle, by omega, by omega, ?_⟩
      rw [show (v - base).toNat = x by omega, ← t1]
      have := List.take_append_drop a (body.take (a + n))
      rw [List.take_take, show min a (a + n) = a by omega] at this
      exact this.symm
theorem pl_fault (body : List Nat) (k : Nat) (st : Int × Nat) (b : Int) (acc : List Sg) (q : Int) (l : List Sg) (h : pl body k st b acc = ((q, 0), l)) : st.2 = 0 := by
  cases k with
  | zero =>
    simp only [pl, Prod.mk.injEq] at h
    rw [h.1]
  | succ k =>
    rw [pl] at h
    split at h
    · rename_i hne
      simp only [Prod.mk.injEq] at h
      exact absurd (by rw [h.1]) hne
    · rename_i hne
      have hz : (nx body (nx body (nx body st b).2 0).2 0).2.2 = 0 := by omega
      exact nx_fault body st b (nx_fault body _ 0 (nx_fault body _ 0 hz))
theorem pl_there (body : List Nat) (hok : ok body) : ∀ (k : Nat) (p : Int) (f : Nat) (b : Int) (acc : List Sg) (q : Int) (l : List Sg), pl body k (p, f) b acc = ((q, 0), l) → 0 ≤ p → p ≤ (body.length : Int) →
    ∃ r : List Sg, l = acc ++ r ∧ r.length = k ∧ ∃ a e : Nat, p = (a : Int) ∧ q = (e : Int) ∧ e ≤ body.length ∧ body.take e = body.take a ++ putL (sgNums b r)
  | 0, p, f, b, acc, q, l, h, hp0, hp1 => by
    simp only [pl, Prod.mk.injEq] at h
    obtain ⟨⟨rfl, _⟩, rfl⟩ := h
    exact ⟨[], by simp, rfl, p.toNat, p.toNat, by omega, by omega, by omega, by simp [sgNums, putL]⟩
  | k + 1, p, f, b, acc, q, l, h, hp0, hp1 => by
    rw [pl] at h
    split at h
    · rename_i hne
      simp only [Prod.mk.injEq] at h
      exact absurd (by rw [h.1]) hne
    · rename_i hne
      have hz : (nx body (nx body (nx body (p, f) b).2 0).2 0).2.2 = 0 := by omega
      have hy := nx_fault body _ 0 hz
      have hx := nx_fault body _ 0 hy
      obtain ⟨v1, p1, f1, e1⟩ : ∃ v1 p1 f1, nx body (p, f) b = (v1, (p1, f1)) := ⟨_, _, _, rfl⟩
      rw [e1] at hx hy hz h
      obtain ⟨v2, p2, f2, e2⟩ : ∃ v2 p2 f2, nx body (p1, f1) 0 = (v2, (p2, f2)) := ⟨_, _, _, rfl⟩
      simp only [e2] at hy hz h
      obtain ⟨v3, p3, f3, e3⟩ : ∃ v3 p3 f3, nx body (p2, f2) 0 = (v3, (p3, f3)) := ⟨_, _, _, rfl⟩
      simp only [e3] at hz h
      simp only at hx hy hz
      subst hx hy hz
      obtain ⟨a, b1, rfl, rfl, l1, _, _, t1⟩ := nx_there body hok p b v1 p1 f e1
      obtain ⟨a2, b2, ea2, rfl, l2, _, _, t2⟩ := nx_there body hok _ 0 v2 p2 0 e2
      obtain ⟨a3, b3, ea3, rfl, l3, _, _, t3⟩ := nx_there body hok _ 0 v3 p3 0 e3
      obtain rfl : a2 = b1 := by omega
      obtain rfl : a3 = b2 := by omega
      obtain ⟨r, hl, hrl, a4, e4, ea4, rfl, l4, t4⟩ := pl_there body hok k _ 0 v1 _ q l h (by omega) (by omega)
      obtain rfl : a4 = b3 := by omega
      refine ⟨⟨v1, v2, v3⟩ :: r, by rw [hl]; simp, by simp [hrl], a, e4, rfl, rfl, l4, ?_⟩
      rw [t4, t3, t2, t1]
      rw [show v2 - 0 = v2 by omega, show v3 - 0 = v3 by omega]
      simp [sgNums, putL]
theorem nf5 (body : List Nat) (h : (n5 body).2.2 = 0) : (n4 body).2.2 = 0 := nx_fault body (n4 body).2 0 h
theorem nf4 (body : List Nat) (h : (n4 body).2.2 = 0) : (n3 body).2.2 = 0 := nx_fault body (n3 body).2 0 h
theorem nf3 (body : List Nat) (h : (n3 body).2.2 = 0) : (n2 body).2.2 = 0 := nx_fault body (n2 body).2 0 h
theorem nf2 (body : List Nat) (h : (n2 body).2.2 = 0) : (n1 body).2.2 = 0 := nx_fault body (n1 body).2 0 h
/-- what is read is written as it stood -/
theorem enc_dec (b : List Nat) (hok : ok b) (m : Mf) (h : decM b = (m, 0)) : chkM m = 0 ∧ encM m = b ∧ m.t ≤ 9223372036854775807 := by
  unfold decM at h
  split at h
  · rename_i h1
    simp only [Prod.mk.injEq] at h
    exact absurd h.2 h1
  · rename_i h1
    split at h
    · simp at h
    · rename_i h2
      split at h
      · rename_i h3
        simp only [Prod.mk.injEq] at h
        exact absurd h.2 h3
      · rename_i h3
        split at h
        · rename_i h4
          simp only [Prod.mk.injEq] at h
          exact absurd h.2 h4
        · rename_i h4
          simp only [Prod.mk.injEq, and_true] at h
          obtain ⟨q, e, hq, he, hel, hb0, hb1, ht⟩ := rf_there b 0 hok (by omega)
          obtain rfl : q = 0 := by omega
          have hlen : e = b.length := by omega
          subst hlen
          rw [List.take_length, List.drop_zero] at ht
          obtain ⟨body, hbd⟩ : ∃ body, body = (rf b 0).1 := ⟨_, rfl⟩
          rw [← hbd] at h h2 h3 h4 ht hb0
          have hokb : ok body := fun x hx => hok x (by
            rw [ht]
            unfold fr
            simp [hx])
          obtain ⟨t, h77⟩ : ∃ t, body = 77 :: t := by
            cases body with
            | nil => simp at hb0
            | cons c t =>
              have : c = 77 := by
                have h9 : (c :: t).head? = some 77 := by
                  by_cases hh : (c :: t).head? = some 77
                  · exact hh
                  · exact absurd (.inr hh) h2
                simpa using h9
              exact ⟨t, by rw [this]⟩
          have hc : chkM m = 0 := by rw [← h]; omega
          have hp : prs body = (m, 0) := by rw [← h]; exact Prod.ext rfl (by simp only; omega)
          unfold prs at hp
          split at hp
          · rename_i g1
            simp only [Prod.mk.injEq] at hp
            exact absurd hp.2 g1
          · rename_i g1
            split at hp
            · simp at hp
            · rename_i g2
              simp only [Prod.mk.injEq, and_true] at hp
              rcases e5 : pl body (n5 body).1.toNat (n5 body).2 0 [] with ⟨⟨q5, f5⟩, l5⟩
              rw [e5] at g1 g2 hp
              simp only at g1 g2 hp
              have hf5 : f5 = 0 := by omega
              subst hf5
              rcases w5 : n5 body with ⟨v5, p5, x5⟩
              have z5 : x5 = 0 := by
                have := pl_fault _ _ _ _ _ _ _ e5
                rw [w5] at this
                exact this
              subst z5
              rcases w4 : n4 body with ⟨v4, p4, x4⟩
              have z4 : x4 = 0 := by
                have := nf5 body (by rw [w5])
                rw [w4] at this
                exact this
              subst z4
              rcases w3 : n3 body with ⟨v3, p3, x3⟩
              have z3 : x3 = 0 := by
                have := nf4 body (by rw [w4])
                rw [w3] at this
                exact this
              subst z3
              rcases w2 : n2 body with ⟨v2, p2, x2⟩
              have z2 : x2 = 0 := by
                have := nf3 body (by rw [w3])
                rw [w2] at this
                exact this
              subst z2
              rcases w1 : n1 body with ⟨v1, p1, x1⟩
              have z1 : x1 = 0 := by
                have := nf2 body (by rw [w2])
                rw [w1] at this
                exact this
              subst z1
              rw [w1, w2, w3, w4] at hp
              simp only at hp
              rw [w5] at e5
              simp only at e5
              unfold n5 at w5
              rw [w4] at w5
              unfold n4 at w4
              rw [w3] at w4
              unfold n3 at w3
              rw [w2] at w3
              unfold n2 at w2
              rw [w1] at w2
              unfold n1 at w1
              obtain ⟨a1, b1, ea1, rfl, i1, j1, k1, t1⟩ := nx_there _ hokb _ 0 v1 p1 0 w1
              obtain ⟨a2, b2, ea2, rfl, i2, j2, k2, t2⟩ := nx_there _ hokb _ 0 v2 p2 0 w2
              obtain ⟨a3, b3, ea3, rfl, i3, j3, k3, t3⟩ := nx_there _ hokb _ 0 v3 p3 0 w3
              obtain ⟨a4, b4, ea4, rfl, i4, j4, k4, t4⟩ := nx_there _ hokb _ 0 v4 p4 0 w4
              obtain ⟨a5, b5, ea5, rfl, i5, j5, k5, t5⟩ := nx_there _ hokb _ 0 v5 p5 0 w5
              obtain ⟨r, hl, hrl, a6, b6, ea6, rfl, i6, t6⟩ := pl_there _ hokb v5.toNat _ 0 0 [] q5 l5 e5 (by omega) (by omega)
              obtain rfl : a1 = 1 := by omega
              obtain rfl : a2 = b1 := by omega
              obtain rfl : a3 = b2 := by omega
              obtain rfl : a4 = b3 := by omega
              obtain rfl : a5 = b4 := by omega
              obtain rfl : a6 = b5 := by omega
              have hb6 : b6 = body.length := by omega
              rw [hb6, List.take_length, t5, t4, t3, t2, t1] at t6
              have e77 : body.take 1 = [77] := by rw [h77]; rfl
              rw [e77] at t6
              rw [List.nil_append] at hl
              subst hl
              have hbody : body = bodyM m := by
                rw [t6, ← hp]
                unfold bodyM numsM
                simp only [putL, List.flatMap_cons]
                rw [hrl, show ((v5.toNat : Nat) : Int) = v5 by omega]
                simp
              refine ⟨hc, ?_, ?_⟩
              · rw [ht, hbody]; rfl
              · rw [← hp]; exact k4
end Go.Proofs.YtpikdngccgdhiaaDoor

/-
  ManifestNames: names and numbers, no program.
-/
namespace Go.Proofs.YtpikdngccgdhiaaDoor
open Go

/-- the name of a number -/
def nmL (n : Int) : List UInt8 := if 1 ≤ n ∧ n ≤ 1099511627776 then 115 :: Lib.decDigits n.toNat else []
/-- what digits spell, behind acc -/
def dval (acc : Nat) (l : List UInt8) : Nat := l.foldl (fun a c => a * 10 + (c.toNat - 48)) acc
def Dig (l : List UInt8) : Prop := ∀ c ∈ l, 48 ≤ c.toNat ∧ c.toNat ≤ 57
theorem dg_nat (m : Nat) (h : m < 10) : (UInt8.ofNat (48 + m)).toNat = 48 + m := by
  simp [UInt8.toNat_ofNat]
  omega
theorem decDigits_dig (u : Nat) : Dig (Lib.decDigits u) := by
  induction u using Nat.strongRecOn with
  | _ u ih =>
    intro c hc
    rw [Lib.decDigits] at hc
    by_cases h : u < 10
    · rw [dif_pos h] at hc
      obtain rfl := List.mem_singleton.1 hc
      have := dg_nat u h
      omega
    · rw [dif_neg h] at hc
      rcases List.mem_append.1 hc with hc | hc
      · exact ih (u / 10) (by omega) c hc
      · obtain rfl := List.mem_singleton.1 hc
        have := dg_nat (u % 10) (by omega)
        omega
theorem decDigits_val (u : Nat) : dval 0 (Lib.decDigits u) = u := by
  induction u using Nat.strongRecOn with
  | _ u ih =>
    rw [Lib.decDigits]
    by_cases h : u < 10
    · rw [dif_pos h]
      have := dg_nat u h
      simp only [dval, List.foldl_cons, List.foldl_nil]
      omega
    · rw [dif_neg h]
      have h1 := ih (u / 10) (by omega)
      have h2 := dg_nat (u % 10) (by omega)
      unfold dval at h1 ⊢
      rw [List.foldl_append, h1]
      simp only [List.foldl_cons, List.foldl_nil]
      omega
theorem decDigits_cons (u : Nat) : ∃ c r, Lib.decDigits u = c :: r := by
  cases h : Lib.decDigits u with
  | nil =>
    rw [Lib.decDigits] at h
    split at h
    · cases h
    · simp at h
  | cons c r => exact ⟨c, r, rfl⟩
theorem dval_ge : ∀ (l : List UInt8) (acc : Nat), acc ≤ dval acc l
  | [], acc => Nat.le_refl _
  | c :: r, acc => by
    have := dval_ge r (acc * 10 + (c.toNat - 48))
    simp only [dval, List.foldl_cons] at this ⊢
    omega
theorem dval_cons (c : UInt8) (r : List UInt8) (acc : Nat) : dval acc (c :: r) = dval (acc * 10 + (c.toNat - 48)) r := by simp only [dval, List.foldl_cons]
theorem parse_dig (l : List UInt8) : ∀ (acc : Nat), Dig l → dval acc l < 18446744073709551616 → Lib.parseUint10 acc l = .ok (dval acc l) := by
  induction l with
  | nil => exact fun acc _ _ => rfl
  | cons c r ih =>
    intro acc hd hv
    have h1 := hd c (List.mem_cons_self ..)
    have h2 := dval_ge r (acc * 10 + (c.toNat - 48))
    rw [dval_cons] at hv ⊢
    rw [Lib.parseUint10, if_pos h1, if_neg (by omega), if_neg (by omega)]
    exact ih _ (fun x hx => hd x (List.mem_cons_of_mem _ hx)) hv
theorem atoi_dec (u : Nat) (hu : u < 9223372036854775808) : Lib.atoiAll (Lib.decDigits u) = .ok (u : Int) := by
  obtain ⟨c, r, e⟩ := decDigits_cons u
  have hd := decDigits_dig u
  have hv := decDigits_val u
  rw [e] at hd hv ⊢
  have hc := hd c (List.mem_cons_self ..)
  rw [Lib.atoiAll_plain c r (by omega) (by omega)]
  have hp : Lib.parseMag (c :: r) = .ok u := by
    unfold Lib.parseMag
    rw [if_neg (by simp), parse_dig _ 0 hd (by omega), hv]
  rw [hp]
  unfold Lib.signless
  simp
  omega
/-- what manifest.Num answers -/
def mNum (name : List UInt8) : Int × Bool := match Lib.atoiAll (Lib.trimPrefix name [115]) with
  | .ok v => if nmL v = name then (v, true) else (0, false)
  | _ => (0, false)
/-- the reference's loop -/
def rLoop : Int → List UInt8 → Option Int
  | n, [] => some n
  | n, c :: r => if n * 10 + (c.toNat : Int) - 48 < 0 ∨ 1099511627776 < n * 10 + (c.toNat : Int) - 48 then none else rLoop (n * 10 + (c.toNat : Int) - 48) r
def rNum (name : List UInt8) : Int × Bool := match rLoop 0 ((name.drop 1).take 19) with
  | none => (0, false)
  | some n => if n < 1 then (0, false) else if nmL n = name then (n, true) else (0, false)
theorem rLoop_bounds : ∀ (l : List UInt8) (n m : Int), 0 ≤ n → n ≤ 1099511627776 → rLoop n l = some m → 0 ≤ m ∧ m ≤ 1099511627776
  | [], n, m, h0, h1, h => by
    simp only [rLoop] at h
    injection h with h
    omega
  | c :: r, n, m, h0, h1, h => by
    simp only [rLoop] at h
    split at h
    · cases h
    · exact rLoop_bounds r _ m (by omega) (by omega) h
theorem rLoop_dig (l : List UInt8) : ∀ (acc : Nat), Dig l → dval acc l ≤ 1099511627776 → rLoop (acc : Int) l = some (dval acc l : Int) := by
  induction l with
  | nil => exact fun acc _ _ => rfl
  | cons c r ih =>
    intro acc hd hv
    have h1 := hd c (List.mem_cons_self ..)
    have h2 := dval_ge r (acc * 10 + (c.toNat - 48))
    rw [dval_cons] at hv ⊢
    have e : (acc : Int) * 10 + (c.toNat : Int) - 48 = ((acc * 10 + (c.toNat - 48) : Nat) : Int) := by omega
    rw [rLoop, e, if_neg (by omega)]
    exact ih _ (fun x hx => hd x (List.mem_cons_of_mem _ hx)) hv
theorem decDigits_short : ∀ (k u : Nat), u < 10 ^ (k + 1) → (Lib.decDigits u).length ≤ k + 1
  | 0, u, h => by
    rw [Lib.decDigits_one (by omega)]
    exact Nat.le_refl _
  | k + 1, u, h => by
    rw [Lib.decDigits]
    split
    · simp
    · have := decDigits_short k (u / 10) (by rw [Nat.pow_succ] at h; omega)
      simp only [List.length_append, List.length_cons, List.length_nil]
      omega
theorem nm_in (u : Nat) (h1 : 1 ≤ u) (h2 : u ≤ 1099511627776) : nmL (u : Int) = 115 :: Lib.decDigits u := by
  unfold nmL
  rw [if_pos (by omega)]
  simp
theorem nm_out (n : Int) (h : ¬ (1 ≤ n ∧ n ≤ 1099511627776)) : nmL n = [] := by
  unfold nmL
  rw [if_neg h]
theorem trim_s (l : List UInt8) : Lib.trimPrefix (115 :: l) [115] = l := by
  simp [Lib.trimPrefix, Lib.hasPrefix]
theorem mNum_in (u : Nat) (h1 : 1 ≤ u) (h2 : u ≤ 1099511627776) : mNum (115 :: Lib.decDigits u) = ((u : Int), true) := by
  unfold mNum
  rw [trim_s, atoi_dec u (by omega)]
  simp only
  rw [if_pos (nm_in u h1 h2)]
theorem rNum_in (u : Nat) (h1 : 1 ≤ u) (h2 : u ≤ 1099511627776) : rNum (115 :: Lib.decDigits u) = ((u : Int), true) := by
  have hl := decDigits_short 13 u (by omega)
  have hv := decDigits_val u
  unfold rNum
  rw [List.drop_one, List.tail_cons, List.take_of_length_le (by omega)]
  have h := rLoop_dig (Lib.decDigits u) 0 (decDigits_dig u) (by omega)
  rw [hv] at h
  rw [show ((0 : Nat) : Int) = 0 from rfl] at h
  rw [h]
  simp only
  rw [if_neg (by omega), if_pos (nm_in u h1 h2)]
theorem nm_cases (v : Int) : (∃ u : Nat, 1 ≤ u ∧ u ≤ 1099511627776 ∧ v = (u : Int)) ∨ nmL v = [] := by
  by_cases h : 1 ≤ v ∧ v ≤ 1099511627776
  · exact .inl ⟨v.toNat, by omega, by omega, by omega⟩
  · exact .inr (nm_out v h)
theorem nums_same (name : List UInt8) : mNum name = rNum name := by
  by_cases hx : ∃ u : Nat, 1 ≤ u ∧ u ≤ 1099511627776 ∧ name = 115 :: Lib.decDigits u
  · obtain ⟨u, h1, h2, rfl⟩ := hx
    rw [mNum_in u h1 h2, rNum_in u h1 h2]
  · have hne : ∀ v : Int, nmL v ≠ [] → nmL v ≠ name := fun v hv e => by
      rcases nm_cases v with ⟨u, h1, h2, rfl⟩ | h
      · exact hx ⟨u, h1, h2, by rw [← e, nm_in u h1 h2]⟩
      · exact hv h
    have hm : mNum name = (0, false) := by
      unfold mNum
      split
      · rename_i v hv
        by_cases h0 : nmL v = []
        · rw [if_neg]
          intro e
          rw [← e, h0] at hv
          cases hv
        · rw [if_neg (hne v h0)]
      · rfl
    have hr : rNum name = (0, false) := by
      unfold rNum
      split
      · rfl
      · rename_i n hn
        obtain ⟨b0, b1⟩ := rLoop_bounds _ 0 n (by omega) (by omega) hn
        by_cases h1 : n < 1
        · rw [if_pos h1]
        · rw [if_neg h1, if_neg]
          refine hne n ?_
          unfold nmL
          rw [if_pos (by omega)]
          simp
    rw [hm, hr]
/-- what is named is known again -/
theorem num_back (n : Int) : mNum (nmL n) = if 1 ≤ n ∧ n ≤ 1099511627776 then (n, true) else (0, false) := by
  by_cases h : 1 ≤ n ∧ n ≤ 1099511627776
  · rw [if_pos h]
    obtain ⟨u, rfl⟩ : ∃ u : Nat, n = (u : Int) := ⟨n.toNat, by omega⟩
    rw [nm_in u (by omega) (by omega), mNum_in u (by omega) (by omega)]
  · rw [if_neg h, nm_out n h]
    rfl
theorem mNum_bounds (name : List UInt8) : 0 ≤ (mNum name).1 ∧ (mNum name).1 ≤ 1099511627776 := by
  rw [nums_same]
  unfold rNum
  split
  · exact ⟨by decide, by decide⟩
  · rename_i n hn
    obtain ⟨b0, b1⟩ := rLoop_bounds _ 0 n (by omega) (by omega) hn
    split
    · exact ⟨by decide, by decide⟩
    · split
      · exact ⟨b0, b1⟩
      · exact ⟨by decide, by decide⟩
end Go.Proofs.YtpikdngccgdhiaaDoor

/-
  strings.TrimPrefix, strconv.Itoa, strconv.Atoi at this program: the laying, written by the kit's own command.
-/
namespace Go.Proofs.YtpikdngccgdhiaaDoor
open Go.Shelf
def laysTrim_ren : Go.Shelf.Ren := ⟨fun | 101 => 40 | 208 => 59 | 206 => 67 | n => n, fun | 9 => 9 | 4 => 4 | 3 => 3 | n => n, fun | n => n⟩
theorem laysTrim : Go.Proofs.Lays.n101 Tryd.prog laysTrim_ren := {
  mixed := by kernel_rfl
  f101 := Tryd.func40.trans (congrArg some (by kernel_rfl))
  f206 := Tryd.func67.trans (congrArg some (by kernel_rfl))
  f208 := Tryd.func59.trans (congrArg some (by kernel_rfl))
  t3 := Tryd.underlying3
  a3 := Tryd.isAgg3
  z3 := Tryd.sizeOf3
  v3 := Tryd.zeroValue3
  t4 := Tryd.underlying4
  a4 := Tryd.isAgg4
  z4 := Tryd.sizeOf4
  v4 := Tryd.zeroValue4
  t9 := Tryd.underlying9
  a9 := Tryd.isAgg9
  z9 := Tryd.sizeOf9
  v9 := Tryd.zeroValue9 }
def laysItoa_ren : Go.Shelf.Ren := ⟨fun | 171 => 41 | 243 => 60 | 246 => 68 | 283 => 72 | 284 => 73 | 285 => 74 | 286 => 75 | 129 => 79 | 317 => 78 | 318 => 80 | 319 => 81 | 320 => 82 | 337 => 83 | 338 => 84 | n => n, fun | 3 => 3 | 9 => 9 | 2 => 2 | 4 => 4 | 171 => 111 | 0 => 0 | 53 => 62 | 37 => 25 | 5 => 5 | 173 => 114 | 212 => 123 | 51 => 80 | 20 => 20 | 213 => 124 | 46 => 94 | 232 => 127 | 233 => 128 | n => n, fun | 17 => 3 | 18 => 4 | 19 => 5 | n => n⟩
theorem laysItoa : Go.Proofs.LaysM.n171 Tryd.prog laysItoa_ren := {
  mixed := by kernel_rfl
  f129 := Tryd.func79.trans (congrArg some (by kernel_rfl))
  f171 := Tryd.func41.trans (congrArg some (by kernel_rfl))
  f243 := Tryd.func60.trans (congrArg some (by kernel_rfl))
  f246 := Tryd.func68.trans (congrArg some (by kernel_rfl))
  f283 := Tryd.func72.trans (congrArg some (by kernel_rfl))
  f284 := Tryd.func73.trans (congrArg some (by kernel_rfl))
  f285 := Tryd.func74.trans (congrArg some (by kernel_rfl))
  f286 := Tryd.func75.trans (congrArg some (by kernel_rfl))
  f317 := Tryd.func78.trans (congrArg some (by kernel_rfl))
  f318 := Tryd.func80.trans (congrArg some (by kernel_rfl))
  f319 := Tryd.func81.trans (congrArg some (by kernel_rfl))
  f320 := Tryd.func82.trans (congrArg some (by kernel_rfl))
  f337 := Tryd.func83.trans (congrArg some (by kernel_rfl))
  f338 := Tryd.func84.trans (congrArg some (by kernel_rfl))
  t0 := Tryd.underlying0
  a0 := Tryd.isAgg0
  z0 := Tryd.sizeOf0
  v0 := Tryd.zeroValue0
  t2 := Tryd.underlying2
  a2 := Tryd.isAgg2
  z2 := Tryd.sizeOf2
  v2 := Tryd.zeroValue2
  t3 := Tryd.underlying3
  a3 := Tryd.isAgg3
  z3 := Tryd.sizeOf3
  v3 := Tryd.zeroValue3
  t4 := Tryd.underlying4
  a4 := Tryd.isAgg4
  z4 := Tryd.sizeOf4
  v4 := Tryd.zeroValue4
  t5 := Tryd.underlying5
  a5 := Tryd.isAgg5
  z5 := Tryd.sizeOf5
  v5 := Tryd.zeroValue5
  t9 := Tryd.underlying9
  a9 := Tryd.isAgg9
  z9 := Tryd.sizeOf9
  v9 := Tryd.zeroValue9
  t20 := Tryd.underlying20
  a20 := Tryd.isAgg20
  z20 := Tryd.sizeOf20
  v20 := Tryd.zeroValue20
  t37 := Tryd.underlying25
  a37 := Tryd.isAgg25
  z37 := Tryd.sizeOf25
  v37 := Tryd.zeroValue25
  t46 := Tryd.underlying94
  a46 := Tryd.isAgg94
  z46 := Tryd.sizeOf94
  v46 := Tryd.zeroValue94
  t51 := Tryd.underlying80
  a51 := Tryd.isAgg80
  z51 := Tryd.sizeOf80
  v51 := Tryd.zeroValue80
  t53 := Tryd.underlying62
  a53 := Tryd.isAgg62
  z53 := Tryd.sizeOf62
  v53 := Tryd.zeroValue62
  t171 := Tryd.underlying111
  a171 := Tryd.isAgg111
  z171 := Tryd.sizeOf111
  v171 := Tryd.zeroValue111
  t173 := Tryd.underlying114
  a173 := Tryd.isAgg114
  z173 := Tryd.sizeOf114
  v173 := Tryd.zeroValue114
  t212 := Tryd.underlying123
  a212 := Tryd.isAgg123
  z212 := Tryd.sizeOf123
  v212 := Tryd.zeroValue123
  t213 := Tryd.underlying124
  a213 := Tryd.isAgg124
  z213 := Tryd.sizeOf124
  t232 := Tryd.underlying127
  a232 := Tryd.isAgg127
  z232 := Tryd.sizeOf127
  v232 := Tryd.zeroValue127
  t233 := Tryd.underlying128
  a233 := Tryd.isAgg128
  z233 := Tryd.sizeOf128
  v233 := Tryd.zeroValue128
  g17 := by kernel_rfl
  g18 := by kernel_rfl
  g19 := by kernel_rfl
  i0 := by kernel_rfl
  i2 := by kernel_rfl
  i3 := by kernel_rfl
  i4 := by kernel_rfl
  i5 := by kernel_rfl
  i9 := by kernel_rfl
  i20 := by kernel_rfl
  i37 := by kernel_rfl
  i46 := by kernel_rfl
  i51 := by kernel_rfl
  i53 := by kernel_rfl
  i171 := by kernel_rfl
  i173 := by kernel_rfl
  i212 := by kernel_rfl
  i232 := by kernel_rfl
  i233 := by kernel_rfl
  m17 := by kernel_rfl
  m18 := by kernel_rfl
  m19 := by kernel_rfl }
def laysAtoi_ren : Go.Shelf.Ren := ⟨fun | 172 => 39 | 244 => 57 | 245 => 58 | 247 => 62 | 279 => 63 | 280 => 64 | 281 => 65 | 282 => 66 | 287 => 69 | 316 => 70 | 171 => 41 | 205 => 71 | 321 => 76 | 322 => 77 | 243 => 60 | 246 => 68 | 283 => 72 | 284 => 73 | 285 => 74 | 286 => 75 | 129 => 79 | 317 => 78 | 318 => 80 | 319 => 81 | 320 => 82 | 337 => 83 | 338 => 84 | n => n, fun | 9 => 9 | 3 => 3 | 75 => 71 | 76 => 72 | 4 => 4 | 5 => 5 | 167 => 97 | 37 => 25 | 0 => 0 | 85 => 98 | 2 => 2 | 168 => 100 | 53 => 62 | 175 => 105 | 46 => 94 | 210 => 109 | 127 => 118 | 145 => 121 | 143 => 119 | 21 => 21 | 171 => 111 | 173 => 114 | 212 => 123 | 51 => 80 | 20 => 20 | 213 => 124 | 232 => 127 | 233 => 128 | 80 => 129 | n => n, fun | 15 => 1 | 16 => 2 | 17 => 3 | 18 => 4 | 19 => 5 | n => n⟩
theorem laysAtoi : Go.Proofs.LaysC.n172 Tryd.prog laysAtoi_ren := {
  mixed := by kernel_rfl
  f129 := Tryd.func79.trans (congrArg some (by kernel_rfl))
  f171 := Tryd.func41.trans (congrArg some (by kernel_rfl))
  f172 := Tryd.func39.trans (congrArg some (by kernel_rfl))
  f205 := Tryd.func71.trans (congrArg some (by kernel_rfl))
  f243 := Tryd.func60.trans (congrArg some (by kernel_rfl))
  f244 := Tryd.func57.trans (congrArg some (by kernel_rfl))
  f245 := Tryd.func58.trans (congrArg some (by kernel_rfl))
  f246 := Tryd.func68.trans (congrArg some (by kernel_rfl))
  f247 := Tryd.func62.trans (congrArg some (by kernel_rfl))
  f279 := Tryd.func63.trans (congrArg some (by kernel_rfl))
  f280 := Tryd.func64.trans (congrArg some (by kernel_rfl))
  f281 := Tryd.func65.trans (congrArg some (by kernel_rfl))
  f282 := Tryd.func66.trans (congrArg some (by kernel_rfl))
  f283 := Tryd.func72.trans (congrArg some (by kernel_rfl))
  f284 := Tryd.func73.trans (congrArg some (by kernel_rfl))
  f285 := Tryd.func74.trans (congrArg some (by kernel_rfl))
  f286 := Tryd.func75.trans (congrArg some (by kernel_rfl))
  f287 := Tryd.func69.trans (congrArg some (by kernel_rfl))
  f316 := Tryd.func70.trans (congrArg some (by kernel_rfl))
  f317 := Tryd.func78.trans (congrArg some (by kernel_rfl))
  f318 := Tryd.func80.trans (congrArg some (by kernel_rfl))
  f319 := Tryd.func81.trans (congrArg some (by kernel_rfl))
  f320 := Tryd.func82.trans (congrArg some (by kernel_rfl))
  f321 := Tryd.func76.trans (congrArg some (by kernel_rfl))
  f322 := Tryd.func77.trans (congrArg some (by kernel_rfl))
  f337 := Tryd.func83.trans (congrArg some (by kernel_rfl))
  f338 := Tryd.func84.trans (congrArg some (by kernel_rfl))
  t0 := Tryd.underlying0
  a0 := Tryd.isAgg0
  z0 := Tryd.sizeOf0
  v0 := Tryd.zeroValue0
  t2 := Tryd.underlying2
  a2 := Tryd.isAgg2
  z2 := Tryd.sizeOf2
  v2 := Tryd.zeroValue2
  t3 := Tryd.underlying3
  a3 := Tryd.isAgg3
  z3 := Tryd.sizeOf3
  v3 := Tryd.zeroValue3
  t4 := Tryd.underlying4
  a4 := Tryd.isAgg4
  z4 := Tryd.sizeOf4
  v4 := Tryd.zeroValue4
  t5 := Tryd.underlying5
  a5 := Tryd.isAgg5
  z5 := Tryd.sizeOf5
  v5 := Tryd.zeroValue5
  t9 := Tryd.underlying9
  a9 := Tryd.isAgg9
  z9 := Tryd.sizeOf9
  v9 := Tryd.zeroValue9
  t20 := Tryd.underlying20
  a20 := Tryd.isAgg20
  z20 := Tryd.sizeOf20
  v20 := Tryd.zeroValue20
  t21 := Tryd.underlying21
  a21 := Tryd.isAgg21
  z21 := Tryd.sizeOf21
  v21 := Tryd.zeroValue21
  t37 := Tryd.underlying25
  a37 := Tryd.isAgg25
  z37 := Tryd.sizeOf25
  v37 := Tryd.zeroValue25
  t46 := Tryd.underlying94
  a46 := Tryd.isAgg94
  z46 := Tryd.sizeOf94
  v46 := Tryd.zeroValue94
  t51 := Tryd.underlying80
  a51 := Tryd.isAgg80
  z51 := Tryd.sizeOf80
  v51 := Tryd.zeroValue80
  t53 := Tryd.underlying62
  a53 := Tryd.isAgg62
  z53 := Tryd.sizeOf62
  v53 := Tryd.zeroValue62
  t75 := Tryd.underlying71
  a75 := Tryd.isAgg71
  z75 := Tryd.sizeOf71
  v75 := Tryd.zeroValue71
  t76 := Tryd.underlying72
  a76 := Tryd.isAgg72
  z76 := Tryd.sizeOf72
  v76 := Tryd.zeroValue72
  t85 := Tryd.underlying98
  a85 := Tryd.isAgg98
  z85 := Tryd.sizeOf98
  v85 := Tryd.zeroValue98
  t127 := Tryd.underlying118
  a127 := Tryd.isAgg118
  z127 := Tryd.sizeOf118
  v127 := Tryd.zeroValue118
  t143 := Tryd.underlying119
  a143 := Tryd.isAgg119
  z143 := Tryd.sizeOf119
  v143 := Tryd.zeroValue119
  t145 := Tryd.underlying121
  a145 := Tryd.isAgg121
  z145 := Tryd.sizeOf121
  v145 := Tryd.zeroValue121
  t167 := Tryd.underlying97
  a167 := Tryd.isAgg97
  z167 := Tryd.sizeOf97
  v167 := Tryd.zeroValue97
  t168 := Tryd.underlying100
  a168 := Tryd.isAgg100
  z168 := Tryd.sizeOf100
  v168 := Tryd.zeroValue100
  t171 := Tryd.underlying111
  a171 := Tryd.isAgg111
  z171 := Tryd.sizeOf111
  v171 := Tryd.zeroValue111
  t173 := Tryd.underlying114
  a173 := Tryd.isAgg114
  z173 := Tryd.sizeOf114
  v173 := Tryd.zeroValue114
  t175 := Tryd.underlying105
  a175 := Tryd.isAgg105
  z175 := Tryd.sizeOf105
  v175 := Tryd.zeroValue105
  t210 := Tryd.underlying109
  a210 := Tryd.isAgg109
  z210 := Tryd.sizeOf109
  v210 := Tryd.zeroValue109
  t212 := Tryd.underlying123
  a212 := Tryd.isAgg123
  z212 := Tryd.sizeOf123
  v212 := Tryd.zeroValue123
  t213 := Tryd.underlying124
  a213 := Tryd.isAgg124
  z213 := Tryd.sizeOf124
  t232 := Tryd.underlying127
  a232 := Tryd.isAgg127
  z232 := Tryd.sizeOf127
  v232 := Tryd.zeroValue127
  t233 := Tryd.underlying128
  a233 := Tryd.isAgg128
  z233 := Tryd.sizeOf128
  v233 := Tryd.zeroValue128
  g15 := by kernel_rfl
  g16 := by kernel_rfl
  g17 := by kernel_rfl
  g18 := by kernel_rfl
  g19 := by kernel_rfl
  t80 := Tryd.underlying129
  a80 := Tryd.isAgg129
  z80 := Tryd.sizeOf129
  v80 := Tryd.zeroValue129
  i0 := by kernel_rfl
  i2 := by kernel_rfl
  i3 := by kernel_rfl
  i4 := by kernel_rfl
  i5 := by kernel_rfl
  i9 := by kernel_rfl
  i20 := by kernel_rfl
  i21 := by kernel_rfl
  i37 := by kernel_rfl
  i46 := by kernel_rfl
  i51 := by kernel_rfl
  i53 := by kernel_rfl
  i75 := by kernel_rfl
  i76 := by kernel_rfl
  i80 := by kernel_rfl
  i85 := by kernel_rfl
  i127 := by kernel_rfl
  i143 := by kernel_rfl
  i145 := by kernel_rfl
  i167 := by kernel_rfl
  i168 := by kernel_rfl
  i171 := by kernel_rfl
  i173 := by kernel_rfl
  i175 := by kernel_rfl
  i210 := by kernel_rfl
  i212 := by kernel_rfl
  i232 := by kernel_rfl
  i233 := by kernel_rfl
  m15 := by kernel_rfl
  m16 := by kernel_rfl
  m17 := by kernel_rfl
  m18 := by kernel_rfl
  m19 := by kernel_rfl
  c0 := by kernel_rfl
  c2 := by kernel_rfl
  c3 := by kernel_rfl
  c4 := by kernel_rfl
  c5 := by kernel_rfl
  c9 := by kernel_rfl
  c20 := by kernel_rfl
  c21 := by kernel_rfl
  c37 := by kernel_rfl
  c46 := by kernel_rfl
  c51 := by kernel_rfl
  c53 := by kernel_rfl
  c75 := by kernel_rfl
  c76 := by kernel_rfl
  c80 := by kernel_rfl
  c85 := by kernel_rfl
  c127 := by kernel_rfl
  c143 := by kernel_rfl
  c145 := by kernel_rfl
  c167 := by kernel_rfl
  c168 := by kernel_rfl
  c171 := by kernel_rfl
  c173 := by kernel_rfl
  c175 := by kernel_rfl
  c210 := by kernel_rfl
  c212 := by kernel_rfl
  c213 := by kernel_rfl
  c232 := by kernel_rfl
  c233 := by kernel_rfl }
end Go.Proofs.YtpikdngccgdhiaaDoor

/-
  ManifestNames: the walks.
-/
namespace Go.Proofs.YtpikdngccgdhiaaDoor
open Go Go.RowKit

theorem gPow : Tryd.prog.globalNamed "internal/strconv.uint64pow10" = some 3 := by kernel_rfl
theorem gSyn : Tryd.prog.globalNamed "strconv.ErrSyntax" = some 1 := by kernel_rfl
theorem gRng : Tryd.prog.globalNamed "strconv.ErrRange" = some 2 := by kernel_rfl
/-- the library's variables that are read -/
structure NTab (w : World) : Prop where
  pow : Lib.TabIs Tryd.prog w "internal/strconv.uint64pow10" .u64 Lib.pow10Tab
  syn : ∃ tp p, w.var? Tryd.prog "strconv.ErrSyntax" = some #[.iface tp p]
  rng : ∃ tp p, w.var? Tryd.prog "strconv.ErrRange" = some #[.iface tp p]
theorem NTab.kept {w w' : World} (h : NTab w) (hb : Below w.heap.size w w') : NTab w' :=
  ⟨Joins.var_stays gPow h.pow hb (Nat.le_refl _), let ⟨tp, p, e⟩ := h.syn; ⟨tp, p, Joins.var_stays gSyn e hb (Nat.le_refl _)⟩, let ⟨tp, p, e⟩ := h.rng; ⟨tp, p, Joins.var_stays gRng e hb (Nat.le_refl _)⟩⟩
theorem andThenM {w w1 w2 : World} (h : Below w.heap.size w w1) (k : Below w1.heap.size w1 w2) : Below w.heap.size w w2 := h.trans (k.mono h.size)
theorem trim_any (s p : ByteArray) (w : World) : Calls Tryd.prog 40 #[.string s, .string p] w fun e w' => e = .returned (.string ⟨(Lib.trimPrefix s.data.toList p.data.toList).toArray⟩) ∧ w' = w := Any.strings_TrimPrefix laysTrim s p w
theorem itoa_pos (u : Nat) (hu : u ≤ 1099511627776) (w : World) (hT : NTab w) : Calls Tryd.prog 41 #[.int .i64 (u : Int)] w fun e w' => e = .returned (.string ⟨(Lib.decDigits u).toArray⟩) ∧ Below w.heap.size w w' := by
  refine (Any.strconv_Itoa laysItoa (u : Int) (by omega) (by omega) w hT.pow).mono ?_
  rintro e w' ⟨rfl, k, os, rfl⟩
  rw [Lib.itoa_nonneg]
  refine ⟨rfl, ⟨rfl, rfl, rfl, ?_, fun j hj => ?_⟩⟩
  · show w.heap.size ≤ (w.heap ++ os).size
    rw [Array.size_append]
    omega
  · show (w.heap ++ os)[j]? = w.heap[j]?
    rw [Array.getElem?_append_left hj]
theorem atoi_good (s : ByteArray) (hs : s.size ≤ 281474976710656) (v : Int) (h : Lib.atoiAll s.data.toList = .ok v) (w : World) : Calls Tryd.prog 39 #[.string s] w fun e w' => e = .returned (.tuple #[.int .i64 v, .nilIface]) ∧ Below w.heap.size w w' := by
  refine (Any.strconv_Atoi_ok laysAtoi s (by omega) v h w).mono ?_
  rintro e w' ⟨rfl, rfl | ⟨t, rfl⟩⟩
  · exact ⟨rfl, Below.refl _ _⟩
  · exact ⟨rfl, Lib.bytesWorld_below _ _ _⟩
theorem atoi_bad (s : ByteArray) (hs : s.size ≤ 281474976710656) (h : ∀ v, Lib.atoiAll s.data.toList ≠ .ok v) (w : World) (hT : NTab w) : Calls Tryd.prog 39 #[.string s] w fun e w' => ∃ z t p, e = .returned (.tuple #[.int .i64 z, .iface t (.pointer p)]) ∧ Below w.heap.size w w' := by
  cases hc : Lib.atoiAll s.data.toList with
  | ok v => exact absurd hc (h v)
  | «syntax» =>
    obtain ⟨tp, p, e⟩ := hT.syn
    refine (Any.strconv_Atoi_syntax_var laysAtoi s hs hc tp p w e).mono ?_
    rintro e w' ⟨N, rfl, _, _, hb⟩
    exact ⟨_, _, _, rfl, hb⟩
  | range =>
    obtain ⟨tp, p, e⟩ := hT.rng
    refine (Any.strconv_Atoi_range_var laysAtoi s hs hc tp p w e).mono ?_
    rintro e w' ⟨N, rfl, _, _, hb⟩
    exact ⟨_, _, _, rfl, hb⟩
theorem isnum_any (n : Int) (w : World) : Calls Tryd.prog 26 #[.int .i64 n] w fun e w' => e = .returned (.bool (decide (1 ≤ n ∧ n ≤ 1099511627776))) ∧ w' = w := by
  by_cases h1 : 1 ≤ n
  · by_cases h2 : n ≤ 1099511627776
    · rw [decide_eq_true ⟨h1, h2⟩]
      go_enter Tryd.func26, Tryd.ntmps26
      go_wp2
      go_ret
      exact ⟨rfl, rfl⟩
    · rw [decide_eq_false (fun h => h2 h.2)]
      go_enter Tryd.func26, Tryd.ntmps26
      go_wp2
      go_ret
      exact ⟨rfl, rfl⟩
  · rw [decide_eq_false (fun h => h1 h.1)]
    go_enter Tryd.func26, Tryd.ntmps26
    go_wp2
    go_ret
    exact ⟨rfl, rfl⟩
/-- manifest.Name -/
theorem name_any (n : Int) (w : World) (hT : NTab w) : Calls Tryd.prog 24 #[.int .i64 n] w fun e w' => e = .returned (.string ⟨(nmL n).toArray⟩) ∧ Below w.heap.size w w' := by
  have hi := isnum_any n w
  by_cases h : 1 ≤ n ∧ n ≤ 1099511627776
  · rw [decide_eq_true h] at hi
    obtain ⟨u, rfl⟩ : ∃ u : Nat, n = (u : Int) := ⟨n.toNat, by omega⟩
    rw [nm_in u (by omega) (by omega)]
    have HI := itoa_pos u (by omega) w hT
    have hl := decDigits_short 13 u (by omega)
    clear h hT
    go_enter Tryd.func24, Tryd.ntmps24
    go_wp2_with fail
    refine hi.mono ?_
    rintro e w1 ⟨rfl, rfl⟩
    go_wp2_with fail
    refine HI.mono ?_
    rintro e w2 ⟨rfl, b2⟩
    go_wp2
    go_ret
    exact ⟨rfl, b2⟩
  · rw [decide_eq_false h] at hi
    rw [nm_out n h]
    clear h hT
    go_enter Tryd.func24, Tryd.ntmps24
    go_wp2_with fail
    refine hi.mono ?_
    rintro e w1 ⟨rfl, rfl⟩
    go_wp2
    go_ret
    exact ⟨rfl, Below.refl _ _⟩
end Go.Proofs.YtpikdngccgdhiaaDoor
