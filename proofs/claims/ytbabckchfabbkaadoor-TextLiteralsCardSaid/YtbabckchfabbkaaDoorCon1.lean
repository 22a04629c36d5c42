/-
  What stands behind an opening quote: the pure part.
-/
import Derived.Test.YtbabckchfabbkaaDoorEsc
namespace Go.Proofs.YtbabckchfabbkaaDoor
open Go Go.RowKit Go.Lib
open Tx

/-- what content reads -/
def Tx.con (s : ByteArray) (p : Nat) (L : List UInt8) (e : Nat) : ByteArray × Nat × Nat :=
  if _h : p < s.size then
    if p < e then con s (p + (Utf8.decode s p).2) L e
    else if (Utf8.decode s p).1 = 34 then (⟨L.toArray⟩, p + 1, 0)
    else if (Utf8.decode s p).1 = 92 then
      if (esc (s.extract p s.size)).2 = 0 then (⟨#[]⟩, 0, 27)
      else con s (p + (Utf8.decode s p).2) (L ++ (esc (s.extract p s.size)).1.data.toList) (p + (esc (s.extract p s.size)).2)
    else if (ctl ((Utf8.decode s p).1 : Int) || among hids ((Utf8.decode s p).1 : Int) || stray s p) = true then (⟨#[]⟩, 0, 26)
    else con s (p + (Utf8.decode s p).2) (L ++ (Utf8.encode ((Utf8.decode s p).1 : Int)).data.toList) e
  else (⟨#[]⟩, 0, 25)
termination_by s.size - p
decreasing_by
  all_goals
    have := decode_fits s p (by assumption)
    omega
theorem con_out (s : ByteArray) (p : Nat) (L : List UInt8) (e : Nat) (h : ¬ p < s.size) : con s p L e = (⟨#[]⟩, 0, 25) := by rw [con, dif_neg h]
theorem con_skip (s : ByteArray) (p : Nat) (L : List UInt8) (e : Nat) (h : p < s.size) (h1 : p < e) : con s (p + (Utf8.decode s p).2) L e = con s p L e := by
  conv => rhs; rw [con, dif_pos h, if_pos h1]
theorem con_q (s : ByteArray) (p : Nat) (L : List UInt8) (e : Nat) (h : p < s.size) (h1 : ¬ p < e) (h2 : (Utf8.decode s p).1 = 34) : con s p L e = (⟨L.toArray⟩, p + 1, 0) := by
  rw [con, dif_pos h, if_neg h1, if_pos h2]
theorem con_e0 (s : ByteArray) (p : Nat) (L : List UInt8) (e : Nat) (h : p < s.size) (h1 : ¬ p < e) (h2 : (Utf8.decode s p).1 = 92) (h3 : (esc (s.extract p s.size)).2 = 0) : con s p L e = (⟨#[]⟩, 0, 27) := by
  rw [con, dif_pos h, if_neg h1, if_neg (by rw [h2]; decide), if_pos h2, if_pos h3]
theorem con_e (s : ByteArray) (p : Nat) (L : List UInt8) (e : Nat) (h : p < s.size) (h1 : ¬ p < e) (h2 : (Utf8.decode s p).1 = 92) (h3 : ¬ (esc (s.extract p s.size)).2 = 0) : con s (p + (Utf8.decode s p).2) (L ++ (esc (s.extract p s.size)).1.data.toList) (p + (esc (s.extract p s.size)).2) = con s p L e := by
  conv => rhs; rw [con, dif_pos h, if_neg h1, if_neg (by rw [h2]; decide), if_pos h2, if_neg h3]
theorem con_raw (s : ByteArray) (p : Nat) (L : List UInt8) (e : Nat) (h : p < s.size) (h1 : ¬ p < e) (h2 : ¬ (Utf8.decode s p).1 = 34) (h3 : ¬ (Utf8.decode s p).1 = 92) (h4 : (ctl ((Utf8.decode s p).1 : Int) || among hids ((Utf8.decode s p).1 : Int) || stray s p) = true) : con s p L e = (⟨#[]⟩, 0, 26) := by
  rw [con, dif_pos h, if_neg h1, if_neg h2, if_neg h3, if_pos h4]
theorem con_on (s : ByteArray) (p : Nat) (L : List UInt8) (e : Nat) (h : p < s.size) (h1 : ¬ p < e) (h2 : ¬ (Utf8.decode s p).1 = 34) (h3 : ¬ (Utf8.decode s p).1 = 92) (h4 : (ctl ((Utf8.decode s p).1 : Int) || among hids ((Utf8.decode s p).1 : Int) || stray s p) = false) : con s (p + (Utf8.decode s p).2) (L ++ (Utf8.encode ((Utf8.decode s p).1 : Int)).data.toList) e = con s p L e := by
  conv => rhs; rw [con, dif_pos h, if_neg h1, if_neg h2, if_neg h3, if_neg (by rw [h4]; simp)]
theorem fit0 : (((⟨#[]⟩, 0) : ByteArray × Nat)).1.size ≤ 4 ∧ (((⟨#[]⟩, 0) : ByteArray × Nat)).2 ≤ 10 := by decide
theorem fit2 (x : UInt8) : (((⟨#[x]⟩, 2) : ByteArray × Nat)).1.size ≤ 4 ∧ (((⟨#[x]⟩, 2) : ByteArray × Nat)).2 ≤ 10 := ⟨by show (1 : Nat) ≤ 4; decide, by show (2 : Nat) ≤ 10; decide⟩
theorem fit4 (x : UInt8) : (((⟨#[x]⟩, 4) : ByteArray × Nat)).1.size ≤ 4 ∧ (((⟨#[x]⟩, 4) : ByteArray × Nat)).2 ≤ 10 := ⟨by show (1 : Nat) ≤ 4; decide, by show (4 : Nat) ≤ 10; decide⟩
theorem erL_le (t : ByteArray) : ∀ (k p v : Nat), 7 - p ≤ k → p ≤ 6 → (erL t p v).1.size ≤ 4 ∧ (erL t p v).2 ≤ 10
  | 0, p, v, hk, hp => by omega
  | k + 1, p, v, hk, hp => by
    rw [erL]
    split
    · split
      · have h9 := encode_le (v : Int)
        dsimp only
        generalize Utf8.encode (v : Int) = X at *
        exact ⟨h9, by omega⟩
      · split
        · exact fit0
        · split
          · exact fit0
          · exact erL_le t k (p + 1) _ (by omega) (by omega)
    · exact fit0
theorem eb_le (s : ByteArray) : (eb s).1.size ≤ 4 ∧ (eb s).2 ≤ 10 := by
  unfold eb
  split
  · exact fit0
  · split
    · exact fit4 _
    · exact fit0
theorem esc_le (s : ByteArray) : (esc s).1.size ≤ 4 ∧ (esc s).2 ≤ 10 := by
  unfold esc
  split
  · exact eb_le s
  · split
    · exact erL_le _ 7 0 0 (by omega) (by omega)
    · repeat' split
      all_goals first | exact fit2 _ | exact fit0
theorem list_size (E : ByteArray) : E.data.toList.length = E.size := by rw [Array.length_toList]; rfl
/-- what is read fits -/
theorem con_fits (s : ByteArray) : ∀ (k p : Nat) (L : List UInt8) (e : Nat), s.size - p ≤ k → L.length ≤ 4 * p → p ≤ s.size →
    (con s p L e).1.size ≤ 4 * s.size ∧ (con s p L e).2.1 ≤ s.size ∧ ((con s p L e).2.2 = 0 → 0 < (con s p L e).2.1) ∧ (con s p L e).2.2 ≤ 27 ∧ ((con s p L e).2.2 ≠ 0 → (con s p L e).1 = ⟨#[]⟩ ∧ (con s p L e).2.1 = 0)
  | 0, p, L, e, hk, hL, hp => by
    rw [con_out s p L e (by omega)]
    exact ⟨Nat.zero_le _, Nat.zero_le _, fun h => (by cases h), by show (25 : Nat) ≤ 27; omega, fun _ => ⟨rfl, rfl⟩⟩
  | k + 1, p, L, e, hk, hL, hp => by
    by_cases h : p < s.size
    · have hd := decode_fits s p h
      by_cases h1 : p < e
      · rw [← con_skip s p L e h h1]
        exact con_fits s k _ L e (by omega) (by omega) (by omega)
      · by_cases h2 : (Utf8.decode s p).1 = 34
        · rw [con_q s p L e h h1 h2]
          refine ⟨?_, by show p + 1 ≤ s.size; omega, fun _ => Nat.succ_pos _, by show (0 : Nat) ≤ 27; omega, fun h => (h rfl).elim⟩
          show L.toArray.size ≤ _
          simp
          omega
        · by_cases h3 : (Utf8.decode s p).1 = 92
          · by_cases h4 : (esc (s.extract p s.size)).2 = 0
            · rw [con_e0 s p L e h h1 h3 h4]
              exact ⟨Nat.zero_le _, Nat.zero_le _, fun h => (by cases h), by show (27 : Nat) ≤ 27; omega, fun _ => ⟨rfl, rfl⟩⟩
            · rw [← con_e s p L e h h1 h3 h4]
              refine con_fits s k _ _ _ (by omega) ?_ (by omega)
              have := (esc_le (s.extract p s.size)).1
              rw [List.length_append, list_size]
              omega
          · cases h4 : (ctl ((Utf8.decode s p).1 : Int) || among hids ((Utf8.decode s p).1 : Int) || stray s p) with
            | true =>
              rw [con_raw s p L e h h1 h2 h3 h4]
              exact ⟨Nat.zero_le _, Nat.zero_le _, fun h => (by cases h), by show (26 : Nat) ≤ 27; omega, fun _ => ⟨rfl, rfl⟩⟩
            | false =>
              rw [← con_on s p L e h h1 h2 h3 h4]
              refine con_fits s k _ _ _ (by omega) ?_ (by omega)
              have := encode_le ((Utf8.decode s p).1 : Int)
              rw [List.length_append, list_size]
              omega
    · rw [con_out s p L e h]
      exact ⟨Nat.zero_le _, Nat.zero_le _, fun h => (by cases h), by show (25 : Nat) ≤ 27; omega, fun _ => ⟨rfl, rfl⟩⟩
end Go.Proofs.YtbabckchfabbkaaDoor
