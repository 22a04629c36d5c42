import Derived.Lib.AtoiAllCases
import Derived.Lib.ItoaNum
import Derived.Lib.Strings
/-
  ManifestNames: names and numbers, no program.
-/
namespace Go.Proofs.YtppabcihbpbfpaaGreatDoor
open Go

/-- the name of a number -/
def nmL (n : Int) : List UInt8 := if 1 ≤ n ∧ n ≤ 1099511627776 then 115 :: Lib.decDigits n.toNat else []
/-- what digits spell, behind acc -/
def dval (acc : Nat) (l : List UInt8) : Nat := l.foldl (fun a c => a * 10 + (c.toNat - 48)) acc
def Dig (l : List UInt8) : Prop := ∀ c ∈ l, 48 ≤ c.toNat ∧ c.toNat ≤ 57
theorem dg_nat (m : Nat) (h : m < 10) : (UInt8.ofNat (48 + m)).toNat = 48 + m := by
  simp [UInt8.toNat_ofNat]
  omega
theorem decDigits_dig (u : Nat) : Dig (Lib.decDigits u) := by
  induction u using Nat.strongRecOn with
  | _ u ih =>
    intro c hc
    rw [Lib.decDigits] at hc
    by_cases h : u < 10
    · rw [dif_pos h] at hc
      obtain rfl := List.mem_singleton.1 hc
      have := dg_nat u h
      omega
    · rw [dif_neg h] at hc
      rcases List.mem_append.1 hc with hc | hc
      · exact ih (u / 10) (by omega) c hc
      · obtain rfl := List.mem_singleton.1 hc
        have := dg_nat (u % 10) (by omega)
        omega
theorem decDigits_val (u : Nat) : dval 0 (Lib.decDigits u) = u := by
  induction u using Nat.strongRecOn with
  | _ u ih =>
    rw [Lib.decDigits]
    by_cases h : u < 10
    · rw [dif_pos h]
      have := dg_nat u h
      simp only [dval, List.foldl_cons, List.foldl_nil]
      omega
    · rw [dif_neg h]
      have h1 := ih (u / 10) (by omega)
      have h2 := dg_nat (u % 10) (by omega)
      unfold dval at h1 ⊢
      rw [List.foldl_append, h1]
      simp only [List.foldl_cons, List.foldl_nil]
      omega
theorem decDigits_cons (u : Nat) : ∃ c r, Lib.decDigits u = c :: r := by
  cases h : Lib.decDigits u with
  | nil =>
    rw [Lib.decDigits] at h
    split at h
    · cases h
    · simp at h
  | cons c r => exact ⟨c, r, rfl⟩
theorem dval_ge : ∀ (l : List UInt8) (acc : Nat), acc ≤ dval acc l
  | [], acc => Nat.le_refl _
  | c :: r, acc => by
    have := dval_ge r (acc * 10 + (c.toNat - 48))
    simp only [dval, List.foldl_cons] at this ⊢
    omega
theorem dval_cons (c : UInt8) (r : List UInt8) (acc : Nat) : dval acc (c :: r) = dval (acc * 10 + (c.toNat - 48)) r := by simp only [dval, List.foldl_cons]
theorem parse_dig (l : List UInt8) : ∀ (acc : Nat), Dig l → dval acc l < 18446744073709551616 → Lib.parseUint10 acc l = .ok (dval acc l) := by
  induction l with
  | nil => exact fun acc _ _ => rfl
  | cons c r ih =>
    intro acc hd hv
    have h1 := hd c (List.mem_cons_self ..)
    have h2 := dval_ge r (acc * 10 + (c.toNat - 48))
    rw [dval_cons] at hv ⊢
    rw [Lib.parseUint10, if_pos h1, if_neg (by omega), if_neg (by omega)]
    exact ih _ (fun x hx => hd x (List.mem_cons_of_mem _ hx)) hv
theorem atoi_dec (u : Nat) (hu : u < 9223372036854775808) : Lib.atoiAll (Lib.decDigits u) = .ok (u : Int) := by
  obtain ⟨c, r, e⟩ := decDigits_cons u
  have hd := decDigits_dig u
  have hv := decDigits_val u
  rw [e] at hd hv ⊢
  have hc := hd c (List.mem_cons_self ..)
  rw [Lib.atoiAll_plain c r (by omega) (by omega)]
  have hp : Lib.parseMag (c :: r) = .ok u := by
    unfold Lib.parseMag
    rw [if_neg (by simp), parse_dig _ 0 hd (by omega), hv]
  rw [hp]
  unfold Lib.signless
  simp
  omega
/-- what manifest.Num answers -/
def mNum (name : List UInt8) : Int × Bool := match Lib.atoiAll (Lib.trimPrefix name [115]) with
  | .ok v => if nmL v = name then (v, true) else (0, false)
  | _ => (0, false)
/-- the reference's loop -/
def rLoop : Int → List UInt8 → Option Int
  | n, [] => some n
  | n, c :: r => if n * 10 + (c.toNat : Int) - 48 < 0 ∨ 1099511627776 < n * 10 + (c.toNat : Int) - 48 then none else rLoop (n * 10 + (c.toNat : Int) - 48) r
def rNum (name : List UInt8) : Int × Bool := match rLoop 0 ((name.drop 1).take 19) with
  | none => (0, false)
  | some n => if n < 1 then (0, false) else if nmL n = name then (n, true) else (0, false)
theorem rLoop_bounds : ∀ (l : List UInt8) (n m : Int), 0 ≤ n → n ≤ 1099511627776 → rLoop n l = some m → 0 ≤ m ∧ m ≤ 1099511627776
  | [], n, m, h0, h1, h => by
    simp only [rLoop] at h
    injection h with h
    omega
  | c :: r, n, m, h0, h1, h => by
    simp only [rLoop] at h
    split at h
    · cases h
    · exact rLoop_bounds r _ m (by omega) (by omega) h
theorem rLoop_dig (l : List UInt8) : ∀ (acc : Nat), Dig l → dval acc l ≤ 1099511627776 → rLoop (acc : Int) l = some (dval acc l : Int) := by
  induction l with
  | nil => exact fun acc _ _ => rfl
  | cons c r ih =>
    intro acc hd hv
    have h1 := hd c (List.mem_cons_self ..)
    have h2 := dval_ge r (acc * 10 + (c.toNat - 48))
    rw [dval_cons] at hv ⊢
    have e : (acc : Int) * 10 + (c.toNat : Int) - 48 = ((acc * 10 + (c.toNat - 48) : Nat) : Int) := by omega
    rw [rLoop, e, if_neg (by omega)]
    exact ih _ (fun x hx => hd x (List.mem_cons_of_mem _ hx)) hv
theorem decDigits_short : ∀ (k u : Nat), u < 10 ^ (k + 1) → (Lib.decDigits u).length ≤ k + 1
  | 0, u, h => by
    rw [Lib.decDigits_one (by omega)]
    exact Nat.le_refl _
  | k + 1, u, h => by
    rw [Lib.decDigits]
    split
    · simp
    · have := decDigits_short k (u / 10) (by rw [Nat.pow_succ] at h; omega)
      simp only [List.length_append, List.length_cons, List.length_nil]
      omega
theorem nm_in (u : Nat) (h1 : 1 ≤ u) (h2 : u ≤ 1099511627776) : nmL (u : Int) = 115 :: Lib.decDigits u := by
  unfold nmL
  rw [if_pos (by omega)]
  simp
theorem nm_out (n : Int) (h : ¬ (1 ≤ n ∧ n ≤ 1099511627776)) : nmL n = [] := by
  unfold nmL
  rw [if_neg h]
theorem trim_s (l : List UInt8) : Lib.trimPrefix (115 :: l) [115] = l := by
  simp [Lib.trimPrefix, Lib.hasPrefix]
theorem mNum_in (u : Nat) (h1 : 1 ≤ u) (h2 : u ≤ 1099511627776) : mNum (115 :: Lib.decDigits u) = ((u : Int), true) := by
  unfold mNum
  rw [trim_s, atoi_dec u (by omega)]
  simp only
  rw [if_pos (nm_in u h1 h2)]
theorem rNum_in (u : Nat) (h1 : 1 ≤ u) (h2 : u ≤ 1099511627776) : rNum (115 :: Lib.decDigits u) = ((u : Int), true) := by
  have hl := decDigits_short 13 u (by omega)
  have hv := decDigits_val u
  unfold rNum
  rw [List.drop_one, List.tail_cons, List.take_of_length_le (by omega)]
  have h := rLoop_dig (Lib.decDigits u) 0 (decDigits_dig u) (by omega)
  rw [hv] at h
  rw [show ((0 : Nat) : Int) = 0 from rfl] at h
  rw [h]
  simp only
  rw [if_neg (by omega), if_pos (nm_in u h1 h2)]
theorem nm_cases (v : Int) : (∃ u : Nat, 1 ≤ u ∧ u ≤ 1099511627776 ∧ v = (u : Int)) ∨ nmL v = [] := by
  by_cases h : 1 ≤ v ∧ v ≤ 1099511627776
  · exact .inl ⟨v.toNat, by omega, by omega, by omega⟩
  · exact .inr (nm_out v h)
theorem nums_same (name : List UInt8) : mNum name = rNum name := by
  by_cases hx : ∃ u : Nat, 1 ≤ u ∧ u ≤ 1099511627776 ∧ name = 115 :: Lib.decDigits u
  · obtain ⟨u, h1, h2, rfl⟩ := hx
    rw [mNum_in u h1 h2, rNum_in u h1 h2]
  · have hne : ∀ v : Int, nmL v ≠ [] → nmL v ≠ name := fun v hv e => by
      rcases nm_cases v with ⟨u, h1, h2, rfl⟩ | h
      · exact hx ⟨u, h1, h2, by rw [← e, nm_in u h1 h2]⟩
      · exact hv h
    have hm : mNum name = (0, false) := by
      unfold mNum
      split
      · rename_i v hv
        by_cases h0 : nmL v = []
        · rw [if_neg]
          intro e
          rw [← e, h0] at hv
          cases hv
        · rw [if_neg (hne v h0)]
      · rfl
    have hr : rNum name = (0, false) := by
      unfold rNum
      split
      · rfl
      · rename_i n hn
        obtain ⟨b0, b1⟩ := rLoop_bounds _ 0 n (by omega) (by omega) hn
        by_cases h1 : n < 1
        · rw [if_pos h1]
        · rw [if_neg h1, if_neg]
          refine hne n ?_
          unfold nmL
          rw [if_pos (by omega)]
          simp
    rw [hm, hr]
/-- what is named is known again -/
theorem num_back (n : Int) : mNum (nmL n) = if 1 ≤ n ∧ n ≤ 1099511627776 then (n, true) else (0, false) := by
  by_cases h : 1 ≤ n ∧ n ≤ 1099511627776
  · rw [if_pos h]
    obtain ⟨u, rfl⟩ : ∃ u : Nat, n = (u : Int) := ⟨n.toNat, by omega⟩
    rw [nm_in u (by omega) (by omega), mNum_in u (by omega) (by omega)]
  · rw [if_neg h, nm_out n h]
    rfl
theorem mNum_bounds (name : List UInt8) : 0 ≤ (mNum name).1 ∧ (mNum name).1 ≤ 1099511627776 := by
  rw [nums_same]
  unfold rNum
  split
  · exact ⟨by decide, by decide⟩
  · rename_i n hn
    obtain ⟨b0, b1⟩ := rLoop_bounds _ 0 n (by omega) (by omega) hn
    split
    · exact ⟨by decide, by decide⟩
    · split
      · exact ⟨b0, b1⟩
      · exact ⟨by decide, by decide⟩
end Go.Proofs.YtppabcihbpbfpaaGreatDoor
