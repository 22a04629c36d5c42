import Derived.Lib.ItoaMem
import Derived.Test.YtcnnpohnfoaceaaGreatDoorQT5
/-
  Numbers in decimal digits: what Atoi and Itoa hold, and what the reference's loop counts.
-/
namespace Go.Proofs.YtcnnpohnfoaceaaGreatDoor.Text
open Go Go.RowKit
namespace Tx

/-- every sign is a digit -/
def AllD (l : List UInt8) : Prop := ∀ c ∈ l, 48 ≤ c.toNat ∧ c.toNat ≤ 57
/-- the digits' value behind a -/
def dv (a : Nat) : List UInt8 → Nat
  | [] => a
  | c :: r => dv (a * 10 + (c.toNat - 48)) r
theorem dv_ge : ∀ (l : List UInt8) (a : Nat), a ≤ dv a l
  | [], a => Nat.le_refl _
  | c :: r, a => by
    have := dv_ge r (a * 10 + (c.toNat - 48))
    show a ≤ dv (a * 10 + (c.toNat - 48)) r
    omega
theorem dv_snoc : ∀ (l : List UInt8) (a : Nat) (c : UInt8), dv a (l ++ [c]) = dv a l * 10 + (c.toNat - 48)
  | [], _, _ => rfl
  | x :: r, a, c => dv_snoc r (a * 10 + (x.toNat - 48)) c
theorem parse_dv : ∀ (l : List UInt8) (a : Nat), AllD l → a < 18446744073709551616 → Lib.parseUint10 a l = if dv a l < 18446744073709551616 then .ok (dv a l) else .range
  | [], a, _, ha => by
    show Lib.NumEnd.ok a = _
    rw [if_pos (show dv a [] < _ from ha)]
    rfl
  | c :: r, a, hd, ha => by
    have hc := hd c (List.mem_cons_self ..)
    have hr : AllD r := fun x hx => hd x (List.mem_cons_of_mem _ hx)
    have hg := dv_ge r (a * 10 + (c.toNat - 48))
    rw [Lib.parseUint10, if_pos hc]
    by_cases h1 : 1844674407370955162 ≤ a
    · rw [if_pos h1, if_neg]
      show ¬ dv (a * 10 + (c.toNat - 48)) r < _
      omega
    · rw [if_neg h1]
      by_cases h2 : 18446744073709551616 ≤ a * 10 + (c.toNat - 48)
      · rw [if_pos h2, if_neg]
        show ¬ dv (a * 10 + (c.toNat - 48)) r < _
        omega
      · rw [if_neg h2]
        exact parse_dv r _ hr (by omega)
theorem digit_back (c : UInt8) (h : 48 ≤ c.toNat ∧ c.toNat ≤ 57) : UInt8.ofNat (48 + (c.toNat - 48)) = c := by
  apply u8_eq
  rw [show 48 + (c.toNat - 48) = c.toNat by omega]
  exact UInt8.toNat_ofNat_of_lt' (show c.toNat < 256 by omega)
theorem dv_pos (c : UInt8) (r : List UInt8) (h : 48 < c.toNat) : 1 ≤ dv 0 (c :: r) := by
  have := dv_ge r (0 * 10 + (c.toNat - 48))
  show 1 ≤ dv (0 * 10 + (c.toNat - 48)) r
  omega
theorem dig_canon : ∀ (n : Nat) (l : List UInt8), l.length = n → AllD l → l ≠ [] → (l.length = 1 ∨ ∀ c ∈ l.head?, 48 < c.toNat) → Lib.decDigits (dv 0 l) = l := by
  intro n
  induction n with
  | zero => intro l h _ hn _; exact absurd (List.eq_nil_of_length_eq_zero h) hn
  | succ n ih =>
    intro l hl hd _ hh
    obtain ⟨l', c, rfl⟩ : ∃ l' c, l = l' ++ [c] := by
      rcases List.eq_nil_or_concat l with h | ⟨l', c, h⟩
      · rw [h] at hl; simp at hl
      · exact ⟨l', c, by rw [h, List.concat_eq_append]⟩
    have hc := hd c (by simp)
    have hl' : l'.length = n := by simpa using hl
    rw [dv_snoc]
    by_cases h0 : l' = []
    · subst h0
      have e : dv 0 ([] : List UInt8) * 10 + (c.toNat - 48) = c.toNat - 48 := by show 0 * 10 + _ = _; omega
      rw [e, Lib.decDigits_one (by omega), digit_back c hc]
      rfl
    · obtain ⟨x, r, rfl⟩ : ∃ x r, l' = x :: r := by
        cases l' with
        | nil => exact absurd rfl h0
        | cons x r => exact ⟨x, r, rfl⟩
      have hx : 48 < x.toNat := by
        rcases hh with h | h
        · simp at h
        · exact h x (by simp)
      have hp := dv_pos x r hx
      have ih' := ih (x :: r) hl' (fun y hy => hd y (List.mem_append_left _ hy)) h0 (.inr (fun y hy => by simp at hy; rw [← hy]; exact hx))
      generalize dv 0 (x :: r) = m at *
      rw [Lib.decDigits, dif_neg (by omega), show (m * 10 + (c.toNat - 48)) / 10 = m by omega, show (m * 10 + (c.toNat - 48)) % 10 = c.toNat - 48 by omega, ih', digit_back c hc]
theorem dig_head : ∀ (n u : Nat), u ≤ n → ∀ r : List UInt8, Lib.decDigits u = 48 :: r → u = 0 ∧ r = [] := by
  intro n
  induction n with
  | zero =>
    intro u hu r h
    obtain rfl : u = 0 := by omega
    rw [Lib.decDigits_one (by omega)] at h
    injection h with _ h2
    exact ⟨rfl, h2.symm⟩
  | succ n ih =>
    intro u hu r h
    by_cases h10 : u < 10
    · rw [Lib.decDigits_one h10] at h
      injection h with h1 h2
      refine ⟨?_, h2.symm⟩
      have h3 : (UInt8.ofNat (48 + u)).toNat = 48 := by rw [h1]; rfl
      rw [UInt8.toNat_ofNat_of_lt' (show 48 + u < 256 by omega)] at h3
      omega
    · rw [Lib.decDigits, dif_neg h10] at h
      cases hq : Lib.decDigits (u / 10) with
      | nil =>
        have := Lib.decDigits_length (u / 10)
        rw [hq] at this
        have h9 := Lib.nDigits_pos (u / 10)
        simp at this
        omega
      | cons x y =>
        rw [hq] at h
        injection h with h1 _
        subst h1
        have := ih (u / 10) (by omega) y hq
        omega
/-- the value of a canonical number, of digits alone -/
theorem numP_plain (c : UInt8) (r : List UInt8) (hd : AllD (c :: r)) : numP (c :: r) = if c.toNat = 48 then (if r = [] then some 0 else none) else if dv 0 (c :: r) < 9223372036854775808 then some (dv 0 (c :: r) : Int) else none := by
  have hc := hd c (List.mem_cons_self ..)
  have hp : Lib.parseMag (c :: r) = if dv 0 (c :: r) < 18446744073709551616 then .ok (dv 0 (c :: r)) else .range := by
    unfold Lib.parseMag
    rw [if_neg (by simp)]
    exact parse_dv _ 0 hd (by omega)
  have ha : Lib.atoiAll (c :: r) = Lib.signless (Lib.parseMag (c :: r)) := Lib.atoiAll_plain c r (by omega) (by omega)
  unfold numP
  rw [ha, hp]
  by_cases h48 : c.toNat = 48
  · rw [if_pos h48]
    have hcc : c = 48 := u8_eq h48
    subst hcc
    by_cases hr : r = []
    · subst hr
      rw [if_pos rfl]
      decide +kernel
    · rw [if_neg hr]
      have hno : ∀ u : Nat, ¬ Lib.itoa (u : Int) = 48 :: r := fun u h => by
        rw [Lib.itoa_nonneg] at h
        exact hr (dig_head u u (Nat.le_refl _) r h).2
      generalize dv 0 ((48 : UInt8) :: r) = m at *
      by_cases h1 : m < 18446744073709551616
      · rw [if_pos h1]
        unfold Lib.signless
        by_cases h2 : 9223372036854775808 ≤ m
        · simp only [if_pos h2]
        · simp only [if_neg h2]
          rw [if_neg (hno m)]
      · rw [if_neg h1]
        rfl
  · rw [if_neg h48]
    have hcan := dig_canon (c :: r).length (c :: r) rfl hd (by simp) (.inr (fun y hy => by simp at hy; rw [← hy]; omega))
    generalize dv 0 (c :: r) = m at *
    by_cases h1 : m < 9223372036854775808
    · rw [if_pos h1, if_pos (by omega)]
      unfold Lib.signless
      simp only [if_neg (show ¬ 9223372036854775808 ≤ m by omega)]
      rw [if_pos (by rw [Lib.itoa_nonneg]; exact hcan)]
    · rw [if_neg h1]
      by_cases h2 : m < 18446744073709551616
      · rw [if_pos h2]
        unfold Lib.signless
        simp only [if_pos (show 9223372036854775808 ≤ m by omega)]
      · rw [if_neg h2]
        rfl
/-- .. with a - ahead -/
theorem numP_minus (c : UInt8) (r : List UInt8) (hd : AllD (c :: r)) : numP (45 :: c :: r) = if c.toNat = 48 then none else if dv 0 (c :: r) ≤ 9223372036854775808 then some (-(dv 0 (c :: r) : Int)) else none := by
  have hc := hd c (List.mem_cons_self ..)
  have hp : Lib.parseMag (c :: r) = if dv 0 (c :: r) < 18446744073709551616 then .ok (dv 0 (c :: r)) else .range := by
    unfold Lib.parseMag
    rw [if_neg (by simp)]
    exact parse_dv _ 0 hd (by omega)
  unfold numP
  rw [Lib.atoiAll_minus, hp]
  by_cases h48 : c.toNat = 48
  · rw [if_pos h48]
    have hcc : c = 48 := u8_eq h48
    subst hcc
    have hno : ∀ u : Nat, ¬ Lib.itoa (-(u : Int)) = 45 :: 48 :: r := fun u h => by
      by_cases hu : u = 0
      · subst hu
        have e : Lib.itoa (-((0 : Nat) : Int)) = [48] := by decide +kernel
        rw [e] at h
        cases h
      · rw [Lib.itoa_neg u (by omega)] at h
        injection h with _ h
        have := (dig_head u u (Nat.le_refl _) r h).1
        omega
    generalize dv 0 ((48 : UInt8) :: r) = m at *
    by_cases h1 : m < 18446744073709551616
    · rw [if_pos h1]
      unfold Lib.signed
      by_cases h2 : 9223372036854775808 < m
      · simp only [if_pos h2]
      · simp only [if_neg h2]
        rw [if_neg (hno m)]
    · rw [if_neg h1]
      rfl
  · rw [if_neg h48]
    have hcan := dig_canon (c :: r).length (c :: r) rfl hd (by simp) (.inr (fun y hy => by simp at hy; rw [← hy]; omega))
    have hpos := dv_pos c r (by omega)
    generalize dv 0 (c :: r) = m at *
    by_cases h1 : m ≤ 9223372036854775808
    · rw [if_pos h1, if_pos (by omega)]
      unfold Lib.signed
      simp only [if_neg (show ¬ 9223372036854775808 < m by omega)]
      rw [if_pos (by rw [Lib.itoa_neg m hpos, hcan])]
    · rw [if_neg h1]
      by_cases h2 : m < 18446744073709551616
      · rw [if_pos h2]
        unfold Lib.signed
        simp only [if_pos (show 9223372036854775808 < m by omega)]
      · rw [if_neg h2]
        rfl
/-- the reference's loop: counted downwards -/
def dn (v : Int) : List UInt8 → Option Int
  | [] => some v
  | c :: r => if v < Int.tdiv (-9223372036854775808 + ((c.toNat : Int) - 48)) 10 then none else dn (v * 10 - ((c.toNat : Int) - 48)) r
theorem dn_dv : ∀ (l : List UInt8) (a : Nat), AllD l → a ≤ 9223372036854775808 → dn (-(a : Int)) l = if dv a l ≤ 9223372036854775808 then some (-(dv a l : Int)) else none
  | [], a, _, ha => by
    show some _ = _
    rw [if_pos (show dv a [] ≤ _ from ha)]
    rfl
  | c :: r, a, hd, ha => by
    have hc := hd c (List.mem_cons_self ..)
    have hr : AllD r := fun x hx => hd x (List.mem_cons_of_mem _ hx)
    have hg := dv_ge r (a * 10 + (c.toNat - 48))
    have ht : Int.tdiv (-9223372036854775808 + ((c.toNat : Int) - 48)) 10 = -((9223372036854775808 - ((c.toNat : Int) - 48)) / 10) := by
      rw [show (-9223372036854775808 + ((c.toNat : Int) - 48)) = -(9223372036854775808 - ((c.toNat : Int) - 48)) by omega, Int.neg_tdiv, Int.tdiv_eq_ediv_of_nonneg (by omega)]
    rw [dn, ht]
    by_cases h1 : -(a : Int) < -((9223372036854775808 - ((c.toNat : Int) - 48)) / 10)
    · rw [if_pos h1, if_neg]
      show ¬ dv (a * 10 + (c.toNat - 48)) r ≤ _
      omega
    · rw [if_neg h1]
      have e : -(a : Int) * 10 - ((c.toNat : Int) - 48) = -((a * 10 + (c.toNat - 48) : Nat) : Int) := by omega
      rw [e]
      exact dn_dv r _ hr (by omega)
/-- what the reference's number answers -/
def numR (t : List UInt8) : Int × Bool := match numP t with
  | some v => (v, true)
  | none => (0, false)
end Tx
end Go.Proofs.YtcnnpohnfoaceaaGreatDoor.Text

/-
  The reference: blank, sign, isDigit, number.
-/
namespace Go.Proofs.YtcnnpohnfoaceaaGreatDoor.Text
open Go Go.RowKit
open Tx

set_option maxRecDepth 100000 in
theorem rblank_any (r : Nat) (w : World) : Calls Tryz.prog 39 #[.int .u8 (r : Int)] w fun e w' => e = .returned (.bool (blk r)) ∧ w' = w := by
  by_cases h1 : r = 32
  · subst h1
    go_enter Tryz.func39, Tryz.ntmps39
    go_wp2
    go_ret
    exact ⟨rfl, rfl⟩
  · by_cases h2 : r = 9
    · subst h2
      go_enter Tryz.func39, Tryz.ntmps39
      go_wp2
      go_ret
      exact ⟨rfl, rfl⟩
    · have HE : Hid (blk r = false) := by
        show _ = _
        unfold blk
        rw [decide_eq_false h1, decide_eq_false h2]
        rfl
      have b3 : ((r : Int) == 32) = false := by simp; omega
      have b4 : ((r : Int) == 9) = false := by simp; omega
      rw [HE.out]
      clear HE
      go_enter Tryz.func39, Tryz.ntmps39
      go_wp2
      go_ret
      exact ⟨rfl, rfl⟩
theorem sgn_take (r : Nat) : ∀ k, k ≤ 12 → (∀ j, j < k → sgnL[j]? ≠ some r) → (sgnL.drop k).contains r = sgn r
  | 0, _, _ => rfl
  | k + 1, hk, h => by
    have ih := sgn_take r k (by omega) (fun j hj => h j (by omega))
    rw [← ih]
    have hl : k < sgnL.length := by show k < 12; omega
    rw [List.drop_eq_getElem_cons hl, List.contains_cons]
    have hne : (r == sgnL[k]) = false := by
      have h9 := h k (by omega)
      rw [List.getElem?_eq_getElem hl] at h9
      simp at h9 ⊢
      omega
    rw [hne, Bool.false_or]
theorem sgs_each : ∀ k, (h : k < sgs.size) → (sgs[k]'h).toNat = sgnL.getD k 0 := by decide +kernel
set_option maxRecDepth 100000 in
set_option maxHeartbeats 1000000 in
theorem rsign_any (r : Nat) (w : World) : Calls Tryz.prog 41 #[.int .u8 (r : Int)] w fun e w' => e = .returned (.bool (sgn r)) ∧ w' = w := by
  have hz := sgs_size
  go_enter Tryz.func41, Tryz.ntmps41
  go_wp2
  go_loopw [3] (fun i wr => ∃ k : Nat, k ≤ 12 ∧ i = .int .i64 (k : Int) ∧ wr = w ∧ ∀ j, j < k → sgnL[j]? ≠ some r) (fun i _ => 12 - (intOf i).toNat)
  case atStart => exact ⟨0, by omega, rfl, rfl, fun j hj => by omega⟩
  case round =>
    obtain ⟨k, hk, rfl, rfl, hno⟩ := hrel
    have HNO : Hid (∀ j, j < k → sgnL[j]? ≠ some r) := hno
    clear hno
    by_cases hlt : k < 12
    · have hg := sgs_each k (by omega)
      have hlen : k < sgnL.length := by show k < 12; omega
      have hq : sgnL.getD k 0 = sgnL[k] := by rw [List.getD_eq_getElem?_getD, List.getElem?_eq_getElem hlen]; rfl
      rw [hq] at hg
      generalize hc : sgnL[k] = c at *
      have HC : Hid (sgnL[k]? = some c) := by
        show _ = _
        rw [List.getElem?_eq_getElem hlen, hc]
      unfold sgs at hg hz
      by_cases he : c = r
      · have HF : Hid (sgn r = true) := by
          show _ = _
          unfold sgn
          rw [List.contains_iff_mem, ← he]
          exact List.mem_of_getElem? HC.out
        subst he
        go_wp2
        go_ret
        rw [HF.out]
        exact ⟨rfl, rfl⟩
      · have hb : ((c : Int) == (r : Int)) = false := by simp; omega
        have HN2 : Hid (∀ j, j < k + 1 → sgnL[j]? ≠ some r) := fun j hj => by
          by_cases e : j = k
          · rw [e, HC.out]
            intro h
            exact he (Option.some.inj h)
          · exact HNO.out j (by omega)
        clear HNO HC
        go_wp2
        go_roundw
        case rel => exact ⟨k + 1, by omega, by go_num, by first | rfl | trivial, HN2.out⟩
        case measure => simp [intOf]; omega
    · obtain rfl : k = 12 := by omega
      have HF : Hid (sgn r = false) := by
        show _ = _
        rw [← sgn_take r 12 (by omega) HNO.out]
        rfl
      go_wp2
      go_ret
      rw [HF.out]
      exact ⟨rfl, rfl⟩
/-- is there a digit -/
def Tx.isD (s : ByteArray) (i : Nat) : Bool := decide (i < s.size) && dig (at' s i : Int)
set_option maxRecDepth 100000 in
set_option maxHeartbeats 1000000 in
theorem isdig_any (s : ByteArray) (i : Nat) (w : World) : Calls Tryz.prog 66 #[.string s, .int .i64 (i : Int)] w fun e w' => e = .returned (.bool (isD s i)) ∧ w' = w := by
  by_cases h : i < s.size
  · have hg := at_get s i h
    have HE : Hid (isD s i = dig (at' s i : Int)) := by
      show _ = _
      unfold isD
      rw [decide_eq_true h, Bool.true_and]
    rw [HE.out]
    clear HE
    unfold dig
    generalize at' s i = c at *
    have hg' : (s[i]'h).toNat = c := hg.symm
    clear hg
    by_cases h1 : 48 ≤ c
    · rw [decide_eq_true (show (48 : Int) ≤ (c : Int) by omega), Bool.true_and]
      go_enter Tryz.func66, Tryz.ntmps66
      go_wp2
      go_ret
      exact ⟨rfl, rfl⟩
    · rw [decide_eq_false (show ¬ (48 : Int) ≤ (c : Int) by omega)]
      go_enter Tryz.func66, Tryz.ntmps66
      go_wp2
      go_ret
      exact ⟨rfl, rfl⟩
  · have HE : Hid (isD s i = false) := by
      show _ = _
      unfold isD
      rw [decide_eq_false h, Bool.false_and]
    rw [HE.out]
    clear HE
    go_enter Tryz.func66, Tryz.ntmps66
    go_wp2
    go_ret
    exact ⟨rfl, rfl⟩
theorem list_at (t : ByteArray) (k : Nat) (h : k < t.size) : t.data.toList[k]? = some (t[k]'h) := by
  rw [List.getElem?_eq_getElem (by rw [Array.length_toList]; exact h)]
  rfl
theorem dn_step (l : List UInt8) (k : Nat) (c : UInt8) (h : l[k]? = some c) (v : Int) : dn v (l.drop k) = if v < Int.tdiv (-9223372036854775808 + ((c.toNat : Int) - 48)) 10 then none else dn (v * 10 - ((c.toNat : Int) - 48)) (l.drop (k + 1)) := by
  obtain ⟨hk, hc⟩ := List.getElem?_eq_some_iff.1 h
  rw [List.drop_eq_getElem_cons hk, hc, dn]
/-- what the loop and what comes behind it answer -/
def Tx.rEnd (neg : Bool) (o : Option Int) : Int × Bool := match o with
  | none => (0, false)
  | some v => if neg = true then (v, true) else if v = -9223372036854775808 then (0, false) else (-v, true)
end Go.Proofs.YtcnnpohnfoaceaaGreatDoor.Text

/-
  The reference: number.
-/
namespace Go.Proofs.YtcnnpohnfoaceaaGreatDoor.Text
open Go Go.RowKit
open Tx

set_option maxRecDepth 100000 in
set_option maxHeartbeats 1000000 in
theorem rnum_zero0 (t : ByteArray) (w : World) (hft : 0 < t.size) (_hs : t.size ≤ 2000000) (_hm : ¬ (t[0]'(by omega)).toNat = 45) (h48 : (t[0]'hft).toNat = 48) :
    Calls Tryz.prog 67 #[.string t] w fun e w' => e = .returned (.tuple #[.int .i64 0, .bool (decide (t.size = 1))]) ∧ w' = w := by
  have h00 : 0 < t.size := by omega
  have b45 : (((t[0]'h00).toNat : Int) == 45) = false := by simp; omega
  have HE : Hid (((t.size : Int) == 1) = decide (t.size = 1)) := by
    show _ = _
    by_cases h : t.size = 1
    · rw [decide_eq_true h, h]
      rfl
    · rw [decide_eq_false h]
      simp
      omega
  rw [← HE.out]
  clear HE
  go_enter Tryz.func67, Tryz.ntmps67
  go_wp2
  go_ret2
  exact ⟨rfl, rfl⟩
set_option maxRecDepth 100000 in
set_option maxHeartbeats 1000000 in
theorem rnum_zero1 (t : ByteArray) (w : World) (hft : 1 < t.size) (hs : t.size ≤ 2000000) (hm : (t[0]'(by omega)).toNat = 45) (h48 : (t[1]'hft).toNat = 48) :
    Calls Tryz.prog 67 #[.string t] w fun e w' => e = .returned (.tuple #[.int .i64 0, .bool (decide (t.size = 1))]) ∧ w' = w := by
  have h00 : 0 < t.size := by omega
  have b45 : (((t[0]'h00).toNat : Int) == 45) = true := by simp; omega
  have HE : Hid (((t.size : Int) == 1) = decide (t.size = 1)) := by
    show _ = _
    by_cases h : t.size = 1
    · rw [decide_eq_true h, h]
      rfl
    · rw [decide_eq_false h]
      simp
      omega
  rw [← HE.out]
  clear HE
  go_enter Tryz.func67, Tryz.ntmps67
  go_wp2
  go_ret2
  exact ⟨rfl, rfl⟩
set_option maxRecDepth 100000 in
set_option maxHeartbeats 2000000 in
theorem rnum_walk0 (t : ByteArray) (w : World) (hft : 0 < t.size) (hs : t.size ≤ 2000000) (hm : ¬ (t[0]'(by omega)).toNat = 45) (h48 : ¬ (t[0]'hft).toNat = 48) (hd : ∀ k, (h : k < t.size) → 0 ≤ k → 48 ≤ (t[k]'h).toNat ∧ (t[k]'h).toNat ≤ 57) :
    Calls Tryz.prog 67 #[.string t] w fun e w' => e = .returned (.tuple #[.int .i64 (rEnd false (dn 0 (t.data.toList.drop 0))).1, .bool (rEnd false (dn 0 (t.data.toList.drop 0))).2]) ∧ w' = w := by
  have h00 : 0 < t.size := by omega
  have HL : Hid (∀ k, (h : k < t.size) → t.data.toList[k]? = some (t[k]'h)) := fun k h => list_at t k h
  have HD : Hid (∀ k, (h : k < t.size) → 0 ≤ k → 48 ≤ (t[k]'h).toNat ∧ (t[k]'h).toNat ≤ 57) := hd
  have HLN : Hid (t.data.toList.length = t.size) := by show _ = _; rw [Array.length_toList]; rfl
  obtain ⟨A, hA⟩ : ∃ A, dn 0 (t.data.toList.drop 0) = A := ⟨_, rfl⟩
  rw [hA]
  have HA : Hid (dn 0 (t.data.toList.drop 0) = A) := hA
  have b45 : (((t[0]'h00).toNat : Int) == 45) = false := by simp; omega
  have b48 : (((t[0]'hft).toNat : Int) == 48) = false := by simp; omega
  clear hA hd
  generalize t.data.toList = l at *
  go_enter Tryz.func67, Tryz.ntmps67
  go_wp2
  go_loopw [5, 6] (fun vv vk wr => ∃ (k : Nat) (v : Int), vv = .int .i64 v ∧ vk = .int .i64 (k : Int) ∧ 0 ≤ k ∧ k ≤ t.size ∧ -9223372036854775808 ≤ v ∧ v ≤ 0 ∧ dn v (l.drop k) = A ∧ wr = w) (fun _ vk _ => t.size - (intOf vk).toNat)
  case atStart => exact ⟨0, 0, rfl, rfl, Nat.le_refl _, by omega, by omega, by omega, HA.out, rfl⟩
  case round =>
    obtain ⟨k, v, rfl, rfl, hfk, hk, hv0, hv1, hdn, rfl⟩ := hrel
    have HDN : Hid (dn v (l.drop k) = A) := hdn
    clear hdn HA hm b45 b48 h48
    by_cases hlt : k < t.size
    · have hdg := HD.out k hlt hfk
      have hst := dn_step l k (t[k]'hlt) (HL.out k hlt) v
      generalize hc : (t[k]'hlt).toNat = c at *
      have hq0 : Int.tdiv (-9223372036854775808 + ((c : Int) - 48)) 10 = -((9223372036854775808 - ((c : Int) - 48)) / 10) := by
        rw [show (-9223372036854775808 + ((c : Int) - 48)) = -(9223372036854775808 - ((c : Int) - 48)) by omega, Int.neg_tdiv, Int.tdiv_eq_ediv_of_nonneg (by omega)]
      have hqa : -9223372036854775808 + ((c : Int) - 48) ≤ 10 * Int.tdiv (-9223372036854775808 + ((c : Int) - 48)) 10 ∧ 10 * Int.tdiv (-9223372036854775808 + ((c : Int) - 48)) 10 ≤ -9223372036854775808 + ((c : Int) - 48) + 9 := by
        rw [hq0]
        omega
      clear hq0
      by_cases hov : v < Int.tdiv (-9223372036854775808 + ((c : Int) - 48)) 10
      · have HF : Hid (A = none) := by
          show A = none
          rw [← HDN.out, hst, if_pos hov]
        clear HDN hst
        go_wp2
        go_ret2
        rw [HF.out]
        exact ⟨rfl, rfl⟩
      · have HF : Hid (dn (v * 10 - ((c : Int) - 48)) (l.drop (k + 1)) = A) := by
          show _ = A
          rw [← HDN.out, hst, if_neg hov]
        have hv2 : -9223372036854775808 ≤ v * 10 - ((c : Int) - 48) := by omega
        clear HDN hst
        go_wp2
        go_roundw
        case rel => exact ⟨k + 1, v * 10 - ((c : Int) - 48), by go_num, by go_num, by omega, by omega, hv2, by omega, HF.out, by first | rfl | trivial⟩
        case measure => simp [intOf]; omega
    · have HF : Hid (A = some v) := by
        show A = _
        have h9 := HLN.out
        rw [← HDN.out, List.drop_eq_nil_of_le (by omega)]
        rfl
      clear HDN
      by_cases hmin : v = -9223372036854775808
      · subst hmin
        go_wp2
        go_ret2
        rw [HF.out]
        exact ⟨rfl, by first | rfl | trivial⟩
      · have bmin : (v == -9223372036854775808) = false := by simp [hmin]
        have HG : Hid (rEnd false (some v) = (-v, true)) := by
          show _ = _
          unfold rEnd
          simp only
          rw [if_neg (by simp), if_neg hmin]
        go_wp2
        go_ret2
        rw [HF.out, HG.out]
        exact ⟨by first | rfl | go_num, by first | rfl | trivial⟩
set_option maxRecDepth 100000 in
set_option maxHeartbeats 2000000 in
theorem rnum_walk1 (t : ByteArray) (w : World) (hft : 1 < t.size) (hs : t.size ≤ 2000000) (hm : (t[0]'(by omega)).toNat = 45) (h48 : ¬ (t[1]'hft).toNat = 48) (hd : ∀ k, (h : k < t.size) → 1 ≤ k → 48 ≤ (t[k]'h).toNat ∧ (t[k]'h).toNat ≤ 57) :
    Calls Tryz.prog 67 #[.string t] w fun e w' => e = .returned (.tuple #[.int .i64 (rEnd true (dn 0 (t.data.toList.drop 1))).1, .bool (rEnd true (dn 0 (t.data.toList.drop 1))).2]) ∧ w' = w := by
  have h00 : 0 < t.size := by omega
  have HL : Hid (∀ k, (h : k < t.size) → t.data.toList[k]? = some (t[k]'h)) := fun k h => list_at t k h
  have HD : Hid (∀ k, (h : k < t.size) → 1 ≤ k → 48 ≤ (t[k]'h).toNat ∧ (t[k]'h).toNat ≤ 57) := hd
  have HLN : Hid (t.data.toList.length = t.size) := by show _ = _; rw [Array.length_toList]; rfl
  obtain ⟨A, hA⟩ : ∃ A, dn 0 (t.data.toList.drop 1) = A := ⟨_, rfl⟩
  rw [hA]
  have HA : Hid (dn 0 (t.data.toList.drop 1) = A) := hA
  have b45 : (((t[0]'h00).toNat : Int) == 45) = true := by simp; omega
  have b48 : (((t[1]'hft).toNat : Int) == 48) = false := by simp; omega
  clear hA hd
  generalize t.data.toList = l at *
  go_enter Tryz.func67, Tryz.ntmps67
  go_wp2
  go_loopw [5, 6] (fun vv vk wr => ∃ (k : Nat) (v : Int), vv = .int .i64 v ∧ vk = .int .i64 (k : Int) ∧ 1 ≤ k ∧ k ≤ t.size ∧ -9223372036854775808 ≤ v ∧ v ≤ 0 ∧ dn v (l.drop k) = A ∧ wr = w) (fun _ vk _ => t.size - (intOf vk).toNat)
  case atStart => exact ⟨1, 0, rfl, rfl, Nat.le_refl _, by omega, by omega, by omega, HA.out, rfl⟩
  case round =>
    obtain ⟨k, v, rfl, rfl, hfk, hk, hv0, hv1, hdn, rfl⟩ := hrel
    have HDN : Hid (dn v (l.drop k) = A) := hdn
    clear hdn HA hm b45 b48 h48
    by_cases hlt : k < t.size
    · have hdg := HD.out k hlt hfk
      have hst := dn_step l k (t[k]'hlt) (HL.out k hlt) v
      generalize hc : (t[k]'hlt).toNat = c at *
      have hq0 : Int.tdiv (-9223372036854775808 + ((c : Int) - 48)) 10 = -((9223372036854775808 - ((c : Int) - 48)) / 10) := by
        rw [show (-9223372036854775808 + ((c : Int) - 48)) = -(9223372036854775808 - ((c : Int) - 48)) by omega, Int.neg_tdiv, Int.tdiv_eq_ediv_of_nonneg (by omega)]
      have hqa : -9223372036854775808 + ((c : Int) - 48) ≤ 10 * Int.tdiv (-9223372036854775808 + ((c : Int) - 48)) 10 ∧ 10 * Int.tdiv (-9223372036854775808 + ((c : Int) - 48)) 10 ≤ -9223372036854775808 + ((c : Int) - 48) + 9 := by
        rw [hq0]
        omega
      clear hq0
      by_cases hov : v < Int.tdiv (-9223372036854775808 + ((c : Int) - 48)) 10
      · have HF : Hid (A = none) := by
          show A = none
          rw [← HDN.out, hst, if_pos hov]
        clear HDN hst
        go_wp2
        go_ret2
        rw [HF.out]
        exact ⟨rfl, rfl⟩
      · have HF : Hid (dn (v * 10 - ((c : Int) - 48)) (l.drop (k + 1)) = A) := by
          show _ = A
          rw [← HDN.out, hst, if_neg hov]
        have hv2 : -9223372036854775808 ≤ v * 10 - ((c : Int) - 48) := by omega
        clear HDN hst
        go_wp2
        go_roundw
        case rel => exact ⟨k + 1, v * 10 - ((c : Int) - 48), by go_num, by go_num, by omega, by omega, hv2, by omega, HF.out, by first | rfl | trivial⟩
        case measure => simp [intOf]; omega
    · have HF : Hid (A = some v) := by
        show A = _
        have h9 := HLN.out
        rw [← HDN.out, List.drop_eq_nil_of_le (by omega)]
        rfl
      clear HDN
      go_wp2
      go_ret2
      rw [HF.out]
      exact ⟨rfl, by first | rfl | trivial⟩
end Go.Proofs.YtcnnpohnfoaceaaGreatDoor.Text

/-
  The reference: number is what Atoi and Itoa say.
-/
namespace Go.Proofs.YtcnnpohnfoaceaaGreatDoor.Text
open Go Go.RowKit
open Tx

theorem list_nat (t : ByteArray) (l : List UInt8) (h : t.data.toList = l) (k : Nat) (hk : k < t.size) (c : UInt8) (hc : l[k]? = some c) : (t[k]'hk).toNat = c.toNat := by
  have h9 := list_at t k hk
  rw [h, hc] at h9
  rw [Option.some.inj h9]
theorem list_sizeN (t : ByteArray) (l : List UInt8) (h : t.data.toList = l) : t.size = l.length := by
  rw [← h, Array.length_toList]
  rfl
set_option maxHeartbeats 1000000 in
theorem rnum_plain (t : ByteArray) (w : World) (c : UInt8) (r : List UInt8) (h : t.data.toList = c :: r) (hd : AllD (c :: r)) (hs : t.size ≤ 2000000) :
    Calls Tryz.prog 67 #[.string t] w fun e w' => e = .returned (.tuple #[.int .i64 (numR (c :: r)).1, .bool (numR (c :: r)).2]) ∧ w' = w := by
  have hz := list_sizeN t _ h
  rw [List.length_cons] at hz
  have hc := hd c (List.mem_cons_self ..)
  have h0 := list_nat t _ h 0 (by omega) c rfl
  have hn := numP_plain c r hd
  by_cases h48 : c.toNat = 48
  · have h9 := rnum_zero0 t w (by omega) hs (by rw [h0]; omega) (by rw [h0]; exact h48)
    rw [if_pos h48] at hn
    have e : numR (c :: r) = (0, decide (t.size = 1)) := by
      unfold numR
      rw [hn]
      by_cases hr : r = []
      · subst hr
        rw [if_pos rfl, hz]
        rfl
      · rw [if_neg hr, decide_eq_false]
        intro e
        have : r.length = 0 := by omega
        exact hr (List.eq_nil_of_length_eq_zero this)
    rw [e]
    exact h9
  · have h9 := rnum_walk0 t w (by omega) hs (by rw [h0]; omega) (by rw [h0]; exact h48) (fun k hk _ => by
      have hk2 : k < (c :: r).length := by rw [List.length_cons]; omega
      have h8 := list_nat t _ h k hk ((c :: r)[k]) (List.getElem?_eq_getElem hk2)
      rw [h8]
      exact hd _ (List.getElem_mem _))
    rw [h, List.drop_zero] at h9
    have hdn := dn_dv (c :: r) 0 hd (by omega)
    rw [show (-((0 : Nat) : Int)) = 0 from rfl] at hdn
    rw [hdn] at h9
    rw [if_neg h48] at hn
    have e : numR (c :: r) = rEnd false (if dv 0 (c :: r) ≤ 9223372036854775808 then some (-(dv 0 (c :: r) : Int)) else none) := by
      unfold numR
      rw [hn]
      generalize dv 0 (c :: r) = m at *
      by_cases h1 : m < 9223372036854775808
      · rw [if_pos h1, if_pos (by omega)]
        unfold rEnd
        simp only
        rw [if_neg (by simp), if_neg (by omega), Int.neg_neg]
      · rw [if_neg h1]
        by_cases h2 : m ≤ 9223372036854775808
        · rw [if_pos h2]
          unfold rEnd
          simp only
          rw [if_neg (by simp), if_pos (by omega)]
        · rw [if_neg h2]
          rfl
    rw [e]
    exact h9
set_option maxHeartbeats 1000000 in
theorem rnum_minus (t : ByteArray) (w : World) (c : UInt8) (r : List UInt8) (h : t.data.toList = 45 :: c :: r) (hd : AllD (c :: r)) (hs : t.size ≤ 2000000) :
    Calls Tryz.prog 67 #[.string t] w fun e w' => e = .returned (.tuple #[.int .i64 (numR (45 :: c :: r)).1, .bool (numR (45 :: c :: r)).2]) ∧ w' = w := by
  have hz := list_sizeN t _ h
  rw [List.length_cons, List.length_cons] at hz
  have hc := hd c (List.mem_cons_self ..)
  have h0 := list_nat t _ h 0 (by omega) 45 rfl
  have h1 := list_nat t _ h 1 (by omega) c rfl
  have hn := numP_minus c r hd
  by_cases h48 : c.toNat = 48
  · have h9 := rnum_zero1 t w (by omega) hs (by rw [h0]; rfl) (by rw [h1]; exact h48)
    rw [if_pos h48] at hn
    have e : numR (45 :: c :: r) = (0, decide (t.size = 1)) := by
      unfold numR
      rw [hn, decide_eq_false (by omega)]
    rw [e]
    exact h9
  · have h9 := rnum_walk1 t w (by omega) hs (by rw [h0]; rfl) (by rw [h1]; exact h48) (fun k hk hk1 => by
      obtain ⟨j, rfl⟩ : ∃ j, k = j + 1 := ⟨k - 1, by omega⟩
      have hk2 : j < (c :: r).length := by rw [List.length_cons]; omega
      have h8 := list_nat t _ h (j + 1) hk ((c :: r)[j]) (by rw [List.getElem?_cons_succ]; exact List.getElem?_eq_getElem hk2)
      rw [h8]
      exact hd _ (List.getElem_mem _))
    rw [h, show (45 :: c :: r).drop 1 = c :: r from rfl] at h9
    have hdn := dn_dv (c :: r) 0 hd (by omega)
    rw [show (-((0 : Nat) : Int)) = 0 from rfl] at hdn
    rw [hdn] at h9
    rw [if_neg h48] at hn
    have e : numR (45 :: c :: r) = rEnd true (if dv 0 (c :: r) ≤ 9223372036854775808 then some (-(dv 0 (c :: r) : Int)) else none) := by
      unfold numR
      rw [hn]
      generalize dv 0 (c :: r) = m at *
      by_cases h2 : m ≤ 9223372036854775808
      · rw [if_pos h2]
        rfl
      · rw [if_neg h2]
        rfl
    rw [e]
    exact h9
/-- the reference's loop over the runes of a name -/
def Tx.rl (s : ByteArray) (n k : Nat) : Nat ⊕ Nat :=
  if _h : k < s.size then
    (if nmR ((Utf8.decode s k).1 : Int) = true then (if n = 48 then .inr k else rl s (n + 1) (k + (Utf8.decode s k).2)) else .inl k)
  else .inl k
termination_by s.size - k
decreasing_by
  have := decode_fits s k (by assumption)
  omega
theorem rl_nmE (s : ByteArray) (i E : Nat) (hES : E ≤ s.size) (hl : among lets ((Utf8.decode s i).1 : Int) = true) : ∀ (m n k : Nat), s.size - k ≤ m → i ≤ k → k ≤ s.size → n ≤ 48 → nEnd s k = E → (rl s n k = .inl E ∧ nmE (s.extract i E) n (k - i) = (0, 0)) ∨ ∃ q, i ≤ q ∧ rl s n k = .inr q ∧ nmE (s.extract i E) n (k - i) = (23, ((q - i : Nat) : Int)) := by
  intro m
  have hz : (s.extract i E).size = E - i := size_cut s i E hES
  induction m with
  | zero =>
    intro n k hm hik hk hn hkE
    have hE2 : E = s.size := by rw [← hkE, nEnd_out s k (by omega)]
    refine .inl ⟨?_, nmE_out _ n (k - i) (by rw [hz]; omega)⟩
    rw [rl, dif_neg (by omega), hE2]
    congr 1
    omega
  | succ m ih =>
    intro n k hm hik hk hn hkE
    by_cases hks : k < s.size
    · by_cases hr : nmR ((Utf8.decode s k).1 : Int) = true
      · have hf := decode_fits s k hks
        have hnx := nEnd_in s k hks hr
        have hb := nEnd_bnd s s.size (k + (Utf8.decode s k).2) (by omega) hf.2.1
        have hkE2 : nEnd s (k + (Utf8.decode s k).2) = E := by rw [← hnx]; exact hkE
        rw [hkE2] at hb
        have hdec : Utf8.decode (s.extract i E) (k - i) = Utf8.decode s k := by
          have h9 := decode_part s i E (k - i) hES (by omega) (by rw [show i + (k - i) = k by omega]; exact hb.1)
          rw [show i + (k - i) = k by omega] at h9
          exact h9
        have hstr : stray (s.extract i E) (k - i) = false := by
          cases hs : stray (s.extract i E) (k - i) with
          | false => rfl
          | true =>
            have h9 := stray_rune _ _ hs
            rw [hdec] at h9
            rw [h9] at hr
            exact absurd hr (by rw [show ((65533 : Nat) : Int) = 65533 from rfl, nmR_no]; decide)
        by_cases h48 : n = 48
        · subst h48
          refine .inr ⟨k, hik, ?_, nmE_long _ 48 (k - i) (by rw [hz]; omega) (by omega)⟩
          rw [rl, dif_pos hks, if_pos hr, if_pos rfl]
        · have hbad : ¬ ((k - i = 0 ∧ among lets ((Utf8.decode (s.extract i E) (k - i)).1 : Int) = false) ∨ nmR ((Utf8.decode (s.extract i E) (k - i)).1 : Int) = false) := by
            rw [hdec]
            rintro (⟨h1, h2⟩ | h2)
            · obtain rfl : k = i := by omega
              rw [hl] at h2
              cases h2
            · rw [hr] at h2
              cases h2
          rw [rl, dif_pos hks, if_pos hr, if_neg h48, nmE_step (s.extract i E) n (k - i) (by rw [hz]; omega) (by omega) hstr hbad, hdec, show k - i + (Utf8.decode s k).2 = k + (Utf8.decode s k).2 - i by omega]
          exact ih (n + 1) _ (by omega) (by omega) hf.2.1 (by omega) hkE2
      · have hr' : nmR ((Utf8.decode s k).1 : Int) = false := by simpa using hr
        have hkE3 : k = E := by rw [← hkE, nEnd_no s k hks hr']
        refine .inl ⟨?_, nmE_out _ n (k - i) (by rw [hz]; omega)⟩
        rw [rl, dif_pos hks, if_neg hr, hkE3]
    · have hE2 : E = s.size := by rw [← hkE, nEnd_out s k hks]
      refine .inl ⟨?_, nmE_out _ n (k - i) (by rw [hz]; omega)⟩
      rw [rl, dif_neg hks, hE2]
      congr 1
      omega
/-- the word of a letter, by the reference's loop -/
theorem word_letter (s : ByteArray) (i : Nat) (hi : i < s.size) (hl : among lets ((Utf8.decode s i).1 : Int) = true) : wordP s i = match rl s 0 i with
    | .inl E => .inl (⟨1, (i : Int), s.extract i E, 0⟩, E)
    | .inr q => .inr (23, (q : Int)) := by
  have hb := nEnd_bnd s s.size i (by omega) (by omega)
  have hgt : i < nEnd s i := by
    rw [nEnd_in s i hi (among_nmR hl)]
    have hf := decode_fits s i hi
    have := (nEnd_bnd s s.size (i + (Utf8.decode s i).2) (by omega) hf.2.1).1
    omega
  have h9 := rl_nmE s i (nEnd s i) hb.2.1 hl s.size 0 i (by omega) (Nat.le_refl _) (by omega) (by omega) rfl
  rw [Nat.sub_self] at h9
  have hna : nmA (s.extract i (nEnd s i)) = nmE (s.extract i (nEnd s i)) 0 0 := by
    unfold nmA
    rw [if_neg (by rw [size_cut s i _ hb.2.1]; omega)]
  unfold wordP
  rw [if_pos hl, hna]
  rcases h9 with ⟨h1, h2⟩ | ⟨q, hq, h1, h2⟩
  · rw [h1, h2, if_neg (by simp)]
  · rw [h1, h2, if_pos (by simp)]
    simp only
    congr 2
    omega
end Go.Proofs.YtcnnpohnfoaceaaGreatDoor.Text
