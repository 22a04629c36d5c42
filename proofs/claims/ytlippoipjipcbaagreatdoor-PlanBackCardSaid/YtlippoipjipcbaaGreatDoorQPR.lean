import Derived.Test.YtlippoipjipcbaaGreatDoorQP5
import Derived.Test.YtlippoipjipcbaaGreatDoorQR1
import Derived.Test.YtlippoipjipcbaaGreatDoorQPM
import Derived.Test.YtlippoipjipcbaaGreatDoorQP9
import Derived.Test.YtlippoipjipcbaaGreatDoorQP8
/-
  A line that is written token by token is cut into just these words.
-/
namespace Go.Proofs.YtlippoipjipcbaaGreatDoor
open Go Go.RowKit
open Wb
open Text.Tx

theorem has_getq {s t : ByteArray} {p : Nat} (h : Has s p t.data.toList) (j : Nat) (hj : j < t.size) : p + j < s.size ∧ at' s (p + j) = at' t j := by
  have h1 := h j (by rw [Text.list_size]; exact hj)
  refine ⟨h1.1, ?_⟩
  rw [h1.2, Text.Tx.at_get t j hj]
  rfl
theorem has_appq {s a b : ByteArray} {p : Nat} (h : Has s p (a ++ b).data.toList) : Has s p a.data.toList ∧ Has s (p + a.size) b.data.toList := by
  have e : (a ++ b).data.toList = a.data.toList ++ b.data.toList := by rw [ByteArray.data_append, Array.toList_append]
  rw [e] at h
  refine ⟨h.left, ?_⟩
  have := h.right
  rw [Text.list_size] at this
  exact this
theorem has_cutq {s t : ByteArray} {p : Nat} (h : Has s p t.data.toList) (hp : p + t.size ≤ s.size) : s.extract p (p + t.size) = t := by
  have h9 := has_extract h (by rw [Text.list_size]; exact hp)
  rw [Text.list_size] at h9
  rw [h9]
/-- a word ends there: the line ends, or a sign stands there -/
def StopQ (s : ByteArray) (e : Nat) : Prop := e = s.size ∨ (e < s.size ∧ (at' s e = 58 ∨ at' s e = 44 ∨ at' s e = 42 ∨ at' s e = 126 ∨ at' s e = 33))
theorem stopq_lt {s : ByteArray} {e : Nat} (h : StopQ s e) (hl : e < s.size) : at' s e < 128 := by
  rcases h with h | ⟨_, h⟩
  · omega
  · omega
theorem sgn5 : sgn 58 = true ∧ sgn 44 = true ∧ sgn 42 = true ∧ sgn 126 = true ∧ sgn 33 = true := by decide +kernel
set_option maxRecDepth 100000 in
theorem nmR5 : nmR 58 = false ∧ nmR 44 = false ∧ nmR 42 = false ∧ nmR 126 = false ∧ nmR 33 = false := by decide +kernel
theorem bhd_stop {s : ByteArray} {k : Int} {e : Nat} (h : StopQ s e) : bhd s k e = wds s e := by
  unfold bhd
  rw [if_neg]
  rintro ⟨_, hl, _, _, hs⟩
  have q := sgn5
  rcases h with h | ⟨_, h⟩
  · omega
  · rcases h with h | h | h | h | h <;> (rw [h] at hs; simp [q] at hs)
/-- a rune of the text is a rune of the line -/
theorem dec_in {s t : ByteArray} {p : Nat} (h : Has s p t.data.toList) (he : StopQ s (p + t.size)) (j : Nat) (hj : j < t.size) : Utf8.decode s (p + j) = Utf8.decode t j := by
  have hsz : p + t.size ≤ s.size := by
    have := (has_getq h (t.size - 1) (by omega)).1
    omega
  rw [Text.Tx.decode_eq s (p + j), Text.Tx.decode_eq t j]
  have e1 : rd (fun k => at' s (p + j + k)) (t.size - j) = rd (fun k => at' t (j + k)) (t.size - j) := rd_congr (by omega) fun k hk => by
    have := (has_getq h (j + k) (by omega)).2
    rw [← Nat.add_assoc] at this
    exact this
  rw [← e1]
  refine (rd_cut _ _ _ (by omega) ?_ (by omega)).symm
  by_cases hw : (rd (fun k => at' s (p + j + k)) (s.size - (p + j))).2 ≤ t.size - j
  · exact hw
  · exfalso
    by_cases hend : p + t.size = s.size
    · have := (Text.Tx.rd_fits (fun k => at' s (p + j + k)) (s.size - (p + j)) (by omega)).2.1
      omega
    · have h1 := Text.Tx.rd_tail (fun k => at' s (p + j + k)) (s.size - (p + j)) (t.size - j) (by omega) (by omega)
      rw [show p + j + (t.size - j) = p + t.size by omega] at h1
      have := stopq_lt he (by omega)
      omega
theorem nEnd_name {s t : ByteArray} {p : Nat} (h : Has s p t.data.toList) (he : StopQ s (p + t.size)) : ∀ (m n j : Nat), t.size - j ≤ m → j ≤ t.size → (nmE t n j).1 = 0 → nEnd s (p + j) = p + t.size := by
  have hend : nEnd s (p + t.size) = p + t.size := by
    rcases he with he | ⟨hl, he⟩
    · rw [nEnd_out s _ (by omega)]
      exact he.symm
    · refine nEnd_no s _ hl ?_
      have q := nmR5
      rw [Text.Tx.dec_asc s _ (by omega)]
      rcases he with e | e | e | e | e
      all_goals (rw [e]; first | exact q.1 | exact q.2.1 | exact q.2.2.1 | exact q.2.2.2.1 | exact q.2.2.2.2)
  intro m
  induction m with
  | zero =>
    intro n j h1 h2 _
    obtain rfl : j = t.size := by omega
    exact hend
  | succ m ih =>
    intro n j h1 h2 h3
    by_cases hlt : j < t.size
    · have hp := has_getq h j hlt
      have hd := dec_in h he j hlt
      by_cases h48 : 48 ≤ n
      · rw [Text.Tx.nmE_long t n j hlt h48] at h3
        cases h3
      · cases hs : stray t j with
        | true =>
          rw [Text.Tx.nmE_stray t n j hlt h48 hs] at h3
          cases h3
        | false =>
          by_cases hb : (j = 0 ∧ among lets ((Utf8.decode t j).1 : Int) = false) ∨ nmR ((Utf8.decode t j).1 : Int) = false
          · rw [Text.Tx.nmE_bad t n j hlt h48 hs hb] at h3
            cases h3
          · rw [Text.Tx.nmE_step t n j hlt h48 hs hb] at h3
            have hr : nmR ((Utf8.decode t j).1 : Int) = true := by
              cases hq : nmR ((Utf8.decode t j).1 : Int) with
              | true => rfl
              | false => exact absurd (.inr hq) hb
            have hf := Text.Tx.decode_fits t j hlt
            rw [nEnd_in s (p + j) hp.1 (by rw [hd]; exact hr), hd, Nat.add_assoc]
            exact ih (n + 1) (j + (Utf8.decode t j).2) (by omega) (by omega) h3
    · obtain rfl : j = t.size := by omega
      exact hend
theorem name_first {t : ByteArray} (h : nmd t = true) : 0 < t.size ∧ (nmE t 0 0).1 = 0 ∧ among lets ((Utf8.decode t 0).1 : Int) = true ∧ nmA t = (0, 0) := by
  have h1 : (nmA t).1 = 0 := by unfold nmd at h; simpa using h
  have h2 := h1
  unfold nmA at h2
  split at h2
  · cases h2
  · rename_i hz
    have hp : 0 < t.size := by omega
    have ha : among lets ((Utf8.decode t 0).1 : Int) = true := by
      cases hq : among lets ((Utf8.decode t 0).1 : Int) with
      | true => rfl
      | false =>
        cases hs : stray t 0 with
        | true => rw [Text.Tx.nmE_stray t 0 0 hp (by omega) hs] at h2; cases h2
        | false => rw [Text.Tx.nmE_bad t 0 0 hp (by omega) hs (.inl ⟨rfl, hq⟩)] at h2; cases h2
    refine ⟨hp, h2, ha, ?_⟩
    have hz2 : ∀ (m n j : Nat), t.size - j ≤ m → (nmE t n j).1 = 0 → nmE t n j = (0, 0) := by
      intro m
      induction m with
      | zero => intro n j h3 _; exact Text.Tx.nmE_out t n j (by omega)
      | succ m ih =>
        intro n j h3 h4
        by_cases hlt : j < t.size
        · by_cases h48 : 48 ≤ n
          · rw [Text.Tx.nmE_long t n j hlt h48] at h4; cases h4
          · cases hs : stray t j with
            | true => rw [Text.Tx.nmE_stray t n j hlt h48 hs] at h4; cases h4
            | false =>
              by_cases hb : (j = 0 ∧ among lets ((Utf8.decode t j).1 : Int) = false) ∨ nmR ((Utf8.decode t j).1 : Int) = false
              · rw [Text.Tx.nmE_bad t n j hlt h48 hs hb] at h4; cases h4
              · rw [Text.Tx.nmE_step t n j hlt h48 hs hb] at h4 ⊢
                have hf := Text.Tx.decode_fits t j hlt
                exact ih _ _ (by omega) h4
        · exact Text.Tx.nmE_out t n j hlt
    unfold nmA
    rw [if_neg hz]
    exact hz2 t.size 0 0 (by omega) h2
theorem wds_name {s t : ByteArray} {p : Nat} (ht : nmd t = true) (h : Has s p t.data.toList) (he : StopQ s (p + t.size)) : wds s p = fin [⟨1, (p : Int), t, 0⟩] (wds s (p + t.size)) := by
  obtain ⟨hp, h0, ha, hn⟩ := name_first ht
  have hsz : p + t.size ≤ s.size := by
    have := (has_getq h (t.size - 1) (by omega)).1
    omega
  have hd := dec_in h he 0 hp
  rw [Nat.add_zero] at hd
  have hx := has_cutq h hsz
  have hne := nEnd_name h he t.size 0 0 (by omega) (by omega) h0
  rw [Nat.add_zero] at hne
  have hw : wordP s p = .inl (⟨1, (p : Int), t, 0⟩, p + t.size) := by
    unfold wordP
    rw [hd, ha, if_pos rfl, hne, hx, hn]
    rfl
  have hnr := Text.Tx.among_nmR ha
  have hat : at' s p ≠ 35 ∧ blk (at' s p) = false := by
    by_cases h128 : at' s p < 128
    · have hdd := Text.Tx.dec_asc s p h128
      rw [hd] at hdd
      rw [hdd] at hnr
      refine ⟨fun e => ?_, ?_⟩
      · rw [e] at hnr
        exact absurd hnr (by decide +kernel)
      · unfold blk
        rw [decide_eq_false (fun e => by rw [e] at hnr; exact absurd hnr (by decide +kernel)), decide_eq_false (fun e => by rw [e] at hnr; exact absurd hnr (by decide +kernel))]
        rfl
    · refine ⟨by omega, ?_⟩
      unfold blk
      rw [decide_eq_false (by omega), decide_eq_false (by omega)]
      rfl
  rw [Text.Tx.wds_word s p (by omega) hat.1 hat.2 _ _ hw]
  congr 1
  exact bhd_stop he
end Go.Proofs.YtlippoipjipcbaaGreatDoor

/-
  A plan's text is cut into the words of its steps, and these are read as the plan.
-/
namespace Go.Proofs.YtlippoipjipcbaaGreatDoor
open Go Go.RowKit
open Wb
open Text.Tx

def Sg5 (b : UInt8) : Prop := b = 58 ∨ b = 44 ∨ b = 42 ∨ b = 126 ∨ b = 33
set_option maxRecDepth 100000 in
theorem sg5_facts {b : UInt8} (h : Sg5 b) : among lets ((b.toNat : Nat) : Int) = false ∧ dig ((b.toNat : Nat) : Int) = false ∧ b.toNat ≠ 45 ∧ b.toNat ≠ 34 ∧ sgn b.toNat = true ∧ b.toNat ≠ 35 ∧ blk b.toNat = false ∧ b.toNat < 128 := by
  rcases h with rfl | rfl | rfl | rfl | rfl <;> decide +kernel
theorem sg5_stop {s : ByteArray} {e : Nat} {b : UInt8} (h : Sg5 b) (hl : e < s.size) (he : at' s e = b.toNat) : StopQ s e := by
  refine .inr ⟨hl, ?_⟩
  rcases h with rfl | rfl | rfl | rfl | rfl <;> simp [he]
theorem wordP_sign {s : ByteArray} {p r : Nat} (hd : Utf8.decode s p = (r, 1)) (q1 : among lets (r : Int) = false) (q2 : dig (r : Int) = false) (q3 : r ≠ 45) (q4 : r ≠ 34) (q5 : sgn r = true) : wordP s p = .inl (⟨4, (p : Int), s.extract p (p + 1), 0⟩, p + 1) := by
  unfold wordP
  rw [hd]
  generalize among lets (r : Int) = x at *
  subst q1
  generalize dig (r : Int) = y at *
  subst q2
  simp [q3, q4, q5]
theorem wds_sign {s : ByteArray} {p : Nat} {b : UInt8} (hb : Sg5 b) (h : Has s p [b]) : wds s p = fin [⟨4, (p : Int), ⟨#[b]⟩, 0⟩] (wds s (p + 1)) := by
  have h0 := h.at0
  have q := sg5_facts hb
  have hd : Utf8.decode s p = (b.toNat, 1) := by rw [Text.Tx.dec_asc s p (by rw [h0.2]; exact q.2.2.2.2.2.2.2), h0.2]
  have hx := has_extract h (by rw [List.length_singleton]; exact h0.1)
  rw [List.length_singleton] at hx
  have hw := wordP_sign hd q.1 q.2.1 q.2.2.1 q.2.2.2.1 q.2.2.2.2.1
  rw [hx] at hw
  rw [show (⟨[b].toArray⟩ : ByteArray) = ⟨#[b]⟩ from rfl] at hw
  rw [Text.Tx.wds_word s p h0.1 (by rw [h0.2]; exact q.2.2.2.2.2.1) (by rw [h0.2]; exact q.2.2.2.2.2.2.1) _ _ hw]
  refine congrArg _ ?_
  unfold bhd
  rw [if_neg (fun h9 => h9.1 rfl)]
def numFact (v : Nat) : Bool := (decide (numP (Lib.itoa (v : Int)) = some (v : Int))) && ((Lib.itoa (v : Int)).all fun c => dig ((c.toNat : Nat) : Int) && !among lets ((c.toNat : Nat) : Int) && decide (c.toNat < 128)) && !(Lib.itoa (v : Int)).isEmpty
set_option maxRecDepth 1000000 in
theorem num_all : (List.range 1001).all numFact = true := by decide +kernel
theorem num_fact {v : Nat} (h : v ≤ 1000) : numP (Lib.itoa (v : Int)) = some (v : Int) ∧ (∀ c ∈ Lib.itoa (v : Int), dig ((c.toNat : Nat) : Int) = true ∧ among lets ((c.toNat : Nat) : Int) = false ∧ c.toNat < 128) ∧ Lib.itoa (v : Int) ≠ [] := by
  have h1 := List.all_eq_true.1 num_all v (List.mem_range.2 (by omega))
  unfold numFact at h1
  simp only [Bool.and_eq_true, decide_eq_true_eq, List.all_eq_true, Bool.not_eq_true', List.isEmpty_eq_false_iff] at h1
  exact ⟨h1.1.1, fun c hc => ⟨(h1.1.2 c hc).1.1, (h1.1.2 c hc).1.2, (h1.1.2 c hc).2⟩, h1.2⟩
theorem dig_no {r : Nat} (h : dig (r : Int) = true) : r ≠ 35 ∧ blk r = false ∧ r ≠ 45 := by
  unfold dig at h
  simp only [Bool.and_eq_true, decide_eq_true_eq] at h
  refine ⟨by omega, ?_, by omega⟩
  unfold blk
  rw [decide_eq_false (by omega), decide_eq_false (by omega)]
  rfl
theorem stop_dig {s : ByteArray} {e : Nat} (h : StopQ s e) : dEnd s e = e := by
  rcases h with h | ⟨hl, h⟩
  · rw [dEnd_out s e (by omega)]; exact h.symm
  · refine dEnd_no s e hl ?_
    rcases h with h | h | h | h | h <;> (rw [h]; decide)
theorem dEnd_has {s : ByteArray} : ∀ (l : List UInt8) (q : Nat), Has s q l → (∀ c ∈ l, dig ((c.toNat : Nat) : Int) = true) → StopQ s (q + l.length) → dEnd s q = q + l.length
  | [], q, _, _, he => stop_dig he
  | c :: r, q, h, hd, he => by
    obtain ⟨hl, h0⟩ := h.at0
    have e : q + 1 + r.length = q + (c :: r).length := by simp only [List.length_cons]; omega
    rw [dEnd_in s q hl (by rw [h0]; exact hd c (List.mem_cons_self ..)), dEnd_has r (q + 1) h.tail (fun x hx => hd x (List.mem_cons_of_mem _ hx)) (by rw [e]; exact he), e]
theorem wds_num {s : ByteArray} {p v : Nat} (hv : v ≤ 1000) (h : Has s p (itoaB (v : Int)).data.toList) (he : StopQ s (p + (itoaB (v : Int)).size)) : wds s p = fin [⟨2, (p : Int), itoaB (v : Int), (v : Int)⟩] (wds s (p + (itoaB (v : Int)).size)) := by
  obtain ⟨n1, n2, n3⟩ := num_fact hv
  have hL : (itoaB (v : Int)).data.toList = Lib.itoa (v : Int) := rfl
  have hS : (itoaB (v : Int)).size = (Lib.itoa (v : Int)).length := by show (Lib.itoa _).toArray.size = _; simp
  have hB : itoaB (v : Int) = ⟨(Lib.itoa (v : Int)).toArray⟩ := rfl
  rw [hL] at h
  rw [hS] at he ⊢
  rw [hB]
  generalize Lib.itoa (v : Int) = l at *
  cases l with
  | nil => exact absurd rfl n3
  | cons c r =>
    obtain ⟨hl, h0⟩ := h.at0
    obtain ⟨c1, c2, c3⟩ := n2 c (List.mem_cons_self ..)
    obtain ⟨d1, d2, d3⟩ := dig_no c1
    have hd : Utf8.decode s p = (c.toNat, 1) := by rw [Text.Tx.dec_asc s p (by omega), h0]
    have hsz := has_size h (by simp)
    have hde := dEnd_has (c :: r) p h (fun x hx => (n2 x hx).1) he
    have hx : s.extract p (p + (c :: r).length) = ⟨(c :: r).toArray⟩ := has_extract h hsz
    have hnf : nFrom s p = p := by
      unfold nFrom
      rw [hd, if_neg d3]
    have hw : wordP s p = .inl (⟨2, (p : Int), ⟨(c :: r).toArray⟩, (v : Int)⟩, p + (c :: r).length) := by
      unfold wordP
      rw [hd, hnf, hde, hx]
      simp only [c1, c2, true_or, if_true]
      rw [if_neg (by simp), if_neg (by simp only [List.length_cons]; omega), n1]
    rw [Text.Tx.wds_word s p hl (by rw [h0]; exact d1) (by rw [h0]; exact d2) _ _ hw]
    congr 1
    exact bhd_stop he
theorem wds_blank1 {s : ByteArray} {p : Nat} (h : Has s p [32]) : wds s p = wds s (p + 1) := by
  obtain ⟨hl, he⟩ := h.at0
  have e : at' s p = 32 := he
  exact Text.Tx.wds_blank s p hl (by omega) (by rw [e]; decide)
theorem fin_fin (a b : List Wd) (r : List Wd × Int × Int) : fin a (fin b r) = fin (a ++ b) r := by
  unfold fin
  split
  · simp
  · rfl
end Go.Proofs.YtlippoipjipcbaaGreatDoor

/-
  A plan's text is read as the plan.
-/
namespace Go.Proofs.YtlippoipjipcbaaGreatDoor
open Go Go.RowKit
open Wb
open Text.Tx

def wq1 (q : Nat) (s : Stp) : List Wd := ⟨1, (q : Int), s.d, 0⟩ :: (if 1 < s.t then [⟨4, ((q + s.d.size : Nat) : Int), ⟨#[42]⟩, 0⟩, ⟨2, ((q + s.d.size + 1 : Nat) : Int), itoaB s.t, s.t⟩] else [])
def wq2 (a : Bool) (q : Nat) (s : Stp) : List Wd := wq1 q s ++ (if a = true then [⟨4, ((q + (stx1 s).size : Nat) : Int), ⟨#[126]⟩, 0⟩, ⟨1, ((q + (stx1 s).size + 1 : Nat) : Int), s.u, 0⟩] else [])
def wq3 (p : Pln) (i q : Nat) (s : Stp) : List Wd := wq2 (p.ahead i) q s ++ (if p.isPiv i = true then [⟨4, ((q + (stx2 (p.ahead i) s).size : Nat) : Int), ⟨#[33]⟩, 0⟩] else [])
theorem size1 (b : UInt8) : (⟨#[b]⟩ : ByteArray).size = 1 := rfl
theorem list1 (b : UInt8) : (⟨#[b]⟩ : ByteArray).data.toList = [b] := rfl
theorem wds_q1 {S : ByteArray} {q : Nat} {s : Stp} (hd : nmd s.d = true) (ht : 0 ≤ s.t ∧ s.t ≤ 1000) (h : Has S q (stx1 s).data.toList) (he : StopQ S (q + (stx1 s).size)) : wds S q = fin (wq1 q s) (wds S (q + (stx1 s).size)) := by
  unfold wq1
  by_cases h1 : 1 < s.t
  · rw [if_pos h1]
    have e : stx1 s = s.d ++ (⟨#[42]⟩ ++ itoaB s.t) := by unfold stx1; rw [if_pos h1]
    rw [e] at h he ⊢
    have a1 := has_appq h
    have a2 := has_appq a1.2
    rw [list1, size1] at a2
    have z : q + (s.d ++ (⟨#[42]⟩ ++ itoaB s.t)).size = q + s.d.size + 1 + (itoaB s.t).size := by
      rw [ByteArray.size_append, ByteArray.size_append, size1]
      omega
    rw [z] at he ⊢
    obtain ⟨v, hv⟩ : ∃ v : Nat, s.t = (v : Int) := ⟨s.t.toNat, by omega⟩
    rw [hv] at he a2 ⊢
    have a3 := a2.1.at0
    rw [wds_name hd a1.1 (sg5_stop (b := 42) (.inr (.inr (.inl rfl))) a3.1 a3.2), wds_sign (.inr (.inr (.inl rfl))) a2.1, wds_num (by omega) a2.2 he, fin_fin, fin_fin]
    rfl
  · rw [if_neg h1]
    have e : stx1 s = s.d := by unfold stx1; rw [if_neg h1]
    rw [e] at h he ⊢
    exact wds_name hd h he
theorem wds_q2 {S : ByteArray} {q : Nat} {s : Stp} {a : Bool} (hd : nmd s.d = true) (ht : 0 ≤ s.t ∧ s.t ≤ 1000) (hu : a = true → nmd s.u = true) (h : Has S q (stx2 a s).data.toList) (he : StopQ S (q + (stx2 a s).size)) : wds S q = fin (wq2 a q s) (wds S (q + (stx2 a s).size)) := by
  unfold wq2
  by_cases h1 : a = true
  · rw [if_pos h1]
    have e : stx2 a s = stx1 s ++ (⟨#[126]⟩ ++ s.u) := by unfold stx2; rw [if_pos h1]
    rw [e] at h he ⊢
    have a1 := has_appq h
    have a2 := has_appq a1.2
    rw [list1, size1] at a2
    have z : q + (stx1 s ++ (⟨#[126]⟩ ++ s.u)).size = q + (stx1 s).size + 1 + s.u.size := by
      rw [ByteArray.size_append, ByteArray.size_append, size1]
      omega
    rw [z] at he ⊢
    have a3 := a2.1.at0
    rw [wds_q1 hd ht a1.1 (sg5_stop (b := 126) (.inr (.inr (.inr (.inl rfl)))) a3.1 a3.2), wds_sign (.inr (.inr (.inr (.inl rfl)))) a2.1, wds_name (hu h1) a2.2 he, fin_fin, fin_fin]
    simp only [List.append_assoc]
    rfl
  · rw [if_neg h1, List.append_nil]
    have e : stx2 a s = stx1 s := by unfold stx2; rw [if_neg h1]
    rw [e] at h he ⊢
    exact wds_q1 hd ht h he
theorem wds_q3 {S : ByteArray} {p : Pln} {i q : Nat} {s : Stp} (hd : nmd s.d = true) (ht : 0 ≤ s.t ∧ s.t ≤ 1000) (hu : p.ahead i = true → nmd s.u = true) (h : Has S q (stxt p i s).data.toList) (he : StopQ S (q + (stxt p i s).size)) : wds S q = fin (wq3 p i q s) (wds S (q + (stxt p i s).size)) := by
  unfold wq3
  by_cases h1 : p.isPiv i = true
  · rw [if_pos h1]
    have e : stxt p i s = stx2 (p.ahead i) s ++ ⟨#[33]⟩ := by unfold stxt; rw [if_pos h1]
    rw [e] at h he ⊢
    have a1 := has_appq h
    have a2 := a1.2
    rw [list1] at a2
    have z : q + (stx2 (p.ahead i) s ++ ⟨#[33]⟩).size = q + (stx2 (p.ahead i) s).size + 1 := by
      rw [ByteArray.size_append, size1]
      omega
    rw [z] at he ⊢
    have a3 := a2.at0
    rw [wds_q2 hd ht hu a1.1 (sg5_stop (b := 33) (.inr (.inr (.inr (.inr rfl)))) a3.1 a3.2), wds_sign (.inr (.inr (.inr (.inr rfl)))) a2, fin_fin]
  · rw [if_neg h1, List.append_nil]
    have e : stxt p i s = stx2 (p.ahead i) s := by unfold stxt; rw [if_neg h1]
    rw [e] at h he ⊢
    exact wds_q2 hd ht hu h he
theorem signP_hit (t : ByteArray) (a n : Int) (r : List Wd) : signP t (⟨4, a, t, n⟩ :: r) = some r := by simp [signP]
theorem signP_name (t t' : ByteArray) (a n : Int) (r : List Wd) : signP t (⟨1, a, t', n⟩ :: r) = none := by simp [signP]
theorem signP_miss {b c : UInt8} (h : b ≠ c) (a n : Int) (r : List Wd) : signP ⟨#[b]⟩ (⟨4, a, ⟨#[c]⟩, n⟩ :: r) = none := by
  rw [signP, if_neg]
  rw [ByteArray.toList_eq, ByteArray.toList_eq]
  rintro ⟨h1, -⟩
  simp only [beq_iff_eq] at h1
  exact h (by injection h1 with h1; exact h1.symm)
/-- nothing, or a comma first -/
def RestQ (r : List Wd) : Prop := r = [] ∨ ∃ a t, r = ⟨4, a, ⟨#[44]⟩, 0⟩ :: t
theorem restq_sign {r : List Wd} (h : RestQ r) {b : UInt8} (hb : b ≠ 44) : signP ⟨#[b]⟩ r = none := by
  rcases h with rfl | ⟨a, t, rfl⟩
  · rfl
  · exact signP_miss hb _ _ _
/-- the tries that are read -/
theorem tries_q {q : Nat} {s : Stp} {t0 : Int} {r : List Wd} (h : s.t = t0 ∨ 1 < s.t) (hr : signP ⟨#[42]⟩ r = none) : ∃ w1, wq1 q s ++ r = ⟨1, (q : Int), s.d, 0⟩ :: w1 ∧ triesP t0 w1 = .ok (s.t, r) := by
  unfold wq1
  by_cases h1 : 1 < s.t
  · rw [if_pos h1]
    refine ⟨_, List.cons_append .., ?_⟩
    unfold triesP
    rw [List.cons_append, signP_hit]
    rfl
  · rw [if_neg h1]
    refine ⟨_, List.cons_append .., ?_⟩
    unfold triesP
    rw [List.nil_append, hr]
    have : s.t = t0 := by omega
    rw [this]
/-- the place of the pivot, as far as it was read -/
def pvq (p : Pln) (i : Nat) : Int := if p.piv ≤ (i : Int) then p.piv else 0
theorem step_q {p : Pln} {i q : Nat} {s : Stp} (hp : 0 ≤ p.piv) (hg : stepErr p i s = 0) (R : RdP) (rest : List Wd) (hr : RestQ rest) (hl : R.ss.length = i) (hv : R.piv = pvq p i) :
    stepP R (wq3 p i q s ++ rest) = .ok (⟨pvq p (i + 1), R.ss ++ [s], R.ats ++ [(q : Int)]⟩, rest) := by
  have ha := stepErr_ah hg
  have hw : winP s.t (if p.behind i then 0 else 1) (if p.behind i then 0 else 1000) = true := by
    unfold stepErr at hg
    generalize winP s.t (if p.behind i then 0 else 1) (if p.behind i then 0 else 1000) = wi at *
    split at hg
    · cases hg
    split at hg
    · cases hg
    split at hg
    · cases hg
    split at hg
    · cases hg
    rename_i h4
    simpa using h4
  unfold winP at hw
  simp only [Bool.and_eq_true, decide_eq_true_eq] at hw
  have hu : s.und = false → s.u = ⟨#[]⟩ := fun hu => by
    unfold Stp.und at hu
    have : s.u.toList = [] := by simpa using hu
    apply Text.toList_inj
    rw [this, ByteArray.toList_eq]
  obtain ⟨d, u, t⟩ := s
  unfold wq3 wq2
  cases hA : p.ahead i with
  | true =>
    have hq : p.isPiv i = false ∧ pvq p i = 0 ∧ pvq p (i + 1) = 0 := by
      unfold Pln.ahead at hA
      unfold Pln.isPiv pvq
      simp only [Bool.or_eq_true, beq_iff_eq, decide_eq_true_eq] at hA
      refine ⟨?_, ?_, ?_⟩
      · simp only [beq_eq_false_iff_ne]
        omega
      · split <;> omega
      · split <;> omega
    have hb : p.behind i = false := by unfold Pln.behind; rw [hA]; rfl
    rw [hb] at hw
    rw [hq.2.1] at hv
    rw [hq.1, hq.2.2]
    simp only [if_true, Bool.false_eq_true, if_false, List.append_nil, List.append_assoc, List.cons_append, List.nil_append] at hw ⊢
    obtain ⟨w1, e1, e2⟩ := tries_q (q := q) (s := ⟨d, u, t⟩) (t0 := 1) (r := ⟨4, ((q + (stx1 ⟨d, u, t⟩).size : Nat) : Int), ⟨#[126]⟩, 0⟩ :: ⟨1, ((q + (stx1 ⟨d, u, t⟩).size + 1 : Nat) : Int), u, 0⟩ :: rest) (by simp only; omega) (signP_miss (by decide) _ _ _)
    rw [e1]
    unfold stepP
    rw [takeP, if_pos rfl]
    simp only [hv, if_true, e2]
    unfold endP
    rw [if_pos rfl, signP_miss (by decide)]
    simp only
    rw [signP_hit]
    simp only
    rw [takeP, if_pos rfl]
  | false =>
    have hun : u = ⟨#[]⟩ := hu (by rw [← ha, hA])
    subst hun
    cases hP : p.isPiv i with
    | true =>
      have hq : pvq p i = 0 ∧ pvq p (i + 1) = (i : Int) + 1 := by
        unfold Pln.isPiv at hP
        simp only [beq_iff_eq] at hP
        unfold pvq
        refine ⟨?_, ?_⟩
        · split <;> omega
        · split <;> omega
      have hb : p.behind i = false := by unfold Pln.behind; rw [hA, hP]; rfl
      rw [hb] at hw
      rw [hq.1] at hv
      rw [hq.2]
      simp only [if_true, Bool.false_eq_true, if_false, List.append_nil, List.append_assoc, List.cons_append, List.nil_append] at hw ⊢
      obtain ⟨w1, e1, e2⟩ := tries_q (q := q) (s := ⟨d, ⟨#[]⟩, t⟩) (t0 := 1) (r := ⟨4, ((q + (stx2 false ⟨d, ⟨#[]⟩, t⟩).size : Nat) : Int), ⟨#[33]⟩, 0⟩ :: rest) (by simp only; omega) (signP_miss (by decide) _ _ _)
      rw [e1]
      unfold stepP
      rw [takeP, if_pos rfl]
      simp only [hv, if_true, e2]
      unfold endP
      rw [if_pos rfl, signP_hit, hl]
    | false =>
      have hb : p.behind i = true := by unfold Pln.behind; rw [hA, hP]; rfl
      have hq : pvq p i = p.piv ∧ pvq p (i + 1) = p.piv ∧ p.piv ≠ 0 := by
        unfold Pln.ahead at hA
        unfold Pln.isPiv at hP
        simp only [Bool.or_eq_false_iff, beq_eq_false_iff_ne, decide_eq_false_iff_not, ne_eq] at hA hP
        unfold pvq
        refine ⟨?_, ?_, hA.1⟩
        · rw [if_pos (by omega)]
        · rw [if_pos (by omega)]
      rw [hb] at hw
      rw [hq.1] at hv
      rw [hq.2.1]
      simp only [if_true, Bool.false_eq_true, if_false, List.append_nil] at hw ⊢
      obtain ⟨w1, e1, e2⟩ := tries_q (q := q) (s := ⟨d, ⟨#[]⟩, t⟩) (t0 := 0) (r := rest) (by simp only; omega) (restq_sign hr (by decide))
      rw [e1]
      unfold stepP
      rw [takeP, if_pos rfl]
      simp only [hv, hq.2.2, if_false, e2]
      unfold endP
      rw [if_neg hq.2.2]
      simp only
      rw [restq_sign hr (by decide)]
/-- the steps behind the first -/
def tailT (p : Pln) : Nat → List Stp → ByteArray
  | _, [] => ⟨#[]⟩
  | i, s :: r => ⟨#[44]⟩ ++ (⟨#[32]⟩ ++ (stxt p i s ++ tailT p (i + 1) r))
theorem joinT (p : Pln) : ∀ (l : List Stp) (i : Nat), (tailT p i l).data.toList = Lib.joinTail [44, 32] ((txF p i l).map (·.data.toList))
  | [], _ => rfl
  | s :: r, i => by
    rw [tailT, txF]
    simp only [ByteArray.data_append, Array.toList_append, joinT p r (i + 1), List.map_cons]
    unfold Lib.joinTail
    simp
theorem print_tail (p : Pln) (s : Stp) (r : List Stp) (h : p.ss = s :: r) : printP p = p.nm ++ (⟨#[58]⟩ ++ (⟨#[32]⟩ ++ (stxt p 0 s ++ tailT p 1 r))) := by
  apply Text.toList_inj
  rw [ByteArray.toList_eq, ByteArray.toList_eq]
  unfold printP joinP
  rw [h, txF, List.map_cons, Lib.join_cons]
  simp only [ByteArray.data_append, Array.toList_append, joinT]
  simp
theorem fErr_step {p : Pln} {i : Nat} {s : Stp} (h : stepErr p i s = 0) : nmd s.d = true ∧ (0 ≤ s.t ∧ s.t ≤ 1000) ∧ (p.ahead i = true → nmd s.u = true) := by
  have q := stepErr_small h
  refine ⟨q.2.2.2.2, ⟨q.2.2.1, q.2.2.2.1⟩, fun ha => ?_⟩
  rw [stepErr_ah h] at ha
  unfold stepErr at h
  split at h
  · cases h
  split at h
  · cases h
  rename_i h2
  rw [ha] at h2
  simpa using h2
theorem tail_q {p : Pln} {S : ByteArray} (hp : 0 ≤ p.piv) : ∀ (l : List Stp) (i q : Nat), (∀ k s, l[k]? = some s → stepErr p (i + k) s = 0) → Has S q (tailT p i l).data.toList → q + (tailT p i l).size = S.size →
    ∃ ws, wds S q = (ws, 0, 0) ∧ RestQ ws ∧ StopQ S q ∧ ∀ (R : RdP) (f : Nat), R.ss.length = i → R.piv = pvq p i → ws.length < f → ∃ ats, stepsP f R ws = .ok ⟨pvq p (i + l.length), R.ss ++ l, ats⟩
  | [], i, q, _, _, he => by
    have e : q = S.size := he
    refine ⟨[], Text.Tx.wds_out S q (by omega), .inl rfl, .inl e, fun R f h1 h2 h3 => ?_⟩
    obtain ⟨f, rfl⟩ : ∃ g, f = g + 1 := ⟨f - 1, by omega⟩
    refine ⟨R.ats, ?_⟩
    rw [stepsP, List.length_nil, Nat.add_zero, List.append_nil, ← h2]
  | s :: r, i, q, hg, h, he => by
    rw [tailT] at h he
    have a1 := has_appq h
    have a2 := has_appq a1.2
    have a3 := has_appq a2.2
    rw [list1, size1] at a1
    rw [list1, size1, size1] at a2
    rw [size1, size1] at a3
    rw [ByteArray.size_append, ByteArray.size_append, ByteArray.size_append, size1, size1] at he
    have g0 := hg 0 s rfl
    rw [Nat.add_zero] at g0
    obtain ⟨ws, e1, e2, e3, e4⟩ := tail_q (S := S) hp r (i + 1) (q + 1 + 1 + (stxt p i s).size) (fun k x hx => by rw [Nat.add_assoc, Nat.add_comm 1 k]; exact hg (k + 1) x hx) a3.2 (by omega)
    have gs := fErr_step g0
    have e5 : wds S q = (⟨4, (q : Int), ⟨#[44]⟩, 0⟩ :: (wq3 p i (q + 1 + 1) s ++ ws), 0, 0) := by
      rw [wds_sign (.inr (.inl rfl)) a1.1, wds_blank1 a2.1, wds_q3 gs.1 gs.2.1 gs.2.2 a3.1 e3, fin_fin, e1]
      rfl
    have z0 := a1.1.at0
    refine ⟨_, e5, .inr ⟨_, _, rfl⟩, sg5_stop (b := 44) (.inr (.inl rfl)) z0.1 z0.2, fun R f h1 h2 h3 => ?_⟩
    obtain ⟨f, rfl⟩ : ∃ g, f = g + 1 := ⟨f - 1, by omega⟩
    have hst := step_q (q := q + 1 + 1) hp g0 R ws e2 h1 h2
    rw [stepsP_step (signP_hit _ _ _ _) hst]
    obtain ⟨ats, e6⟩ := e4 ⟨pvq p (i + 1), R.ss ++ [s], R.ats ++ [((q + 1 + 1 : Nat) : Int)]⟩ f (by simp [h1]) rfl (by simp only [List.length_cons, List.length_append] at h3; omega)
    refine ⟨ats, ?_⟩
    rw [e6]
    simp only [List.length_cons, List.append_assoc, List.cons_append, List.nil_append]
    rw [show i + 1 + r.length = i + (r.length + 1) by omega]
theorem has_self (S : ByteArray) : Has S 0 S.data.toList := fun j hj => by
  rw [Array.length_toList] at hj
  refine ⟨by rw [Nat.zero_add]; exact hj, ?_⟩
  rw [Nat.zero_add, Text.Tx.at_get S j hj]
  rfl
theorem print_size {p : Pln} (h : (fErr p).1 = 0) : (printP p).size ≤ 30000 := by
  obtain ⟨-, g2, -, g4, -, g6⟩ := fErr_good h
  have hx : ∀ x ∈ txF p 0 p.ss, x.size ≤ 500 := fun x hx => by
    obtain ⟨k, hk⟩ := List.mem_iff_getElem?.1 hx
    rw [txF_get] at hk
    cases hs : p.ss[k]? with
    | none => rw [hs] at hk; cases hk
    | some s =>
      rw [hs] at hk
      injection hk with hk
      subst hk
      have q := stepErr_small (g6 k s hs)
      have := stxt_size p (0 + k) s (by omega) (by omega)
      omega
  have := joinP_size (txF p 0 p.ss) (by rw [txF_len]; exact g4) hx
  unfold printP
  rw [ByteArray.size_append, ByteArray.size_append]
  show p.nm.size + 2 + (List.toArray _).size ≤ 30000
  rw [List.size_toArray]
  omega
theorem parse_print {p : Pln} (h : (fErr p).1 = 0) : parseP (printP p) = (p, 0, 0) := by
  obtain ⟨g1, g2, g3, g4, g5, g6⟩ := fErr_good h
  cases hss : p.ss with
  | nil => rw [hss] at g3; simp at g3
  | cons s r =>
    have hpr := print_tail p s r hss
    have hz := print_size h
    have hs0 := has_self (printP p)
    obtain ⟨S, hS⟩ : ∃ S, printP p = S := ⟨_, rfl⟩
    have hs1 : Has S 0 (p.nm ++ (⟨#[58]⟩ ++ (⟨#[32]⟩ ++ (stxt p 0 s ++ tailT p 1 r)))).data.toList := by
      rw [← hpr, hS]
      rw [hS] at hs0
      exact hs0
    have hs2 : S.size = p.nm.size + 1 + 1 + (stxt p 0 s).size + (tailT p 1 r).size := by
      rw [← hS, hpr, ByteArray.size_append, ByteArray.size_append, ByteArray.size_append, ByteArray.size_append, size1, size1]
      omega
    have a0 := has_appq hs1
    have a1 := has_appq a0.2
    have a2 := has_appq a1.2
    have a3 := has_appq a2.2
    rw [Nat.zero_add] at a0 a1 a2 a3
    rw [list1, size1] at a1
    rw [list1, size1, size1] at a2
    rw [size1, size1] at a3
    have st : ∀ k x, p.ss[k]? = some x → stepErr p k x = 0 := g6
    rw [hss] at st
    obtain ⟨ws, e1, e2, e3, e4⟩ := tail_q (S := S) g5.1 r 1 (p.nm.size + 1 + 1 + (stxt p 0 s).size) (fun k x hx => by rw [Nat.add_comm 1 k]; exact st (k + 1) x hx) a3.2 (by omega)
    have s0 := st 0 s rfl
    have gs := fErr_step s0
    have z0 := a1.1.at0
    have hw : wds S 0 = (⟨1, ((0 : Nat) : Int), p.nm, 0⟩ :: ⟨4, (p.nm.size : Int), ⟨#[58]⟩, 0⟩ :: (wq3 p 0 (p.nm.size + 1 + 1) s ++ ws), 0, 0) := by
      rw [wds_name g1 a0.1 (by rw [Nat.zero_add]; exact sg5_stop (b := 58) (.inl rfl) z0.1 z0.2), Nat.zero_add, wds_sign (.inl rfl) a1.1, wds_blank1 a2.1, wds_q3 gs.1 gs.2.1 gs.2.2 a3.1 e3, fin_fin, fin_fin, e1]
      rfl
    have hst := step_q (q := p.nm.size + 1 + 1) g5.1 s0 ⟨0, [], []⟩ ws e2 rfl (by show (0 : Int) = _; unfold pvq; split <;> omega)
    obtain ⟨ats, e6⟩ := e4 ⟨pvq p (0 + 1), [] ++ [s], [] ++ [((p.nm.size + 1 + 1 : Nat) : Int)]⟩ (ws.length + 1) rfl rfl (Nat.lt_succ_self _)
    have hpv : pvq p (1 + r.length) = p.piv := by
      unfold pvq
      rw [hss, List.length_cons] at g5
      rw [if_pos (by omega)]
    have hwh : wholeP (wds S 0).1 = .ok (p.nm, ⟨p.piv, p.ss, ats⟩) := by
      rw [hw]
      unfold wholeP
      simp only
      rw [takeP, if_pos rfl]
      simp only
      rw [signP_hit]
      simp only
      rw [hst]
      simp only
      rw [e6, hpv, hss]
      rfl
    have hA : wdA S = wds S 0 := by
      unfold wdA
      rw [if_neg (by rw [← hS]; omega)]
    rw [hS]
    unfold parseP
    rw [hA, hwh, hw]
    simp only [ne_eq, not_true_eq_false, if_false]
    unfold parseW
    simp only
    have hpe : (⟨p.nm, p.piv, p.ss⟩ : Pln) = p := rfl
    rw [hpe, h, hS]
    simp
end Go.Proofs.YtlippoipjipcbaaGreatDoor

/-
  PlanBack: the walk.
-/
namespace Go.Proofs.YtlippoipjipcbaaGreatDoor
open Go Go.RowKit
open Wb

set_option maxRecDepth 100000 in
set_option maxHeartbeats 16000000 in
theorem planBack_walk (p : Pln) (v : Value) (w : World) (h : StsAt w v p.ss) (hT : QTab w) (hF : PFit p) :
    Calls Tryz.prog 3 #[plv p v] w fun e w' => e = .returned (.bool true) ∧ Below w.heap.size w w' := by
  have hE := fErr_bnd p
  have HST : Hid (∀ w', Below w.heap.size w w' → Calls Tryz.prog 7 #[] w' fun e w'' => e = .returned (.bool true) ∧ Below w'.heap.size w' w'') := fun w' hb => plstarted_any w' (hT.kept hb)
  have HPR : Hid (∀ w', Below w.heap.size w w' → Calls Tryz.prog 8 #[plv p v] w' fun e w'' => e = .returned (.tuple #[.string (printA p).1, .int .i64 (printA p).2]) ∧ Below w'.heap.size w' w'') := fun w' hb => pprint_any p v w' (h.kept hb) (hT.kept hb).wt.lets (hT.kept hb).wt.nt hF
  have HCK : Hid (∀ w', Below w.heap.size w w' → Calls Tryz.prog 10 #[plv p v] w' fun e w'' => e = .returned (.int .i64 (fErr p).1) ∧ Below w'.heap.size w' w'') := fun w' hb => pcheck_any p v w' (h.kept hb) (hT.kept hb).wt.lets hF
  have HPA : Hid ((fErr p).1 = 0 → ∀ w', Below w.heap.size w w' → Calls Tryz.prog 11 #[.string (printA p).1] w' fun e w'' => ∃ a c, e = .returned (.tuple #[.agg #[.string p.nm, .int .i64 p.piv, .slice a p.ss.length c], .int .i64 0, .int .i64 0]) ∧ StsAt w'' (.slice a p.ss.length c) p.ss ∧ Below w'.heap.size w' w'') := fun h0 w' hb => by
    have e0 : (printA p).1 = printP p := by unfold printA; rw [if_pos h0]
    rw [e0]
    have := parse_any (printP p) w' (hT.kept hb).wt
    refine this.mono ?_
    rintro e w'' ⟨v', e1, hr, hb'⟩
    rw [parse_print h0] at e1 hr
    obtain ⟨a, c, ev⟩ := ownsRow_shape hr
    have hs := sts_of hr
    subst ev
    exact ⟨a, c, e1, hs, hb'⟩
  have HEQ : Hid (∀ v2 w', StsAt w' v p.ss → StsAt w' v2 p.ss → Calls Tryz.prog 12 #[.agg #[.string p.nm, .int .i64 p.piv, v], .agg #[.string p.nm, .int .i64 p.piv, v2]] w' fun e w'' => e = .returned (.bool true) ∧ Below w'.heap.size w' w'') := fun v2 w' h1 h2 => plequal_yes p v v2 w' h1 h2
  have HNU : Hid (∀ w', Calls Tryz.prog 9 #[.int .i64 (fErr p).1] w' fun e w'' => e = .returned (.int .i64 (fErr p).1) ∧ w'' = w') := fun w' => plnum_any _ w' (by omega) (by omega)
  have HTE : Hid ((fErr p).1 ≠ 0 → (printA p).1 = ⟨#[]⟩) := fun h0 => by unfold printA; rw [if_neg h0]
  have hp2 : (printA p).2 = (fErr p).1 := by
    unfold printA
    split
    · rename_i h0; exact h0.symm
    · rfl
  have HLI : Hid ((Tryz.prog.info? 24).map (·.size) = some (plvl p v).length) := infoPlan
  have HX : Hid (LB (w.alloc (.cells (plvl p v).toArray 24)) w.heap.size 24 (plvl p v) ∧ StsAt (w.alloc (.cells (plvl p v).toArray 24)) v p.ss ∧ Below w.heap.size w (w.alloc (.cells (plvl p v).toArray 24))) := ⟨lb_new w _ _, h.kept (up0 _ _), up0 _ _⟩
  have hpl : ∀ v, plv p v = .agg (plvl p v).toArray := fun _ => rfl
  simp only [hpl] at HPR HCK ⊢
  rw [hp2] at HPR
  clear hpl hT hF h hp2
  generalize (fErr p).1 = E at *
  generalize (printA p).1 = T at *
  have hq : (E != E) = false := by simp
  obtain ⟨D, hD⟩ : ∃ D, plvl p v = D := ⟨_, rfl⟩
  rw [hD] at HPR HCK HX HLI ⊢
  have HD : Hid (D = [.string p.nm, .int .i64 p.piv, v]) := hD.symm
  clear hD
  go_enter Tryz.func3, Tryz.ntmps3
  go_wp2_with fail
  refine (HST.out _ HX.out.2.2).mono ?_
  rintro e w1 ⟨rfl, b1⟩
  have H1 : Hid (LB w1 w.heap.size 24 D ∧ StsAt w1 v p.ss ∧ Below w.heap.size w w1) := ⟨HX.out.1.kept b1, HX.out.2.1.kept b1, andThen HX.out.2.2 b1⟩
  clear b1 HX HST
  go_wp2_with (first | (refine wpList_load_mid rfl 24 _ rfl w.heap.size 0 rfl D _ H1.out.1.range Tryz.underlying24 rfl HLI.out ?_) | fail)
  refine (HPR.out _ H1.out.2.2).mono ?_
  rintro e w2 ⟨rfl, b2⟩
  have K : Hid (∀ W W' : World, (LB W w.heap.size 24 D ∧ StsAt W v p.ss ∧ Below w.heap.size w W) → Below W.heap.size W W' → (LB W' w.heap.size 24 D ∧ StsAt W' v p.ss ∧ Below w.heap.size w W')) := fun W W' h hb => ⟨h.1.kept hb, h.2.1.kept hb, andThen h.2.2 hb⟩
  have H2 : Hid (LB w2 w.heap.size 24 D ∧ StsAt w2 v p.ss ∧ Below w.heap.size w w2) := K.out _ _ H1.out b2
  clear b2 H1 HPR
  go_wp2_with fail
  have H5 : Hid (LB w2.drew w.heap.size 24 D ∧ StsAt w2.drew v p.ss ∧ Below w.heap.size w w2.drew) := K.out _ _ H2.out (Below.drew (Below.refl _ _))
  clear H2
  refine wp_region_held_drew (S := fun w' : World => w'.rangeAt w.heap.size 0 D) (by kernel_rfl) H5.out.1.range (fun hH => ?_)
  generalize w2.drew = w5 at *
  refine zqk 0 rfl hH ?_
  simp only [Act.put, List.setIfInBounds_toArray, List.set_cons_zero, List.set_cons_succ, List.getElem_toArray, List.getElem_cons_zero]
  refine zqk 1 rfl hH ?_
  simp only [Act.put, List.setIfInBounds_toArray, List.set_cons_zero, List.set_cons_succ, List.getElem_toArray, List.getElem_cons_zero, List.getElem_cons_succ]
  refine zqk 2 rfl hH ?_
  simp only [Act.put, List.setIfInBounds_toArray, List.set_cons_zero, List.set_cons_succ, List.getElem_toArray, List.getElem_cons_zero, List.getElem_cons_succ]
  refine zqk 3 rfl hH ?_
  simp only [Act.put, List.setIfInBounds_toArray, List.set_cons_zero, List.set_cons_succ, List.getElem_toArray, List.getElem_cons_zero, List.getElem_cons_succ]
  refine zql 5 rfl (yieldsIf_load_mid (by rfl) _ _ rfl _ _ rfl D _ (fun w' hSw => hSw) Tryz.underlying24 rfl HLI.out) hH ?_
  simp only [Act.put, List.setIfInBounds_toArray, List.set_cons_zero, List.set_cons_succ, List.getElem_toArray, List.getElem_cons_zero, List.getElem_cons_succ]
  refine zqr 4 rfl (fun K2 hK => ?_)
  go_simp
  refine (HNU.out _).mono ?_
  rintro e w' ⟨rfl, rfl⟩
  refine hK.out _ _ H5.out.1.range (fun hH2 => ?_)
  clear hK K2 hH
  refine zqr 6 rfl (fun K2 hK => ?_)
  go_simp
  refine (HCK.out _ H5.out.2.2).mono ?_
  rintro e w6 ⟨rfl, b6⟩
  have H6 : Hid (LB w6 w.heap.size 24 D ∧ StsAt w6 v p.ss ∧ Below w.heap.size w w6) := K.out _ _ H5.out b6
  refine hK.out _ _ H6.out.1.range (fun hH => ?_)
  clear hK K2 hH2 b6 H5
  refine zqr 7 rfl (fun K2 hK => ?_)
  go_simp
  refine (HNU.out _).mono ?_
  rintro e w' ⟨rfl, rfl⟩
  refine hK.out _ _ H6.out.1.range (fun hH2 => ?_)
  clear hK K2 hH
  refine zqk 8 rfl hH2 ?_
  simp only [Act.put, List.setIfInBounds_toArray, List.set_cons_zero, List.set_cons_succ, List.getElem_toArray, List.getElem_cons_zero, List.getElem_cons_succ]
  refine zqk 9 rfl hH2 ?_
  simp only [Act.put, List.setIfInBounds_toArray, List.set_cons_zero, List.set_cons_succ, List.getElem_toArray, List.getElem_cons_zero, List.getElem_cons_succ]
  refine wpAnyH_done (by kernel_rfl) ?_ _
  clear hH2
  by_cases h0 : E = 0
  · have HP := HPA.out h0
    subst h0
    have HP2 : Hid _ := HP
    clear HPA HTE HP
    go_wp2_with (go_at_call 9; refine (HNU.out _).mono ?_; rintro e w' ⟨rfl, rfl⟩)
    refine (HP2.out _ H6.out.2.2).mono ?_
    rintro e w7 ⟨a, c, rfl, s7, b7⟩
    have H7 : Hid (∀ o, o = .cells #[.string p.nm, .int .i64 p.piv, .slice a p.ss.length c] 24 → LB (w7.alloc o) w.heap.size 24 D ∧ StsAt (w7.alloc o) v p.ss ∧ Below w.heap.size w (w7.alloc o) ∧ LB (w7.alloc o) w7.heap.size 24 (plvl p (.slice a p.ss.length c)) ∧ StsAt (w7.alloc o) (.slice a p.ss.length c) p.ss) := fun o ho => by
      subst ho
      obtain ⟨q1, q2, q3⟩ := K.out _ _ H6.out b7
      exact ⟨q1.kept (up0 _ _), q2.kept (up0 _ _), up q3 _, lb_new w7 (plvl p (.slice a p.ss.length c)) 24, s7.kept (up0 _ _)⟩
    clear s7 b7 H6 HP2
    go_wp2_with fail
    refine (HNU.out _).mono ?_
    rintro e w9 ⟨rfl, e9⟩
    have H9 : Hid (LB w9 w.heap.size 24 D ∧ StsAt w9 v p.ss ∧ Below w.heap.size w w9 ∧ LB w9 w7.heap.size 24 (plvl p (.slice a p.ss.length c)) ∧ StsAt w9 (.slice a p.ss.length c) p.ss) := by rw [e9]; exact H7.out _ rfl
    clear e9 H7
    have c0 := H9.out.1.cell 0 (.string p.nm) (by rw [HD.out]; rfl)
    have c1 := H9.out.1.cell 1 (.int .i64 p.piv) (by rw [HD.out]; rfl)
    have c2 := H9.out.1.cell 2 v (by rw [HD.out]; rfl)
    have d0 := H9.out.2.2.2.1.cell 0 _ rfl
    have d1 := H9.out.2.2.2.1.cell 1 _ rfl
    have d2 := H9.out.2.2.2.1.cell 2 _ rfl
    go_wp2_with fail
    refine (HEQ.out _ _ H9.out.2.1 H9.out.2.2.2.2).mono ?_
    rintro e w8 ⟨rfl, b8⟩
    have H8 : Hid (Below w.heap.size w w8) := andThen H9.out.2.2.1 b8
    clear b8 H9 HEQ c0 c1 c2 d0 d1 d2
    go_wp2_with fail
    go_ret
    exact ⟨rfl, H8.out⟩
  · have ht := HTE.out h0
    subst ht
    have h9 : (E != 0) = true := by simp [h0]
    clear HPA HTE h0
    go_wp2_with (go_at_call 9; refine (HNU.out _).mono ?_; rintro e w' ⟨rfl, rfl⟩)
    go_ret
    exact ⟨rfl, H6.out.2.2⟩
end Go.Proofs.YtlippoipjipcbaaGreatDoor
