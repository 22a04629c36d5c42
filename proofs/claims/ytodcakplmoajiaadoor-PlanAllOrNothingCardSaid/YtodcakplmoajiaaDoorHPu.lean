/-
  PlanAllOrNothing, pure: the tally along the turns.
-/
import Derived.Test.YtodcakplmoajiaaDoorHPt
import Derived.Test.YtodcakplmoajiaaDoorHPl
namespace Go.Proofs.YtodcakplmoajiaaDoor
open Go Go.RowKit
open Wb

theorem ans_fits {p : Pln} {S : Sg} {l : List Nat} {O cc : Int} (hf : fitP p S = 0) (hl : S.x.fl = true) (hlen : l.length ≤ 16384) (hO : 1 ≤ O ∧ O ≤ 3) (hc1 : -9223372036854775808 ≤ cc) (hc2 : cc ≤ 9223372036854775807) : fitP p (deedS S (ansR p S O cc l)) = 0 := by
  obtain ⟨h1, h2, h3, h4, h5⟩ := pfits_iff hf
  obtain ⟨v, r0⟩ := ans_good (l := l) hf hl hlen hO hc1 hc2
  have hs := steps_deed S _ h2 v r0
  have hc := chkS_deed S _ h2 v r0
  unfold fitP
  rw [if_neg (by simpa using h1), hc, if_neg (by decide), hs.2.2.2.2.1, hs.2.1, deed_piv, h3, h4, h5]
  simp
/-- not behind the pivot -/
theorem not_behind {p : Pln} {i : Int} (h : p.piv = 0 ∨ i < p.piv) : p.behind i = false := by
  unfold Pln.behind Pln.ahead Pln.isPiv
  rcases h with hp | hp
  · simp [hp]
  · by_cases h0 : p.piv = 0
    · simp [h0]
    · by_cases h1 : i + 1 < p.piv
      · simp [h1]
      · have : i + 1 = p.piv := by omega
        simp [this]
theorem said_turn {p : Pln} {S : Sg} {l : List Nat} {O cc : Int} (hl : S.x.fl = false) : saidX p S O cc = (turnR S l).x := by
  have h24 := deed_flight hl
  have e9 : ¬(S.x.fl = true) := by rw [hl]; decide
  unfold saidX turnR
  rw [if_neg e9]
  simp only [if_neg h24]
theorem said_ans {p : Pln} {S : Sg} {l : List Nat} {O cc : Int} (hl : S.x.fl = true) (hO : O ≠ 4) : saidX p S O cc = (ansR p S O cc l).x := by
  unfold saidX ansR
  rw [if_pos hl, if_neg hO]
theorem said_lost {p : Pln} {S : Sg} {cc : Int} (hl : S.x.fl = true) : saidX p S 4 cc = ⟨0, 0, 0, 0, 0, 0, 0, 0, 0, 0⟩ := by
  unfold saidX
  rw [if_pos hl, if_pos rfl]
theorem said_end {p : Pln} {S : Sg} {O cc : Int} (hf : fitP p S = 0) (he : S.x.ended = true) : (saidX p S O cc).k = 7 ∧ (saidX p S O cc).p = 0 := by
  have hc := (pfits_iff hf).2.1
  have hk := ended_zero S hc he
  have hl : ¬(S.x.fl = true) := by
    intro e
    rcases flight_deed hc e with ⟨e2, _⟩ | ⟨e2, _⟩ <;> omega
  unfold saidX
  rw [if_neg hl, hk]
  simp [recQ]
theorem v3_p {r : Rec} (hv : V3 r) (_hk : r.x.k ≠ 7) : 0 ≤ r.x.p ∧ r.x.p ≤ 31 := by
  obtain ⟨_, _, _, vk⟩ := hv
  rcases vk with ⟨k, q, _⟩ | ⟨k, q, q2, _⟩ | ⟨k, q, q2, _⟩ | ⟨k, q, q2, _⟩ | ⟨k, q⟩ <;> omega
theorem tal_same {N L1 L2 : List Int} {x : Nums} (h : x.k = 0 ∨ x.k = 7) : talN N x = N ∧ talD L1 x = L1 ∧ talU L2 x = L2 := by
  unfold talN talD talU
  rw [if_neg (by omega), if_neg (by omega), if_neg (by omega), if_neg (by omega), if_neg (by omega)]
  exact ⟨rfl, rfl, rfl⟩
theorem gd1_of {S : Sg} (hc : chkS S = true) (h : S.x.ph = 1) : S.x.nx = (S.outs.length : Int) ∧ 0 ≤ S.x.nx ∧ S.und = [] := by
  obtain ⟨_, hG⟩ := (chkS_iff S).1 hc
  rcases hG with ⟨g, _, _, _, c4, c5, _, c7, _⟩ | ⟨g, _⟩ | ⟨g, _⟩ | ⟨g, _⟩
  · exact ⟨c7.symm, c5, c4⟩
  all_goals omega
/-- what a turn that is not lost tells -/
theorem turn_tells {p : Pln} {S : Sg} {l : List Nat} (hf : fitP p S = 0) (he : S.x.ended = false) (hfl : S.x.fl = false) (hl : l.length ≤ 16384) {N L1 L2 : List Int} {k : Nat} (q : PT p S N L1 L2 k) : PT p (deedS S (turnR S l)) (talN N (turnR S l).x) (talD L1 (turnR S l).x) (talU L2 (turnR S l).x) (k + 1) := by
  have hc := (pfits_iff hf).2.1
  obtain ⟨v3, r0, _⟩ := turn_good S l hc he hl
  have h24 := deed_flight hfl
  have hx : (turnR S l).x = recQ (deedK S.x) S.x.id (if 1 ≤ deedK S.x ∧ deedK S.x ≤ 4 then S.x.turn else 0) (if deedK S.x = 1 ∨ deedK S.x = 3 then S.x.nextTry else if deedK S.x = 2 ∨ deedK S.x = 4 then S.x.tr else 0) := by unfold turnR; rw [if_neg h24]
  have hph : S.x.ph = 1 ∨ S.x.ph = 2 := by
    obtain ⟨_, hG⟩ := (chkS_iff S).1 hc
    unfold SN.ended at he
    simp at he
    rcases hG with ⟨g, _⟩ | ⟨g, _⟩ | ⟨g, _⟩ | ⟨g, _⟩ <;> omega
  have hz := ref_zero r0
  refine q.deed hf v3 r0 (fun e => ?_) (fun e => ?_) (fun e => ?_) (fun e => ?_) (fun _ => hph)
  · have hk : deedK S.x = 1 := by
      rw [hx] at e
      unfold recQ at e
      split at e
      · assumption
      · split at e
        · simp at e
        · split at e <;> simp at e
    have h1 : S.x.ph = 1 := by
      unfold deedK at hk
      split at hk
      · assumption
      · split at hk
        · split at hk
          · omega
          · split at hk <;> omega
        · omega
    have hlt : S.x.nx < S.x.cnt := by
      unfold deedK at hk
      rw [if_pos h1, hfl] at hk
      simp at hk
      exact hk
    rw [hx, hk]
    refine ⟨h1, hfl, ?_, (gd1_of hc h1).2.1, hlt, ?_⟩
    · simp [recQ, SN.turn, SN.fwd, h1]
    · simp [recQ]; rfl
  · have := hz.2.2.2.2.2.1
    rw [hfl, e] at this
    exact absurd this (by decide)
  · have := hz.2.2.2.2.2.1
    rw [hfl, e] at this
    exact absurd this (by decide)
  · have := hz.2.2.2.1
    rcases e with e | e <;> simp [SN.inPh, kph, e] at this <;> omega
theorem ans_tells {p : Pln} {S : Sg} {l : List Nat} {O cc : Int} (hf : fitP p S = 0) (hfl : S.x.fl = true) (hl : l.length ≤ 16384) (hO : 1 ≤ O ∧ O ≤ 3) (hc1 : -9223372036854775808 ≤ cc) (hc2 : cc ≤ 9223372036854775807) {N L1 L2 : List Int} {k : Nat} (q : PT p S N L1 L2 k) : PT p (deedS S (ansR p S O cc l)) (talN N (ansR p S O cc l).x) (talD L1 (ansR p S O cc l).x) (talU L2 (ansR p S O cc l).x) (k + 1) := by
  have hc := (pfits_iff hf).2.1
  obtain ⟨v3, r0⟩ := ans_good (l := l) hf hfl hl hO hc1 hc2
  have hz := ref_zero r0
  have hk : (ansR p S O cc l).x.k = if O = 1 then landK S.x else 4 := rfl
  have hk2 : (ansR p S O cc l).x.k = 3 ∨ (ansR p S O cc l).x.k = 4 ∨ (ansR p S O cc l).x.k = 6 := by
    rw [hk]
    unfold landK
    split
    · split <;> simp
    · simp
  have hph : S.x.ph = 1 ∨ S.x.ph = 2 := by rcases flight_deed hc hfl with ⟨_, e⟩ | ⟨_, e⟩ <;> simp [e]
  refine q.deed hf v3 r0 (fun e => by omega) (fun e => ?_) (fun e h1 hp hl0 j s hj hs => ?_) (fun e => ?_) (fun e => by omega)
  · have := hz.2.2.2.1
    have h1 : S.x.ph = 1 := by
      rw [e] at this
      simp [SN.inPh, kph] at this
      omega
    exact ⟨h1, (gd1_of hc h1).1⟩
  · have h1' : O ≠ 1 := by
      intro e1
      rw [hk, if_pos e1] at e
      unfold landK at e
      split at e <;> omega
    have hL : (ansR p S O cc l).x.l = ansLast p S O := rfl
    rw [hL] at hl0
    have hlw : lastW p S.x = 1 := by
      unfold lastW
      rw [if_neg (by omega), not_behind hp]
      simp
    unfold ansLast at hl0
    rw [if_neg h1', hlw] at hl0
    split at hl0
    · split at hl0
      · rename_i _ ht
        unfold triesT at ht
        have e9 : S.x.turn.toNat = j := by
          simp [SN.turn, SN.fwd, h1]
          omega
        rw [e9, hs] at ht
        simpa using ht
      · omega
    · omega
  · have := hz.2.2.2.1
    rcases e with e | e
    · omega
    · rw [e] at this
      simp [SN.inPh, kph] at this
      omega
/-- what said tells fits into the tally -/
theorem said_ok {p : Pln} {S : Sg} {O cc : Int} (hf : fitP p S = 0) (hO : 1 ≤ O ∧ O ≤ 4) (hc1 : -9223372036854775808 ≤ cc) (hc2 : cc ≤ 9223372036854775807) {N L1 L2 : List Int} {k : Nat} (q : PT p S N L1 L2 k) : (0 ≤ (saidX p S O cc).p ∧ (saidX p S O cc).p ≤ 31) ∧ ((saidX p S O cc).k = 3 → L2 = []) := by
  have hc := (pfits_iff hf).2.1
  have key : ∀ r : Rec, V3 r → refP S.x r.x = 0 → (r.x.k = 7 → r.x.p = 0) → (0 ≤ r.x.p ∧ r.x.p ≤ 31) ∧ (r.x.k = 3 → L2 = []) := fun r v3 r0 h7 => by
    refine ⟨?_, fun e => ?_⟩
    · by_cases hk : r.x.k = 7
      · rw [h7 hk]; decide
      · exact v3_p v3 hk
    · have := (ref_zero r0).2.2.2.1
      rw [e] at this
      simp [SN.inPh, kph] at this
      rw [q.und, (gd1_of hc (by omega)).2.2]
      simp
  cases he : S.x.ended with
  | true =>
    obtain ⟨a, b⟩ := said_end (O := O) (cc := cc) hf he
    rw [a, b]
    exact ⟨by decide, fun e => by omega⟩
  | false =>
    cases hl : S.x.fl with
    | false =>
      obtain ⟨v3, r0, _⟩ := turn_good S [] hc he (by simp)
      rw [said_turn (l := []) hl]
      refine key _ v3 r0 fun e => ?_
      have h24 := deed_flight hl
      unfold turnR at e ⊢
      rw [if_neg h24] at e ⊢
      simp only at e ⊢
      unfold recQ at e ⊢
      split at e
      · simp at e
      · split at e
        · simp at e
        · rename_i h1 h3
          rw [if_neg h1, if_neg h3]
          split <;> rfl
    | true =>
      by_cases h4 : O = 4
      · subst h4
        rw [said_lost hl]
        exact ⟨by decide, fun e => by simp at e⟩
      · obtain ⟨v3, r0⟩ := ans_good (l := []) hf hl (by simp) (show 1 ≤ O ∧ O ≤ 3 by omega) hc1 hc2
        rw [said_ans (l := []) hl h4]
        refine key _ v3 r0 fun e => ?_
        have hk : (ansR p S O cc []).x.k = if O = 1 then landK S.x else 4 := rfl
        rw [hk] at e
        unfold landK at e
        split at e
        · split at e <;> omega
        · omega
end Go.Proofs.YtodcakplmoajiaaDoor
