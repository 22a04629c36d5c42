/-
  PlanAllOrNothing, pure: what the tally says.
-/
import Derived.Test.YtodcakplmoajiaaDoorHPr
namespace Go.Proofs.YtodcakplmoajiaaDoor
open Go Go.RowKit
open Wb

theorem firstErr_zero (p : Pln) : ∀ (i : Nat) (ss : List Stp), (firstErr p i ss).1 = 0 → ∀ (j : Nat) (s : Stp), ss[j]? = some s → stepErr p (i + j) s = 0
  | _, [], _, j, s, h => by simp at h
  | i, t :: r, h0, j, s, h => by
    unfold firstErr at h0
    split at h0
    · rename_i e
      exact absurd h0 e
    · rename_i e
      cases j with
      | zero => simp at h; subst h; simpa using e
      | succ j =>
        have := firstErr_zero p (i + 1) r h0 j s (by simpa using h)
        rw [show i + (j + 1) = i + 1 + j by omega]
        exact this
/-- a plan that can be has tries -/
theorem tries_ok {p : Pln} (h : (fErr p).1 = 0) : p.ss.length ≤ 32 ∧ ∀ (i : Nat) (s : Stp), p.ss[i]? = some s → (p.piv = 0 ∨ (i : Int) < p.piv) → 1 ≤ s.t ∧ s.t ≤ 1000 := by
  unfold fErr at h
  split at h
  · cases h
  split at h
  · cases h
  split at h
  · cases h
  rename_i h32
  split at h
  · cases h
  refine ⟨by omega, fun i s hs hp => ?_⟩
  have e := firstErr_zero p 0 p.ss h i s hs
  rw [Nat.zero_add] at e
  have hb : p.behind i = false := by
    unfold Pln.behind Pln.ahead Pln.isPiv
    rcases hp with hp | hp
    · simp [hp]
    · by_cases h0 : p.piv = 0
      · simp [h0]
      · by_cases h1 : (i : Int) + 1 < p.piv
        · simp [h1]
        · have : (i : Int) + 1 = p.piv := by omega
          simp [this]
  unfold stepErr at e
  rw [hb] at e
  simp only [Bool.false_eq_true, if_false] at e
  split at e
  · cases e
  split at e
  · cases e
  split at e
  · cases e
  split at e
  · cases e
  rename_i hw
  simp [winP] at hw
  exact hw
def atN (N : List Int) (j : Nat) : Int := (N[j]?).getD 0
def talN (N : List Int) (x : Nums) : List Int :=
  if x.k = 2 then N.set x.p.toNat (atN N x.p.toNat + 1) else if x.k = 3 then N.set (32 + x.p.toNat) (atN N (32 + x.p.toNat) + 1) else if x.k = 6 then N.set (64 + x.p.toNat) (atN N (64 + x.p.toNat) + 1) else N
def talD (L : List Int) (x : Nums) : List Int := if x.k = 3 then L ++ [x.p] else L
def talU (L : List Int) (x : Nums) : List Int := if x.k = 6 then L ++ [x.p] else L
theorem setq {N : List Int} {i j : Nat} {v n : Int} (h : (N.set i v)[j]? = some n) : (j = i ∧ n = v) ∨ (j ≠ i ∧ N[j]? = some n) := by
  rw [List.getElem?_set] at h
  split at h
  · rename_i e
    split at h
    · exact .inl ⟨e.symm, by simpa using h.symm⟩
    · cases h
  · rename_i e
    exact .inr ⟨fun e2 => e e2.symm, h⟩
theorem atN_some {N : List Int} {j : Nat} (h : j < N.length) : N[j]? = some (atN N j) := by simp [atN, h]
theorem ups_succ (m : Nat) : ups (m + 1) = ups m ++ [(m : Int)] := by simp [ups, List.range_succ]
theorem dws_take {m u : Nat} (h : u < m) : (dws m).take (u + 1) = (dws m).take u ++ [(m : Int) - 1 - (u : Int)] := by
  have hl : u < (dws m).length := by rw [dws_len]; exact h
  rw [List.take_succ_eq_append_getElem hl]
  have e : (dws m)[u] = (m : Int) - 1 - (u : Int) := by
    simp [dws]
    omega
  rw [e]
/-- the tally of a saga -/
structure PT (p : Pln) (S : Sg) (N L1 L2 : List Int) (k : Nat) : Prop where
  len : N.length = 96
  pos : ∀ (j : Nat) (n : Int), N[j]? = some n → 0 ≤ n ∧ n ≤ (k : Int)
  did : L1 = ups S.outs.length
  und : L2 = (dws S.outs.length).take S.und.length
  beg : ∀ (j : Nat) (n : Int) (s : Stp), N[j]? = some n → p.ss[j]? = some s → (p.piv = 0 ∨ (j : Int) < p.piv) → n ≤ s.t
  zer : S.x.ph = 1 → ∀ (j : Nat) (n : Int), N[j]? = some n → j < 32 → S.x.nx < (j : Int) → n = 0
  run : S.x.ph = 1 → (p.piv = 0 ∨ S.x.nx < p.piv) → ∀ (j : Nat) (n : Int) (s : Stp), (j : Int) = S.x.nx → N[j]? = some n → p.ss[j]? = some s → n ≤ S.x.tr ∧ (S.x.fl = true → S.x.tr ≤ s.t) ∧ (S.x.fl = false → S.x.tr < s.t)
  don : ∀ (j : Nat) (n : Int), N[32 + j]? = some n → j < 32 → S.outs.length ≤ j → n = 0
theorem PT.same {p : Pln} {S : Sg} {N L1 L2 : List Int} {k : Nat} (q : PT p S N L1 L2 k) : PT p S N L1 L2 (k + 1) :=
  ⟨q.len, fun j n h => by have := q.pos j n h; omega, q.did, q.und, q.beg, q.zer, q.run, q.don⟩
theorem ss_lt {p : Pln} {j : Nat} {s : Stp} (h : p.ss[j]? = some s) : j < p.ss.length := (List.getElem?_eq_some_iff.1 h).1
/-- one record more -/
theorem PT.deed {p : Pln} {S : Sg} {r : Rec} {N L1 L2 : List Int} {k : Nat} (q : PT p S N L1 L2 k) (hf : fitP p S = 0) (hv : V3 r) (h0 : refP S.x r.x = 0)
    (h2 : r.x.k = 2 → S.x.ph = 1 ∧ S.x.fl = false ∧ r.x.p = S.x.nx ∧ 0 ≤ S.x.nx ∧ S.x.nx < S.x.cnt ∧ r.x.t = min (S.x.tr + 1) 1000) (h3 : r.x.k = 3 → S.x.ph = 1 ∧ S.x.nx = (S.outs.length : Int))
    (h4 : r.x.k = 4 → S.x.ph = 1 → (p.piv = 0 ∨ S.x.nx < p.piv) → r.x.l = 0 → ∀ (j : Nat) (s : Stp), (j : Int) = S.x.nx → p.ss[j]? = some s → S.x.tr < s.t) (h5 : r.x.k = 5 ∨ r.x.k = 6 → S.x.ph = 2) (_h7 : r.x.k = 7 → S.x.ph = 1 ∨ S.x.ph = 2) :
    PT p (deedS S r) (talN N r.x) (talD L1 r.x) (talU L2 r.x) (k + 1) := by
  obtain ⟨f1, f2, _, f4, f5⟩ := pfits_iff hf
  obtain ⟨t32, tok⟩ := tries_ok f1
  obtain ⟨_, _, _, _, _, s3, s6, sx⟩ := steps_deed S r f2 hv h0
  have hk27 : r.x.k = 2 ∨ r.x.k = 5 ∨ r.x.k = 3 ∨ r.x.k = 4 ∨ r.x.k = 6 ∨ r.x.k = 7 := by
    obtain ⟨_, hk, _⟩ := ref_zero h0
    obtain ⟨_, _, _, vk⟩ := hv
    omega
  have hl := q.len
  rcases hk27 with e | e | e | e | e | e
  · obtain ⟨a1, a2, a3, a4, a5, a6⟩ := h2 e
    obtain ⟨i, hi⟩ : ∃ i : Nat, S.x.nx = (i : Int) := ⟨S.x.nx.toNat, by omega⟩
    have hi2 : i < 32 := by omega
    have eN : talN N r.x = N.set i (atN N i + 1) := by unfold talN; rw [if_pos e, a3, hi, Int.toNat_natCast]
    have eD : talD L1 r.x = L1 := by unfold talD; rw [if_neg (by omega)]
    have eU : talU L2 r.x = L2 := by unfold talU; rw [if_neg (by omega)]
    have eS : deedS S r = { S with x := { S.x with la := r.x.a, fl := true, tr := r.x.t } } := by unfold deedS; rw [if_pos (.inl e)]
    have ai := atN_some (N := N) (j := i) (by omega)
    rw [eN, eD, eU, eS]
    refine ⟨by simpa using hl, fun j n h => ?_, q.did, q.und, fun j n s h hs hp => ?_, fun _ j n h hj hx => ?_, fun _ hp j n s hj h hs => ?_, fun j n h hj hx => ?_⟩
    · rcases setq h with ⟨rfl, rfl⟩ | ⟨_, h⟩
      · have := q.pos _ _ ai; omega
      · have := q.pos _ _ h; omega
    · rcases setq h with ⟨rfl, rfl⟩ | ⟨_, h⟩
      · have r1 := q.run a1 (by rw [hi]; exact hp) j _ s hi.symm ai hs
        have := r1.2.2 a2
        omega
      · exact q.beg j n s h hs hp
    · simp only at hx
      rcases setq h with ⟨rfl, rfl⟩ | ⟨_, h⟩
      · omega
      · exact q.zer a1 j n h hj hx
    · simp only at hp hj ⊢
      obtain rfl : j = i := by omega
      rcases setq h with ⟨_, rfl⟩ | ⟨hne, _⟩
      · have r1 := q.run a1 hp j _ s hi.symm ai hs
        have r2 := r1.2.2 a2
        have r3 := (tok j s hs (by rw [← hi]; exact hp)).2
        rw [a6]
        refine ⟨by omega, fun _ => by omega, fun e => by cases e⟩
      · exact absurd rfl hne
    · rcases setq h with ⟨e2, rfl⟩ | ⟨_, h⟩
      · omega
      · exact q.don j n h hj hx
  · have eN : talN N r.x = N := by unfold talN; rw [if_neg (by omega), if_neg (by omega), if_neg (by omega)]
    have eD : talD L1 r.x = L1 := by unfold talD; rw [if_neg (by omega)]
    have eU : talU L2 r.x = L2 := by unfold talU; rw [if_neg (by omega)]
    have eS : deedS S r = { S with x := { S.x with la := r.x.a, fl := true, tr := r.x.t } } := by unfold deedS; rw [if_pos (.inr e)]
    have a1 := h5 (.inl e)
    rw [eN, eD, eU, eS]
    exact ⟨hl, fun j n h => by have := q.pos j n h; omega, q.did, q.und, q.beg, fun h => by simp only at h; omega, fun h => by simp only at h; omega, q.don⟩
  · obtain ⟨a1, a2⟩ := h3 e
    obtain ⟨b1, b2, b3, b4, b5⟩ := s3 e
    have eN : talN N r.x = N.set (32 + S.outs.length) (atN N (32 + S.outs.length) + 1) := by unfold talN; rw [if_neg (by omega), if_pos e, b2, Int.toNat_natCast]
    have eD : talD L1 r.x = L1 ++ [(S.outs.length : Int)] := by unfold talD; rw [if_pos e, b2]
    have eU : talU L2 r.x = L2 := by unfold talU; rw [if_neg (by omega)]
    have eS : deedS S r = { S with x := { S.x with la := r.x.a, fl := false, tr := 0, nx := S.x.nx + 1 }, outs := S.outs ++ [r.l] } := by unfold deedS; rw [if_neg (by omega), if_pos e]
    have hi2 : S.outs.length < 32 := by omega
    have ai := atN_some (N := N) (j := 32 + S.outs.length) (by omega)
    rw [eN, eD, eU]
    refine ⟨by simpa using hl, fun j n h => ?_, by rw [b4, ups_succ, q.did], by rw [b5, b1, q.und, b1]; simp, fun j n s h hs hp => ?_, fun _ j n h hj hx => ?_, fun _ hp j n s hj h hs => ?_, fun j n h hj hx => ?_⟩
    · rcases setq h with ⟨rfl, rfl⟩ | ⟨_, h⟩
      · have := q.pos _ _ ai; omega
      · have := q.pos _ _ h; omega
    · have := ss_lt hs
      rcases setq h with ⟨e2, rfl⟩ | ⟨_, h⟩
      · omega
      · exact q.beg j n s h hs hp
    · rw [eS] at hx
      simp only at hx
      rcases setq h with ⟨e2, rfl⟩ | ⟨_, h⟩
      · omega
      · exact q.zer a1 j n h hj (by omega)
    · rw [eS] at hp hj ⊢
      simp only at hp hj ⊢
      have := ss_lt hs
      rcases setq h with ⟨e2, rfl⟩ | ⟨_, h⟩
      · omega
      · have z := q.zer a1 j n h (by omega) (by omega)
        have t1 := (tok j s hs (by rw [hj]; exact hp)).1
        exact ⟨by omega, fun e => (by cases e), fun _ => by omega⟩
    · rw [b4] at hx
      rcases setq h with ⟨e2, rfl⟩ | ⟨_, h⟩
      · omega
      · exact q.don j n h hj (by omega)
  · have eN : talN N r.x = N := by unfold talN; rw [if_neg (by omega), if_neg (by omega), if_neg (by omega)]
    have eD : talD L1 r.x = L1 := by unfold talD; rw [if_neg (by omega)]
    have eU : talU L2 r.x = L2 := by unfold talU; rw [if_neg (by omega)]
    obtain ⟨o1, o2⟩ := sx (by omega) (by omega)
    rw [eN, eD, eU]
    refine ⟨hl, fun j n h => by have := q.pos j n h; omega, by rw [o1]; exact q.did, by rw [o1, o2]; exact q.und, q.beg, ?_, ?_, by rw [o1]; exact q.don⟩
    · by_cases hl0 : r.x.l = 0
      · have eS : deedS S r = { S with x := { S.x with la := r.x.a, fl := false } } := by unfold deedS; rw [if_neg (by omega), if_neg (by omega), if_pos e, if_pos hl0]
        rw [eS]
        exact q.zer
      · have eS : (deedS S r).x.ph = 2 := by unfold deedS; rw [if_neg (by omega), if_neg (by omega), if_pos e, if_neg hl0]
        intro h
        omega
    · by_cases hl0 : r.x.l = 0
      · have eS : deedS S r = { S with x := { S.x with la := r.x.a, fl := false } } := by unfold deedS; rw [if_neg (by omega), if_neg (by omega), if_pos e, if_pos hl0]
        rw [eS]
        simp only
        intro a1 hp j n s hj h hs
        have r1 := q.run a1 hp j n s hj h hs
        exact ⟨r1.1, fun e => (by cases e), fun _ => h4 e a1 hp hl0 j s hj hs⟩
      · have eS : (deedS S r).x.ph = 2 := by unfold deedS; rw [if_neg (by omega), if_neg (by omega), if_pos e, if_neg hl0]
        intro h
        omega
  · have a1 := h5 (.inr e)
    obtain ⟨b1, b2, b3, b4, b5⟩ := s6 e
    obtain ⟨i, hi⟩ : ∃ i : Nat, r.x.p = (i : Int) := ⟨r.x.p.toNat, by omega⟩
    have eN : talN N r.x = N.set (64 + i) (atN N (64 + i) + 1) := by unfold talN; rw [if_neg (by omega), if_neg (by omega), if_pos e, hi, Int.toNat_natCast]
    have eD : talD L1 r.x = L1 := by unfold talD; rw [if_neg (by omega)]
    have eU : talU L2 r.x = L2 ++ [(S.outs.length : Int) - 1 - (S.und.length : Int)] := by unfold talU; rw [if_pos e, b1]
    have eS : (deedS S r).x.ph = S.x.ph := by unfold deedS; rw [if_neg (by omega), if_neg (by omega), if_neg (by omega), if_pos e]
    have hm : (S.outs.length : Int) ≤ 32 := by
      obtain ⟨⟨_, _, c3, _⟩, hG⟩ := (chkS_iff S).1 f2
      rcases hG with ⟨g, _⟩ | ⟨g, _⟩ | ⟨g, u1, u2, _⟩ | ⟨g, _⟩ <;> omega
    have ai := atN_some (N := N) (j := 64 + i) (by omega)
    rw [eN, eD, eU]
    refine ⟨by simpa using hl, fun j n h => ?_, by rw [b4]; exact q.did, by rw [b4, b5, dws_take (by omega), q.und], fun j n s h hs hp => ?_, fun h => by omega, fun h => by omega, fun j n h hj hx => ?_⟩
    · rcases setq h with ⟨rfl, rfl⟩ | ⟨_, h⟩
      · have := q.pos _ _ ai; omega
      · have := q.pos _ _ h; omega
    · have := ss_lt hs
      rcases setq h with ⟨e2, rfl⟩ | ⟨_, h⟩
      · omega
      · exact q.beg j n s h hs hp
    · rw [b4] at hx
      rcases setq h with ⟨e2, rfl⟩ | ⟨_, h⟩
      · omega
      · exact q.don j n h hj hx
  · have eN : talN N r.x = N := by unfold talN; rw [if_neg (by omega), if_neg (by omega), if_neg (by omega)]
    have eD : talD L1 r.x = L1 := by unfold talD; rw [if_neg (by omega)]
    have eU : talU L2 r.x = L2 := by unfold talU; rw [if_neg (by omega)]
    obtain ⟨o1, o2⟩ := sx (by omega) (by omega)
    have eS : (deedS S r).x.ph = 3 ∨ (deedS S r).x.ph = 4 := by
      unfold deedS
      rw [if_neg (by omega), if_neg (by omega), if_neg (by omega), if_neg (by omega)]
      simp only
      split
      · exact .inl rfl
      · exact .inr rfl
    rw [eN, eD, eU]
    exact ⟨hl, fun j n h => by have := q.pos j n h; omega, by rw [o1]; exact q.did, by rw [o1, o2]; exact q.und, q.beg, fun h => by omega, fun h => by omega, by rw [o1]; exact q.don⟩
end Go.Proofs.YtodcakplmoajiaaDoor
