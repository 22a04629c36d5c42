import Derived.Test.YtfnfdbmckpklmaaDoorQL5
/-
  Package lift: Least; LiftChain: pure part.
-/
namespace Go.Proofs.YtfnfdbmckpklmaaDoor
open Go Go.RowKit
open Wb

/-- the lowest version from v on to which it goes down -/
def leastF (r : Rec) : Nat → Int → Int
  | 0, v => v
  | n + 1, v => if v < r.x.v then (if (downP v r).1 = 0 then v else leastF r n (v + 1)) else v
def leastP (r : Rec) : Int := leastF r 3 1
theorem two_inj (a b : Rec) (ha : a.x.v = 2) (hb : b.x.v = 2) (h : cTwo a = cTwo b) : a = b := by
  obtain ⟨⟨v, k, s, p, t, e, l, c, n, i⟩, nm, d⟩ := a
  obtain ⟨⟨v2, k2, s2, p2, t2, e2, l2, c2, n2, i2⟩, nm2, d2⟩ := b
  simp only at ha hb
  subst ha hb
  simp only [cTwo, Rec.mk.injEq, Nums.mk.injEq, true_and] at h ⊢
  exact h
/-- of version 3: what goes down to 1 goes down to 2 -/
theorem down_mono (r : Rec) (hc : chkR r = 0) (hv : r.x.v = 3) (h : (downP 1 r).1 = 0) : (downP 2 r).1 = 0 := by
  have hz := (down_zero h).2.2.2.2.1
  rw [hv, car31 r hv, car13 _ (back_v _)] at hz
  have hci := back_c (cThree r)
  have h1 : r.x.c = 0 := by rw [← hz]; exact hci.1
  have h2 : r.x.i = 0 := by rw [← hz]; exact hci.2
  have h3 := three_ok r hv hc h1 h2
  rw [down_good hc (by omega) (by omega) (by omega) (by rw [hv, car32 r hv, car23 _ rfl]; exact h3.2)]
theorem down_self (r : Rec) (hc : chkR r = 0) : (downP r.x.v r).1 = 0 := by
  have hvv := (chk_exp r.x r.nm r.l).1 hc
  have e1 : carP r.x.v r = r := by
    obtain h1 | h1 | h1 : r.x.v = 1 ∨ r.x.v = 2 ∨ r.x.v = 3 := by omega
    · rw [h1, car11 r h1]
    · rw [h1, car22 r h1]
    · rw [h1, car33 r h1]
  rw [down_good hc (by omega) (by omega) (by omega) (by rw [e1, e1])]
theorem least_spec (r : Rec) (hc : chkR r = 0) : 1 ≤ leastP r ∧ leastP r ≤ r.x.v ∧ ∀ v, 1 ≤ v → v ≤ r.x.v → ((downP v r).1 = 0 ↔ leastP r ≤ v) := by
  have hvv := (chk_exp r.x r.nm r.l).1 hc
  have hs := down_self r hc
  obtain hv | hv | hv : r.x.v = 1 ∨ r.x.v = 2 ∨ r.x.v = 3 := by omega
  · rw [hv] at hs
    have e : leastP r = 1 := by unfold leastP leastF; rw [if_neg (by omega)]
    rw [e]
    refine ⟨by omega, by omega, fun v h1 h2 => ?_⟩
    obtain rfl : v = 1 := by omega
    exact ⟨fun _ => by omega, fun _ => hs⟩
  · rw [hv] at hs
    by_cases h1 : (downP 1 r).1 = 0
    · have e : leastP r = 1 := by unfold leastP leastF; rw [if_pos (by omega), if_pos h1]
      rw [e]
      refine ⟨by omega, by omega, fun v a b => ?_⟩
      obtain rfl | rfl : v = 1 ∨ v = 2 := by omega
      · exact ⟨fun _ => by omega, fun _ => h1⟩
      · exact ⟨fun _ => by omega, fun _ => hs⟩
    · have e : leastP r = 2 := by unfold leastP leastF; rw [if_pos (by omega), if_neg h1]; unfold leastF; rw [if_neg (by omega)]; omega
      rw [e]
      refine ⟨by omega, by omega, fun v a b => ?_⟩
      obtain rfl | rfl : v = 1 ∨ v = 2 := by omega
      · exact ⟨fun h => absurd h h1, fun h => by omega⟩
      · exact ⟨fun _ => by omega, fun _ => hs⟩
  · rw [hv] at hs
    by_cases h1 : (downP 1 r).1 = 0
    · have e : leastP r = 1 := by unfold leastP leastF; rw [if_pos (by omega), if_pos h1]
      have h2 := down_mono r hc hv h1
      rw [e]
      refine ⟨by omega, by omega, fun v a b => ?_⟩
      obtain rfl | rfl | rfl : v = 1 ∨ v = 2 ∨ v = 3 := by omega
      · exact ⟨fun _ => by omega, fun _ => h1⟩
      · exact ⟨fun _ => by omega, fun _ => h2⟩
      · exact ⟨fun _ => by omega, fun _ => hs⟩
    · by_cases h2 : (downP 2 r).1 = 0
      · have e : leastP r = 2 := by unfold leastP leastF; rw [if_pos (by omega), if_neg h1]; unfold leastF; rw [if_pos (by omega), if_pos (by simpa using h2)]; omega
        rw [e]
        refine ⟨by omega, by omega, fun v a b => ?_⟩
        obtain rfl | rfl | rfl : v = 1 ∨ v = 2 ∨ v = 3 := by omega
        · exact ⟨fun h => absurd h h1, fun h => by omega⟩
        · exact ⟨fun _ => by omega, fun _ => h2⟩
        · exact ⟨fun _ => by omega, fun _ => hs⟩
      · have e : leastP r = 3 := by unfold leastP leastF; rw [if_pos (by omega), if_neg h1]; unfold leastF; rw [if_pos (by omega), if_neg (by simpa using h2)]; unfold leastF; rw [if_neg (by omega)]; omega
        rw [e]
        refine ⟨by omega, by omega, fun v a b => ?_⟩
        obtain rfl | rfl | rfl : v = 1 ∨ v = 2 ∨ v = 3 := by omega
        · exact ⟨fun h => absurd h h1, fun h => by omega⟩
        · exact ⟨fun h => absurd h h2, fun h => by omega⟩
        · exact ⟨fun _ => by omega, fun _ => hs⟩
/-- of version 3: over 2 or at once -/
theorem chain_down (r : Rec) (hc : chkR r = 0) (hv : r.x.v = 3) : ((downP 2 r).1 ≠ 0 → (downP 1 r).1 = (downP 2 r).1) ∧ ((downP 2 r).1 = 0 → downP 1 (downP 2 r).2 = downP 1 r) := by
  constructor
  · intro h2
    have h1 : (downP 1 r).1 ≠ 0 := fun h => h2 (down_mono r hc hv h)
    have e1 : downP 1 r = (40, zRec) := down_lossy hc (by omega) (by omega) (by omega) (fun e => h1 (by rw [down_good hc (by omega) (by omega) (by omega) e]))
    have e2 : downP 2 r = (40, zRec) := down_lossy hc (by omega) (by omega) (by omega) (fun e => h2 (by rw [down_good hc (by omega) (by omega) (by omega) e]))
    rw [e1, e2]
  · intro h2
    have hz := down_zero h2
    have hk := down_ok2 r 2 hc (by omega) (by omega) hz.2.2.2.2.1
    have ha : (downP 2 r).2 = cThree r := by rw [hz.2.2.2.2.2, car32 r hv]
    rw [car32 r hv] at hk
    have htt : cTwo (cThree r) = r := by
      have := hz.2.2.2.2.1
      rw [hv, car32 r hv, car23 _ rfl] at this
      exact this
    rw [ha]
    by_cases he : cOne (cBack (cThree r)) = cThree r
    · rw [down_good hk.1 (by omega) (by omega) (by rw [hk.2]; omega) (by rw [hk.2, car21 _ rfl, car12 _ (back_v _)]; exact he),
        down_good hc (by omega) (by omega) (by omega) (by rw [hv, car31 r hv, car13 _ (back_v _), he]; exact htt), car21 _ rfl, car31 r hv]
    · rw [down_lossy hk.1 (by omega) (by omega) (by rw [hk.2]; omega) (by rw [hk.2, car21 _ rfl, car12 _ (back_v _)]; exact he),
        down_lossy hc (by omega) (by omega) (by omega) (by
          rw [hv, car31 r hv, car13 _ (back_v _)]
          intro e
          apply he
          apply two_inj _ _ (one_v _) rfl
          rw [e, htt])]
theorem chain_up (r : Rec) (hok : ok r.l) (hc : chkR r = 0) (hv : r.x.v = 1) : upP 2 r = (0, cOne r) ∧ upP 3 (cOne r) = (0, cTwo (cOne r)) ∧ upP 3 r = (0, cTwo (cOne r)) := by
  have h2 := up_back r 2 hok hc (by omega) (by omega)
  rw [car12 r hv] at h2
  refine ⟨?_, ?_, ?_⟩
  · rw [up_good hc (by omega) (by omega) (by omega), car12 r hv]
  · rw [up_good h2.1 (by omega) (by omega) (by rw [one_v]; omega), car23 _ (one_v r)]
  · rw [up_good hc (by omega) (by omega) (by omega), car13 r hv]
end Go.Proofs.YtfnfdbmckpklmaaDoor
