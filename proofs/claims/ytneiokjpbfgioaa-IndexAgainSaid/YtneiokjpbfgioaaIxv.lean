/-
  Package index, pure: what Decode reads is good.
-/
import Derived.Test.YtneiokjpbfgioaaIxs
namespace Go.Proofs.Ytneiokjpbfgioaa
open Go Go.RowKit Go.ChangeShapes
open Wb

namespace Ix
theorem okK_ne : ∀ (es : List (Nat × List Nat)) (key : Nat), okK key es → ∀ p ∈ es, p.2 ≠ []
  | [], _, _, _, hp => by cases hp
  | (k, xs) :: r, key, h, p, hp => by
    rcases List.mem_cons.1 hp with rfl | hp
    · exact h.2.2.1
    · exact okK_ne r k h.2.2.2.2 p hp
/-- what Decode reads: keys with numbers, in their bounds, no more of them than bytes -/
theorem decode_good (l : List Nat) (hok : ok l) (he : (decodeP l).1 = 0) : (∀ p ∈ (decodeP l).2, p.2 ≠ []) ∧ (∀ p ∈ (decodeP l).2, 0 ≤ p.1 ∧ p.1 ≤ 9223372036854775807) ∧ (decodeP l).2.length ≤ l.length ∧ total (decodeP l).2 ≤ l.length := by
  have h := nm_le l 0 (Nat.zero_le _)
  unfold decodeP at he ⊢
  split at he
  · rename_i h0
    exact absurd he h0
  · rename_i h0
    have h0 : (nm l 0).2.2 = 0 := by omega
    rw [if_neg (by simpa using h0)]
    obtain ⟨es, e1, e2, e3, e4⟩ := decP_back l hok _ _ 0 [] h.2.1 (by omega) he
    rw [List.nil_append] at e1
    rw [e1]
    have hlen := wrK_len es 0
    rw [← e3, List.length_drop] at hlen
    refine ⟨fun p hp => ?_, fun p hp => ?_, ?_, ?_⟩
    · obtain ⟨q, hq, rfl⟩ := List.mem_map.1 hp
      have := okK_ne es 0 e4 q hq
      simpa [nums] using this
    · obtain ⟨q, hq, rfl⟩ := List.mem_map.1 hp
      have := okK_lo es 0 e4 q hq
      exact ⟨by show (0 : Int) ≤ (q.1 : Int); omega, by show (q.1 : Int) ≤ _; omega⟩
    · have e7 : (gm es).length = es.length := by simp [gm]
      omega
    · rw [← prs_len]
      omega
end Ix
end Go.Proofs.Ytneiokjpbfgioaa
