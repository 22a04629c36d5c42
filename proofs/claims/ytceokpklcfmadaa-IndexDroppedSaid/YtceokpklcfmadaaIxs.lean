/-
  Package index, pure: the pairs of keys with their numbers.
-/
import Derived.Test.YtceokpklcfmadaaIxr
namespace Go.Proofs.Ytceokpklcfmadaa
open Go Go.RowKit Go.ChangeShapes

namespace Ix
theorem prs_cons (p : Int × List Int) (r : Gm) : prs (p :: r) = (p.2.map fun v => (p.1, v)) ++ prs r := rfl
theorem prs_len : ∀ (kvs : Gm), (prs kvs).length = total kvs
  | [] => rfl
  | p :: r => by
    have := prs_len r
    unfold total at this ⊢
    rw [prs_cons, List.length_append, List.length_map, List.map_cons, List.sum_cons, this]
theorem prs_mem {kvs : Gm} {x : Int × Int} (h : x ∈ prs kvs) : ∃ p ∈ kvs, x.1 = p.1 := by
  unfold prs at h
  obtain ⟨p, hp, hx⟩ := List.mem_flatMap.1 h
  obtain ⟨v, -, rfl⟩ := List.mem_map.1 hx
  exact ⟨p, hp, rfl⟩
theorem prs_sorted : ∀ (kvs : Gm), rising kvs → (prs kvs).Pairwise (fun p q => p.1 ≤ q.1)
  | [], _ => List.Pairwise.nil
  | p :: r, h => by
    unfold rising at h
    rw [List.pairwise_cons] at h
    rw [prs_cons, List.pairwise_append]
    refine ⟨?_, prs_sorted r h.2, fun x hx y hy => ?_⟩
    · rw [List.pairwise_map]
      exact List.pairwise_of_forall fun _ _ => Int.le_refl _
    · obtain ⟨v, -, rfl⟩ := List.mem_map.1 hx
      obtain ⟨q, hq, e⟩ := prs_mem hy
      have := h.1 q hq
      rw [e]
      exact Int.le_of_lt this
theorem vals_append (a b : List (Int × Int)) (k : Int) : vals (a ++ b) k = vals a k ++ vals b k := by
  unfold vals
  rw [List.filter_append, List.map_append]
theorem vals_none (ps : List (Int × Int)) (k : Int) (h : ∀ p ∈ ps, p.1 ≠ k) : vals ps k = [] := by
  unfold vals
  rw [List.filter_eq_nil_iff.2 fun p hp => by simpa using h p hp]
  rfl
theorem vals_row (k : Int) : ∀ (l : List Int), vals (l.map fun v => (k, v)) k = l
  | [] => rfl
  | x :: r => by
    have := vals_row k r
    unfold vals at this ⊢
    simp at this ⊢
    exact this
theorem vals_prs : ∀ (kvs : Gm) (k : Int), rising kvs → vals (prs kvs) k = get kvs k
  | [], _, _ => rfl
  | p :: r, k, h => by
    unfold rising at h
    rw [List.pairwise_cons] at h
    rw [prs_cons, vals_append, get_cons]
    by_cases e : p.1 = k
    · rw [if_pos e, ← e, vals_row, vals_none _ _ fun x hx => by
        obtain ⟨q, hq, e2⟩ := prs_mem hx
        have := h.1 q hq
        omega, List.append_nil]
    · rw [if_neg e, vals_none (p.2.map _) k fun x hx => by
        obtain ⟨v, -, rfl⟩ := List.mem_map.1 hx
        exact e, List.nil_append]
      exact vals_prs r k h.2
theorem dks_row (k : Int) : ∀ (l : List Int) (ps : List (Int × Int)), dks (some k) ((l.map fun v => (k, v)) ++ ps) = dks (some k) ps
  | [], _ => rfl
  | x :: r, ps => by
    rw [List.map_cons, List.cons_append, dks, if_pos rfl, List.nil_append]
    exact dks_row k r ps
theorem dks_prs : ∀ (kvs : Gm) (pr : Option Int), rising kvs → (∀ p ∈ kvs, p.2 ≠ []) → (∀ p ∈ kvs, pr ≠ some p.1) → dks pr (prs kvs) = kvs.map (·.1)
  | [], _, _, _, _ => rfl
  | (k, []) :: r, _, _, hn, _ => absurd rfl (hn _ List.mem_cons_self)
  | (k, x :: l) :: r, pr, h, hn, hp => by
    unfold rising at h
    rw [List.pairwise_cons] at h
    rw [prs_cons]
    show dks pr ((k, x) :: ((l.map fun v => (k, v)) ++ prs r)) = k :: r.map (·.1)
    rw [dks, if_neg (hp (k, x :: l) List.mem_cons_self), dks_row, dks_prs r (some k) h.2 (fun p q => hn p (List.mem_cons_of_mem _ q)) fun p q => by
      have := h.1 p q
      intro e
      have e := Option.some.inj e
      simp only at this
      omega]
    rfl
end Ix
end Go.Proofs.Ytceokpklcfmadaa
