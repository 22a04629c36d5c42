/-
  Package index, pure: pairs put in order, one by one.
-/
import Derived.Test.YtceokpklcfmadaaIy0
namespace Go.Proofs.Ytceokpklcfmadaa
open Go Go.RowKit Go.ChangeShapes

namespace Ix
/-- a pair goes behind the last that is not above it -/
def insP (p : Int × Int) (S : List (Int × Int)) : List (Int × Int) := S.filter (fun q => decide (q.1 ≤ p.1)) ++ p :: S.filter (fun q => decide (p.1 < q.1))
theorem filter_keep (S : List (Int × Int)) (f : Int × Int → Bool) (h : ∀ q ∈ S, f q = true) : S.filter f = S := List.filter_eq_self.2 h
theorem filter_drop (S : List (Int × Int)) (f : Int × Int → Bool) (h : ∀ q ∈ S, f q = false) : S.filter f = [] := List.filter_eq_nil_iff.2 fun q hq => by rw [h q hq]; simp
theorem insP_cut (p : Int × Int) (A B : List (Int × Int)) (h1 : ∀ q ∈ A, q.1 ≤ p.1) (h2 : ∀ q ∈ B, p.1 < q.1) : insP p (A ++ B) = A ++ p :: B := by
  unfold insP
  rw [List.filter_append, List.filter_append, filter_keep A _ fun q hq => by simpa using h1 q hq, filter_drop B _ fun q hq => by have := h2 q hq; simp; omega, filter_drop A _ fun q hq => by have := h1 q hq; simp; omega, filter_keep B _ fun q hq => by simpa using h2 q hq]
  simp
theorem insP_low (p : Int × Int) (A S : List (Int × Int)) (h1 : ∀ q ∈ A, q.1 ≤ p.1) : insP p (A ++ S) = A ++ insP p S := by
  unfold insP
  rw [List.filter_append, List.filter_append, filter_keep A _ fun q hq => by simpa using h1 q hq, filter_drop A _ fun q hq => by have := h1 q hq; simp; omega]
  simp
theorem insP_len (p : Int × Int) : ∀ (S : List (Int × Int)), (insP p S).length = S.length + 1
  | [] => by simp [insP]
  | q :: r => by
    have ih := insP_len p r
    unfold insP at ih ⊢
    rw [List.filter_cons, List.filter_cons]
    by_cases h : q.1 ≤ p.1
    · rw [if_pos (by simpa using h), if_neg (by simp; omega)]
      simp at ih ⊢
      omega
    · rw [if_neg (by simpa using h), if_pos (by simp; omega)]
      simp at ih ⊢
      omega
theorem prs_add : ∀ (kvs : Gm) (k v : Int), rising kvs → prs (add kvs k v) = insP (k, v) (prs kvs)
  | [], _, _, _ => rfl
  | (k', l) :: r, k, v, h => by
    have h0 := h
    unfold rising at h
    rw [List.pairwise_cons] at h
    have hr : ∀ q ∈ prs r, k' < q.1 := fun q hq => by
      obtain ⟨p, hp, e⟩ := prs_mem hq
      rw [e]
      exact h.1 p hp
    have hl : ∀ q ∈ (l.map fun x => (k', x)), q.1 = k' := fun q hq => by
      obtain ⟨x, -, rfl⟩ := List.mem_map.1 hq
      rfl
    rw [add]
    by_cases h1 : k < k'
    · rw [if_pos h1]
      have e := insP_cut (k, v) [] (prs ((k', l) :: r)) (fun q hq => by cases hq) fun q hq => by
        rw [prs_cons] at hq
        rcases List.mem_append.1 hq with hq | hq
        · rw [hl q hq]
          exact h1
        · have := hr q hq
          show k < q.1
          omega
      rw [List.nil_append] at e
      rw [e]
      rfl
    · rw [if_neg h1]
      by_cases h2 : k' = k
      · subst h2
        rw [if_pos rfl, prs_cons, prs_cons, insP_cut (k', v) (l.map fun x => (k', x)) (prs r) (fun q hq => by rw [hl q hq]; exact Int.le_refl _) hr, List.map_append]
        simp
      · rw [if_neg h2, prs_cons, prs_cons, prs_add r k v h.2, insP_low (k, v) (l.map fun x => (k', x)) (prs r) fun q hq => by rw [hl q hq]; show k' ≤ k; omega]
theorem within_cons (p : Int × List Int) (r : Gm) (lo hi : Int) : within (p :: r) lo hi = if lo ≤ p.1 ∧ p.1 ≤ hi then p :: within r lo hi else within r lo hi := by
  unfold within
  rw [List.filter_cons]
  by_cases h : lo ≤ p.1 ∧ p.1 ≤ hi
  · rw [if_pos (by simpa using h), if_pos h]
  · rw [if_neg (by simpa using h), if_neg h]
theorem within_mem' {kvs : Gm} {lo hi : Int} {p : Int × List Int} (h : p ∈ within kvs lo hi) : p ∈ kvs := by
  unfold within at h
  exact (List.mem_filter.1 h).1
/-- a key below all others -/
theorem add_first : ∀ (kvs : Gm) (k v : Int), (∀ p ∈ kvs, k < p.1) → add kvs k v = (k, [v]) :: kvs
  | [], _, _, _ => rfl
  | (k', l) :: r, k, v, h => by
    have h1 : k < k' := h _ List.mem_cons_self
    rw [add, if_pos h1]
theorem within_add : ∀ (kvs : Gm) (k v lo hi : Int), rising kvs → within (add kvs k v) lo hi = if lo ≤ k ∧ k ≤ hi then add (within kvs lo hi) k v else within kvs lo hi
  | [], k, v, lo, hi, _ => by
    rw [add, within_cons]
    rfl
  | (k', l) :: r, k, v, lo, hi, h => by
    unfold rising at h
    rw [List.pairwise_cons] at h
    have ih := within_add r k v lo hi h.2
    rw [add]
    by_cases h1 : k < k'
    · rw [if_pos h1, within_cons]
      by_cases hk : lo ≤ k ∧ k ≤ hi
      · rw [if_pos hk, if_pos hk, add_first]
        intro p hp
        rcases List.mem_cons.1 (within_mem' hp) with rfl | hp
        · exact h1
        · have := h.1 p hp
          show k < p.1
          simp only at this
          omega
      · rw [if_neg hk, if_neg hk]
    · rw [if_neg h1]
      by_cases h2 : k' = k
      · subst h2
        rw [if_pos rfl, within_cons, within_cons]
        by_cases hk : lo ≤ k' ∧ k' ≤ hi
        · rw [if_pos hk, if_pos hk, if_pos hk, add, if_neg h1, if_pos rfl]
        · rw [if_neg hk, if_neg hk, if_neg hk]
      · rw [if_neg h2, within_cons, within_cons, ih]
        by_cases hk : lo ≤ k ∧ k ≤ hi
        · rw [if_pos hk, if_pos hk]
          by_cases hk' : lo ≤ k' ∧ k' ≤ hi
          · rw [if_pos hk', if_pos hk', add, if_neg h1, if_neg h2]
          · rw [if_neg hk', if_neg hk']
        · rw [if_neg hk, if_neg hk]
/-- what Sorted makes of a list -/
def srt (ps : List (Int × Int)) (lo hi : Int) : List (Int × Int) := prs (within (gml ps) lo hi)
theorem srt_take (ps : List (Int × Int)) (lo hi : Int) (j : Nat) (hj : j < ps.length) : srt (ps.take (j + 1)) lo hi = if lo ≤ ps[j].1 ∧ ps[j].1 ≤ hi then insP ps[j] (srt (ps.take j) lo hi) else srt (ps.take j) lo hi := by
  unfold srt
  have hr := (gml_fine (ps.take j)).ris
  rw [gml_take ps j hj, within_add _ _ _ _ _ hr]
  split
  · rw [prs_add _ _ _ (within_rising hr lo hi)]
  · rfl
theorem srt_sorted (ps : List (Int × Int)) (lo hi : Int) : (srt ps lo hi).Pairwise (fun p q => p.1 ≤ q.1) := prs_sorted _ (within_rising (gml_fine ps).ris lo hi)
theorem srt_len (ps : List (Int × Int)) (lo hi : Int) : (srt ps lo hi).length ≤ ps.length := by
  have h := within_total (gml ps) lo hi
  rw [(gml_fine ps).tot] at h
  unfold srt
  rw [prs_len]
  exact h
/-- where a pair comes to lie -/
theorem ins_at (S : List (Int × Int)) (p : Int × Int) (k : Nat) (hs : S.Pairwise (fun p q => p.1 ≤ q.1)) (hk : k ≤ S.length) (h1 : k = 0 ∨ ∃ h : k - 1 < S.length, S[k - 1].1 ≤ p.1) (h2 : ∀ q ∈ S.drop k, p.1 < q.1) : insP p S = S.take k ++ p :: S.drop k := by
  have e := insP_cut p (S.take k) (S.drop k) (fun q hq => ?_) h2
  · rw [List.take_append_drop] at e
    exact e
  · obtain ⟨j, hj, rfl⟩ := List.getElem_of_mem hq
    rw [List.length_take] at hj
    rw [List.getElem_take]
    rcases h1 with h1 | ⟨h3, h1⟩
    · omega
    · by_cases hjk : j = k - 1
      · subst hjk
        exact h1
      · exact Int.le_trans (List.pairwise_iff_getElem.1 hs j (k - 1) (by omega) h3 (by omega)) h1
theorem all_gml (ps : List (Int × Int)) (hb : ∀ p ∈ ps, -9223372036854775808 ≤ p.1 ∧ p.1 ≤ 9223372036854775807) : srt ps (-9223372036854775808) 9223372036854775807 = prs (gml ps) := by
  unfold srt
  rw [within_all _ _ _ fun p hp => by
    obtain ⟨q, hq, e⟩ := (gml_fine ps).key p hp
    rw [← e]
    exact hb q hq]
theorem get_add : ∀ (kvs : Gm) (k v x : Int), rising kvs → get (add kvs k v) x = get kvs x ++ (if k = x then [v] else [])
  | [], k, v, x, _ => by
    rw [add, get_cons]
    by_cases h : k = x
    · rw [if_pos h, if_pos h, get_nil [] x fun p hp => by cases hp]
      rfl
    · rw [if_neg h, if_neg h]
      simp
  | (k', l) :: r, k, v, x, h => by
    have h0 := h
    unfold rising at h
    rw [List.pairwise_cons] at h
    rw [add]
    by_cases h1 : k < k'
    · rw [if_pos h1, get_cons]
      by_cases hx : k = x
      · subst hx
        rw [if_pos rfl, if_pos rfl, get_nil ((k', l) :: r) k fun p hp => by
          rcases List.mem_cons.1 hp with rfl | hp
          · show k' ≠ k
            omega
          · have : k' < p.1 := h.1 p hp
            omega]
        rfl
      · rw [if_neg hx, if_neg hx, List.append_nil]
    · rw [if_neg h1]
      by_cases h2 : k' = k
      · subst h2
        rw [if_pos rfl, get_cons, get_cons]
        by_cases hx : k' = x
        · rw [if_pos hx, if_pos hx, if_pos hx]
        · rw [if_neg hx, if_neg hx, if_neg hx, List.append_nil]
      · rw [if_neg h2, get_cons, get_cons]
        by_cases hx : k' = x
        · rw [if_pos hx, if_pos hx, if_neg (by omega), List.append_nil]
        · rw [if_neg hx, if_neg hx, get_add r k v x h.2]
/-- the values of a key -/
theorem vals_gml (ps : List (Int × Int)) (x : Int) : vals ps x = get (gml ps) x := by
  have key : ∀ j, j ≤ ps.length → vals (ps.take j) x = get (gml (ps.take j)) x := fun j => by
    induction j with
    | zero => intro _; rfl
    | succ j ih =>
      intro hj
      rw [vals_take ps x j (by omega), gml_take ps j (by omega), get_add _ _ _ _ (gml_fine _).ris, ih (by omega)]
  have := key ps.length (Nat.le_refl _)
  rwa [List.take_length] at this
end Ix
end Go.Proofs.Ytceokpklcfmadaa
