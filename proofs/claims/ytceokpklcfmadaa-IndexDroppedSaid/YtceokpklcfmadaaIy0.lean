/-
  Package index, pure: a list of pairs as keys with their numbers; cut at a key.
-/
import Derived.Test.YtceokpklcfmadaaIxs
namespace Go.Proofs.Ytceokpklcfmadaa
open Go Go.RowKit Go.ChangeShapes

namespace Ix
/-- what a container holds behind these were added -/
def gml (ps : List (Int × Int)) : Gm := ps.foldl (fun m p => add m p.1 p.2) []
theorem gml_snoc (ps : List (Int × Int)) (p : Int × Int) : gml (ps ++ [p]) = add (gml ps) p.1 p.2 := by
  unfold gml
  rw [List.foldl_append]
  rfl
theorem gml_take (ps : List (Int × Int)) (j : Nat) (hj : j < ps.length) : gml (ps.take (j + 1)) = add (gml (ps.take j)) ps[j].1 ps[j].2 := by
  rw [List.take_succ_eq_append_getElem hj, gml_snoc]
theorem total_add : ∀ (kvs : Gm) (k v : Int), total (add kvs k v) = total kvs + 1
  | [], _, _ => rfl
  | (k', l) :: r, k, v => by
    rw [add]
    split
    · unfold total
      simp
      omega
    · split
      · unfold total
        simp
        omega
      · have ih := total_add r k v
        unfold total at ih ⊢
        simp at ih ⊢
        omega
theorem add_length : ∀ (kvs : Gm) (k v : Int), (add kvs k v).length ≤ kvs.length + 1
  | [], _, _ => by simp [add]
  | (k', l) :: r, k, v => by
    rw [add]
    split
    · simp
    · split
      · simp
      · have ih := add_length r k v
        simp
        omega
theorem add_ne : ∀ (kvs : Gm) (k v : Int), (∀ p ∈ kvs, p.2 ≠ []) → ∀ p ∈ add kvs k v, p.2 ≠ []
  | [], _, _, _, p, hp => by
    rw [add] at hp
    rw [List.mem_singleton.1 hp]
    simp
  | (k', l) :: r, k, v, h, p, hp => by
    rw [add] at hp
    split at hp
    · rcases List.mem_cons.1 hp with rfl | hp
      · simp
      · exact h p hp
    · split at hp
      · rcases List.mem_cons.1 hp with rfl | hp
        · simp
        · exact h p (List.mem_cons_of_mem _ hp)
      · rcases List.mem_cons.1 hp with rfl | hp
        · exact h _ List.mem_cons_self
        · exact add_ne r k v (fun q hq => h q (List.mem_cons_of_mem _ hq)) p hp
/-- what such a container is like -/
structure Fine (ps : List (Int × Int)) (kvs : Gm) : Prop where
  ris : rising kvs
  tot : total kvs = ps.length
  len : kvs.length ≤ ps.length
  ne : ∀ p ∈ kvs, p.2 ≠ []
  key : ∀ p ∈ kvs, ∃ q ∈ ps, q.1 = p.1
theorem fine_snoc {ps : List (Int × Int)} {kvs : Gm} (h : Fine ps kvs) (p : Int × Int) : Fine (ps ++ [p]) (add kvs p.1 p.2) := by
  refine ⟨add_rising _ _ _ h.ris, ?_, ?_, add_ne _ _ _ h.ne, fun q hq => ?_⟩
  · rw [total_add, h.tot, List.length_append, List.length_singleton]
  · have := add_length kvs p.1 p.2
    have := h.len
    rw [List.length_append, List.length_singleton]
    omega
  · rcases add_keys _ _ _ q hq with e | ⟨r, hr, e⟩
    · exact ⟨p, by simp, e.symm⟩
    · obtain ⟨s, hs, e2⟩ := h.key r hr
      exact ⟨s, List.mem_append_left _ hs, e2.trans e⟩
theorem gml_fine (ps : List (Int × Int)) : Fine ps (gml ps) := by
  have key : ∀ j, j ≤ ps.length → Fine (ps.take j) (gml (ps.take j)) := fun j => by
    induction j with
    | zero => intro _; exact ⟨List.Pairwise.nil, rfl, Nat.le_refl _, fun p hp => (by cases hp), fun p hp => (by cases hp)⟩
    | succ j ih =>
      intro hj
      rw [List.take_succ_eq_append_getElem (by omega), gml_snoc]
      exact fine_snoc (ih (by omega)) _
  have := key ps.length (Nat.le_refl _)
  rwa [List.take_length] at this
theorem within_all (kvs : Gm) (lo hi : Int) (h : ∀ p ∈ kvs, lo ≤ p.1 ∧ p.1 ≤ hi) : within kvs lo hi = kvs := by
  unfold within
  rw [List.filter_eq_self]
  intro p hp
  simpa using h p hp
theorem within_none (kvs : Gm) (lo hi : Int) (h : ∀ p ∈ kvs, ¬ (lo ≤ p.1 ∧ p.1 ≤ hi)) : within kvs lo hi = [] := by
  unfold within
  rw [List.filter_eq_nil_iff]
  intro p hp
  simpa using h p hp
/-- cut at a key -/
theorem within_cut : ∀ (kvs : Gm) (lo at1 hi : Int), rising kvs → (∀ p ∈ kvs, lo ≤ p.1 ∧ p.1 ≤ hi) → within kvs lo at1 ++ within kvs (at1 + 1) hi = kvs
  | [], _, _, _, _, _ => rfl
  | p :: r, lo, at1, hi, h, hb => by
    have h0 := h
    unfold rising at h
    rw [List.pairwise_cons] at h
    have hp := hb p List.mem_cons_self
    by_cases hc : p.1 ≤ at1
    · have e1 : within (p :: r) lo at1 = p :: within r lo at1 := by
        unfold within
        rw [List.filter_cons, if_pos (by simp; omega)]
      have e2 : within (p :: r) (at1 + 1) hi = within r (at1 + 1) hi := by
        unfold within
        rw [List.filter_cons, if_neg (by simp; omega)]
      rw [e1, e2, List.cons_append, within_cut r lo at1 hi h.2 fun q hq => hb q (List.mem_cons_of_mem _ hq)]
    · have hall : ∀ q ∈ p :: r, at1 < q.1 := fun q hq => by
        rcases List.mem_cons.1 hq with rfl | hq
        · omega
        · have := h.1 q hq
          omega
      rw [within_none _ lo at1 fun q hq => by have := hall q hq; omega, within_all _ (at1 + 1) hi fun q hq => by
        have := hall q hq
        have := hb q hq
        omega]
      rfl
theorem prs_append (a b : Gm) : prs (a ++ b) = prs a ++ prs b := by
  unfold prs
  rw [List.flatMap_append]
theorem within_mem {kvs : Gm} {lo hi : Int} {x : Int × Int} (h : x ∈ prs (within kvs lo hi)) : lo ≤ x.1 ∧ x.1 ≤ hi := by
  obtain ⟨p, hp, e⟩ := prs_mem h
  unfold within at hp
  have := (List.mem_filter.1 hp).2
  rw [e]
  simpa using this
theorem within_total : ∀ (kvs : Gm) (lo hi : Int), total (within kvs lo hi) ≤ total kvs
  | [], _, _ => Nat.le_refl _
  | p :: r, lo, hi => by
    have ih := within_total r lo hi
    unfold within total at ih ⊢
    rw [List.filter_cons]
    split
    · simp at ih ⊢
      exact ih
    · simp at ih ⊢
      omega
end Ix
end Go.Proofs.Ytceokpklcfmadaa
