/-
  Package index, pure: what Encode takes, Decode reads; a key that is dropped.
-/
import Derived.Test.YtceokpklcfmadaaJb0
namespace Go.Proofs.Ytceokpklcfmadaa
open Go Go.RowKit Go.ChangeShapes
open Wb

namespace Ix
/-- the rest of a key's values, once they were taken -/
theorem enc_rest (kvs : Gm) (k : Int) : ∀ (vs : List Int) (out : List Nat) (off : Nat) (s : List Nat × Int × Int), (∀ x ∈ vs, x ≤ 9223372036854775807) → (vs.map fun v => (k, v)).foldlM (encS kvs) (out, k, (off : Int)) = .ok s → ∃ xs, vs = nums xs ∧ okO false off xs
  | [], _, _, _, _, _ => ⟨[], rfl, trivial⟩
  | x :: r, out, off, s, hb, h => by
    have h0 : (do let s' ← encS kvs (out, k, (off : Int)) (k, x); List.foldlM (encS kvs) s' (r.map fun v => (k, v))) = Except.ok s := h
    unfold encS at h0
    by_cases h1 : k < 1
    · rw [if_pos h1] at h0
      cases h0
    · rw [if_neg h1, if_neg (by simp)] at h0
      by_cases h2 : x ≤ (off : Int)
      · rw [if_pos h2] at h0
        cases h0
      · rw [if_neg h2] at h0
        have hx : ((x.toNat : Nat) : Int) = x := by omega
        have h3 : (r.map fun v => (k, v)).foldlM (encS kvs) (out ++ Wn.uint (u64 (x - (off : Int))), k, ((x.toNat : Nat) : Int)) = .ok s := by rw [hx]; exact h0
        obtain ⟨xs, e1, e2⟩ := enc_rest kvs k r _ x.toNat s (fun y hy => hb y (List.mem_cons_of_mem _ hy)) h3
        have hbx := hb x List.mem_cons_self
        exact ⟨x.toNat :: xs, by rw [e1]; simp only [nums, List.map_cons]; rw [hx], by omega, fun _ => by omega, by omega, e2⟩
theorem enc_es (kvs : Gm) : ∀ (rs : Gm) (out : List Nat) (key : Nat) (off : Int) (s : List Nat × Int × Int), rising rs → (∀ p ∈ rs, (key : Int) < p.1) → (∀ p ∈ rs, p.2 ≠ [] ∧ p.1 ≤ 9223372036854775807 ∧ ∀ x ∈ p.2, x ≤ 9223372036854775807) → (prs rs).foldlM (encS kvs) (out, (key : Int), off) = .ok s → ∃ es, rs = gm es ∧ okK key es
  | [], _, _, _, _, _, _, _, _ => ⟨[], rfl, trivial⟩
  | (k, []) :: r, _, _, _, _, _, _, hb, _ => absurd rfl (hb _ List.mem_cons_self).1
  | (k, x :: vs) :: r, out, key, off, s, hr, hk, hb, h => by
    have hkk : (key : Int) < k := hk _ List.mem_cons_self
    have hb0 := hb _ List.mem_cons_self
    simp only at hb0
    unfold rising at hr
    rw [List.pairwise_cons] at hr
    have e0 : prs ((k, x :: vs) :: r) = (k, x) :: ((vs.map fun v => (k, v)) ++ prs r) := by simp [prs]
    rw [e0, List.foldlM_cons] at h
    have h0 : (do let s' ← encS kvs (out, (key : Int), off) (k, x); List.foldlM (encS kvs) s' ((vs.map fun v => (k, v)) ++ prs r)) = Except.ok s := h
    unfold encS at h0
    rw [if_neg (by show ¬ k < 1; omega), if_pos (by show k ≠ (key : Int); omega)] at h0
    by_cases h2 : x < 0
    · rw [if_pos h2] at h0
      cases h0
    · rw [if_neg h2] at h0
      have hx : ((x.toNat : Nat) : Int) = x := by omega
      have hk9 : ((k.toNat : Nat) : Int) = k := by omega
      generalize out ++ Wn.uint (u64 (k - (key : Int))) ++ Wn.uint (get kvs k).length ++ Wn.uint (u64 (x - 0)) = out1 at h0
      have h3 : List.foldlM (encS kvs) (out1, k, x) ((vs.map fun v => (k, v)) ++ prs r) = Except.ok s := h0
      rw [List.foldlM_append] at h3
      cases h4 : List.foldlM (encS kvs) (out1, k, x) (vs.map fun v => (k, v)) with
      | error e =>
        rw [h4] at h3
        cases h3
      | ok s1 =>
        rw [h4] at h3
        obtain ⟨xs, e1, e2⟩ := enc_rest kvs k vs out1 x.toNat s1 (fun y hy => hb0.2.2 y (List.mem_cons_of_mem _ hy)) (by rw [hx]; exact h4)
        have hs1 : s1.2.1 = k := enc_key kvs k vs (out1, k, x) s1 rfl h4
        obtain ⟨o1, k1, f1⟩ := s1
        simp only at hs1
        subst hs1
        have h5 : (prs r).foldlM (encS kvs) (o1, ((k1.toNat : Nat) : Int), f1) = .ok s := by rw [hk9]; exact h3
        obtain ⟨es, e3, e4⟩ := enc_es kvs r o1 k1.toNat f1 s hr.2 (fun p hp => by rw [hk9]; exact hr.1 p hp) (fun p hp => hb p (List.mem_cons_of_mem _ hp)) h5
        have hbx := hb0.2.2 x List.mem_cons_self
        refine ⟨(k1.toNat, x.toNat :: xs) :: es, ?_, by omega, by omega, by simp, ⟨by omega, (fun e => by cases e), by omega, e2⟩, e4⟩
        rw [e3, e1]
        simp only [gm, List.map_cons, nums]
        rw [hk9, hx]
where
  enc_key (kvs : Gm) (k : Int) : ∀ (vs : List Int) (s0 s : List Nat × Int × Int), s0.2.1 = k → (vs.map fun v => (k, v)).foldlM (encS kvs) s0 = .ok s → s.2.1 = k
    | [], s0, s, e, h => by
      cases h
      exact e
    | x :: r, s0, s, e, h => by
      have h0 : (do let s' ← encS kvs s0 (k, x); List.foldlM (encS kvs) s' (r.map fun v => (k, v))) = Except.ok s := h
      cases h1 : encS kvs s0 (k, x) with
      | error e => rw [h1] at h0; cases h0
      | ok s1 =>
        rw [h1] at h0
        refine enc_key kvs k r s1 s ?_ h0
        unfold encS at h1
        split at h1
        · cases h1
        · split at h1
          · split at h1
            · cases h1
            · cases h1; rfl
          · split at h1
            · cases h1
            · cases h1; exact e
/-- what Encode takes is made of keys and offsets that Decode reads as they were -/
theorem encF_es (kvs : Gm) (s : List Nat × Int × Int) (hr : rising kvs) (hb : ∀ p ∈ kvs, p.2 ≠ [] ∧ p.1 ≤ 9223372036854775807 ∧ ∀ x ∈ p.2, x ≤ 9223372036854775807) (h : encF kvs (prs kvs) = .ok s) : ∃ es, kvs = gm es ∧ okK 0 es ∧ s.1 = wrI es := by
  have hk : ∀ p ∈ kvs, ((0 : Nat) : Int) < p.1 := fun p hp => by
    cases kvs with
    | nil => cases hp
    | cons q r =>
      have hq : 0 < q.1 := by
        obtain ⟨k, vs⟩ := q
        cases vs with
        | nil => exact absurd rfl (hb _ List.mem_cons_self).1
        | cons x vs =>
          by_cases h1 : k < 1
          · unfold encF at h
            have e0 : prs ((k, x :: vs) :: r) = (k, x) :: ((vs.map fun v => (k, v)) ++ prs r) := by simp [prs]
            rw [e0, List.foldlM_cons] at h
            unfold encS at h
            rw [if_pos h1] at h
            cases h
          · show 0 < k
            omega
      unfold rising at hr
      rw [List.pairwise_cons] at hr
      rcases List.mem_cons.1 hp with rfl | hp
      · exact hq
      · have := hr.1 p hp
        show (0 : Int) < p.1
        omega
  obtain ⟨es, e1, e2⟩ := enc_es kvs kvs (Wn.uint kvs.length) 0 0 s hr hk hb h
  refine ⟨es, e1, e2, ?_⟩
  obtain ⟨k, o, e3⟩ := encode_fwd es e2
  rw [gm_allE es e2, ← e1, h] at e3
  cases e3
  rfl
end Ix
end Go.Proofs.Ytceokpklcfmadaa
