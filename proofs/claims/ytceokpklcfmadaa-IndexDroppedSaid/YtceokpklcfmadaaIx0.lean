/-
  Package index, pure: keys with their numbers, rising; what a map of them reads as; adding.
-/
import Derived.Maps.GroupsBeside
import Derived.Maps.Ext
namespace Go.Proofs.Ytceokpklcfmadaa
open Go Go.RowKit Go.ChangeShapes
namespace Ix

abbrev Gm := List (Int × List Int)
def rising (kvs : Gm) : Prop := kvs.Pairwise (fun p q => p.1 < q.1)
def get (kvs : Gm) (k : Int) : List Int := ((kvs.find? (fun p => p.1 == k)).map (·.2)).getD []
def add : Gm → Int → Int → Gm
  | [], k, v => [(k, [v])]
  | (k', l) :: r, k, v => if k < k' then (k, [v]) :: (k', l) :: r else if k' = k then (k', l ++ [v]) :: r else (k', l) :: add r k v
def en (p : Int × List Int) : Lit × DataW Unit := (.int .i64 p.1, .slice (lits .i64 p.2) [])
def dm (kvs : Gm) : DataW Unit := .map (kvs.map en)

theorem get_none (kvs : Gm) (k : Int) (h : ∀ p ∈ kvs, p.1 ≠ k) : kvs.find? (fun p => p.1 == k) = none := by
  rw [List.find?_eq_none]
  intro p hp
  simpa using h p hp
theorem get_nil (kvs : Gm) (k : Int) (h : ∀ p ∈ kvs, p.1 ≠ k) : get kvs k = [] := by
  unfold get
  rw [get_none kvs k h]
  rfl
theorem get_cons (p : Int × List Int) (r : Gm) (k : Int) : get (p :: r) k = if p.1 = k then p.2 else get r k := by
  unfold get
  rw [List.find?_cons]
  by_cases h : p.1 = k
  · rw [if_pos h]
    simp [h]
  · rw [if_neg h]
    have e : (p.1 == k) = false := by simp [h]
    rw [e]
theorem get_mem {kvs : Gm} (h : rising kvs) {k : Int} {l : List Int} (hm : (k, l) ∈ kvs) : get kvs k = l := by
  induction kvs with
  | nil => cases hm
  | cons p r ih =>
    rw [get_cons]
    unfold rising at h
    rw [List.pairwise_cons] at h
    rcases List.mem_cons.1 hm with e | e
    · rw [← e, if_pos rfl]
    · have := h.1 _ e
      rw [if_neg (by omega)]
      exact ih h.2 e
theorem find_en (kvs : Gm) (k : Int) : (kvs.map en).find? (fun p => p.1.sameKey (.int .i64 k)) = (kvs.find? (fun p => p.1 == k)).map en := by
  induction kvs with
  | nil => rfl
  | cons p r ih =>
    rw [List.map_cons, List.find?_cons, List.find?_cons]
    have e : (en p).1.sameKey (.int .i64 k) = (p.1 == k) := by
      unfold en Lit.sameKey
      by_cases h : p.1 = k <;> simp [h]
    rw [e, ih]
    cases p.1 == k <;> rfl
/-- what is read at a key -/
theorem dm_at (kvs : Gm) (k : Int) (z : DataW Unit) : ((∃ l, (k, l) ∈ kvs ∧ (dm kvs).atKey (.int .i64 k) z = .slice (lits .i64 l) [] ∧ get kvs k = l)) ∨ ((∀ p ∈ kvs, p.1 ≠ k) ∧ (dm kvs).atKey (.int .i64 k) z = z ∧ get kvs k = []) := by
  cases hf : kvs.find? (fun p => p.1 == k) with
  | none =>
    refine .inr ⟨fun p hp e => ?_, ?_, ?_⟩
    · rw [List.find?_eq_none] at hf
      have := hf p hp
      simp [e] at this
    · unfold dm DataW.atKey
      dsimp only
      rw [find_en, hf]
      rfl
    · unfold get
      rw [hf]
      rfl
  | some p =>
    have h1 := List.mem_of_find?_eq_some hf
    have h2 := List.find?_some hf
    have h3 : p.1 = k := by simpa using h2
    refine .inl ⟨p.2, by rw [← h3]; exact h1, ?_, ?_⟩
    · unfold dm DataW.atKey
      dsimp only
      rw [find_en, hf]
      rfl
    · unfold get
      rw [hf]
      rfl
theorem same_en (p : Int × List Int) (k : Int) : (!(en p).1.sameKey (.int .i64 k)) = !(p.1 == k) := by
  unfold en Lit.sameKey
  by_cases h : p.1 = k <;> simp [h]
theorem filter_all (kvs : Gm) (k : Int) (h : ∀ p ∈ kvs, p.1 ≠ k) : (kvs.map en).filter (fun p => !p.1.sameKey (.int .i64 k)) = kvs.map en := by
  rw [List.filter_eq_self]
  intro q hq
  obtain ⟨p, hp, rfl⟩ := List.mem_map.1 hq
  rw [same_en]
  have e : (p.1 == k) = false := by simpa using h p hp
  rw [e]
  rfl
theorem before_en (p q : Int × List Int) : (en p).1.before (en q).1 = decide (p.1 < q.1) := rfl
theorem put_add : ∀ (kvs : Gm) (k v : Int), rising kvs → DataW.insert (en (k, get kvs k ++ [v])) ((kvs.map en).filter (fun p => !p.1.sameKey (.int .i64 k))) = (add kvs k v).map en
  | [], k, v, _ => rfl
  | p :: r, k, v, h => by
    have h0 := h
    unfold rising at h
    rw [List.pairwise_cons] at h
    obtain ⟨k', l⟩ := p
    rw [add]
    by_cases h1 : k < k'
    · have hno : ∀ q ∈ ((k', l) :: r : Gm), q.1 ≠ k := fun q hq => by
        rcases List.mem_cons.1 hq with rfl | e
        · show k' ≠ k
          omega
        · have : k' < q.1 := h.1 q e
          omega
      rw [if_pos h1, filter_all _ k hno, get_nil _ k hno, List.map_cons, DataW.insert, before_en, if_pos (by simpa using h1)]
      rfl
    · rw [if_neg h1]
      by_cases h2 : k' = k
      · subst h2
        rw [if_pos rfl, List.map_cons, List.filter_cons, same_en, if_neg (by simp), get_cons, if_pos rfl]
        have hno : ∀ q ∈ r, q.1 ≠ k' := fun q hq => by
          have : k' < q.1 := h.1 q hq
          omega
        rw [filter_all _ k' hno]
        cases r with
        | nil => rfl
        | cons y r =>
          have : k' < y.1 := h.1 y (List.mem_cons_self ..)
          rw [List.map_cons, DataW.insert, before_en, if_pos (by simpa using this)]
          rfl
      · rw [if_neg h2, List.map_cons, List.filter_cons, same_en, if_pos (by simp [h2]), DataW.insert, before_en, if_neg (by simpa using h1), get_cons, if_neg h2, put_add r k v h.2]
        rfl
/-- one more at a key -/
theorem dm_put (kvs : Gm) (k v : Int) (h : rising kvs) : (dm kvs).put (.int .i64 k) (.slice (lits .i64 (get kvs k ++ [v])) []) = dm (add kvs k v) := by
  show DataW.map (DataW.insert (en (k, get kvs k ++ [v])) _) = _
  rw [put_add kvs k v h]
  rfl
theorem add_keys : ∀ (kvs : Gm) (k v : Int), ∀ q ∈ add kvs k v, q.1 = k ∨ ∃ p ∈ kvs, p.1 = q.1
  | [], k, v, q, h => by
    rw [add] at h
    exact .inl (by rw [List.mem_singleton.1 h])
  | (k', l) :: r, k, v, q, h => by
    rw [add] at h
    split at h
    · rcases List.mem_cons.1 h with rfl | e
      · exact .inl rfl
      · exact .inr ⟨q, e, rfl⟩
    · split at h
      · rcases List.mem_cons.1 h with rfl | e
        · exact .inr ⟨(k', l), List.mem_cons_self .., rfl⟩
        · exact .inr ⟨q, List.mem_cons_of_mem _ e, rfl⟩
      · rcases List.mem_cons.1 h with rfl | e
        · exact .inr ⟨(k', l), List.mem_cons_self .., rfl⟩
        · rcases add_keys r k v q e with h1 | ⟨p, hp, e2⟩
          · exact .inl h1
          · exact .inr ⟨p, List.mem_cons_of_mem _ hp, e2⟩
theorem add_rising : ∀ (kvs : Gm) (k v : Int), rising kvs → rising (add kvs k v)
  | [], k, v, _ => List.pairwise_singleton _ _
  | (k', l) :: r, k, v, h => by
    have h0 := h
    unfold rising at h
    rw [List.pairwise_cons] at h
    rw [add]
    split
    · rename_i h1
      refine List.pairwise_cons.2 ⟨fun q hq => ?_, h0⟩
      show k < q.1
      rcases List.mem_cons.1 hq with rfl | e
      · exact h1
      · have : k' < q.1 := h.1 q e
        omega
    · split
      · exact List.pairwise_cons.2 ⟨fun q hq => h.1 q hq, h.2⟩
      · rename_i h1 h2
        refine List.pairwise_cons.2 ⟨fun q hq => ?_, add_rising r k v h.2⟩
        show k' < q.1
        rcases add_keys r k v q hq with e | ⟨p, hp, e⟩
        · omega
        · have : k' < p.1 := h.1 p hp
          omega
/-- a key behind all others -/
theorem add_new : ∀ (kvs : Gm) (k v : Int), (∀ p ∈ kvs, p.1 < k) → add kvs k v = kvs ++ [(k, [v])]
  | [], k, v, _ => rfl
  | (k', l) :: r, k, v, h => by
    have h1 : k' < k := h _ (List.mem_cons_self ..)
    rw [add, if_neg (by omega), if_neg (by omega), add_new r k v fun p hp => h p (List.mem_cons_of_mem _ hp)]
    rfl
/-- the last key again -/
theorem add_last : ∀ (kvs : Gm) (k v : Int) (l : List Int), (∀ p ∈ kvs, p.1 < k) → add (kvs ++ [(k, l)]) k v = kvs ++ [(k, l ++ [v])]
  | [], k, v, l, _ => by
    rw [List.nil_append, add, if_neg (by omega), if_pos rfl]
    rfl
  | (k', l') :: r, k, v, l, h => by
    have h1 : k' < k := h _ (List.mem_cons_self ..)
    rw [List.cons_append, add, if_neg (by omega), if_neg (by omega), add_last r k v l fun p hp => h p (List.mem_cons_of_mem _ hp)]
    rfl
theorem lits_inj {q : IntKind} {a b : List Int} (h : (lits q a : List (DataW Unit)) = lits q b) : a = b := by
  unfold lits at h
  exact List.map_inj_right (fun x y e => by simpa using e) |>.1 h
end Ix
end Go.Proofs.Ytceokpklcfmadaa
