import Derived.Maps.OwnSet
import Derived.Test.YtdnackjakfiffaaGreatDoorQSM
import Derived.Test.YtdnackjakfiffaaGreatDoorQS1
/-
  Pure: values by rising numbers; what a map of them reads as; putting.
-/
namespace Go.Proofs.YtdnackjakfiffaaGreatDoor
open Go Go.RowKit Go.ChangeShapes
namespace Mv

abbrev L (α : Type) := List (Int × α)
section
variable {α β : Type}
def rising (l : L α) : Prop := l.Pairwise (fun p q => p.1 < q.1)
def get (l : L α) (k : Int) : Option α := (l.find? (fun p => p.1 == k)).map (·.2)
def put : L α → Int → α → L α
  | [], k, v => [(k, v)]
  | (k', a) :: r, k, v => if k < k' then (k, v) :: (k', a) :: r else if k' = k then (k, v) :: r else (k', a) :: put r k v
def mapv (f : α → β) (l : L α) : L β := l.map fun p => (p.1, f p.2)
theorem get_nil (k : Int) : get ([] : L α) k = none := rfl
theorem get_cons (p : Int × α) (r : L α) (k : Int) : get (p :: r) k = if p.1 = k then some p.2 else get r k := by
  unfold get
  rw [List.find?_cons]
  by_cases h : p.1 = k
  · simp [h]
  · have e : (p.1 == k) = false := by simp [h]
    rw [e, if_neg h]
theorem get_put : ∀ (l : L α) (k : Int) (v : α) (j : Int), get (put l k v) j = if j = k then some v else get l j
  | [], k, v, j => by
    rw [put, get_cons, get_nil]
    by_cases h : j = k
    · rw [if_pos h, if_pos h.symm]
    · rw [if_neg h, if_neg (fun e => h e.symm)]
  | (k', a) :: r, k, v, j => by
    rw [put]
    by_cases h1 : k < k'
    · rw [if_pos h1, get_cons]
      by_cases h : j = k
      · rw [if_pos h, if_pos h.symm]
      · rw [if_neg h, if_neg (fun e => h e.symm)]
    · rw [if_neg h1]
      by_cases h2 : k' = k
      · rw [if_pos h2, get_cons, get_cons]
        by_cases h : j = k
        · rw [if_pos h, if_pos h.symm]
        · rw [if_neg h, if_neg (fun e => h e.symm), if_neg (by rw [h2]; exact fun e => h e.symm)]
      · rw [if_neg h2, get_cons, get_cons, get_put r k v j]
        by_cases h : k' = j
        · rw [if_pos h, if_pos h, if_neg (by rw [← h]; exact h2)]
        · rw [if_neg h, if_neg h]
theorem put_keys : ∀ (l : L α) (k : Int) (v : α), ∀ q ∈ put l k v, q = (k, v) ∨ q ∈ l
  | [], k, v, q, h => .inl (List.mem_singleton.1 h)
  | (k', a) :: r, k, v, q, h => by
    rw [put] at h
    split at h
    · rcases List.mem_cons.1 h with h | h
      · exact .inl h
      · exact .inr h
    · split at h
      · rcases List.mem_cons.1 h with h | h
        · exact .inl h
        · exact .inr (List.mem_cons_of_mem _ h)
      · rcases List.mem_cons.1 h with h | h
        · exact .inr (h ▸ List.mem_cons_self ..)
        · rcases put_keys r k v q h with h | h
          · exact .inl h
          · exact .inr (List.mem_cons_of_mem _ h)
theorem rising_put : ∀ (l : L α) (k : Int) (v : α), rising l → rising (put l k v)
  | [], k, v, _ => List.pairwise_singleton _ _
  | (k', a) :: r, k, v, h => by
    have h0 := h
    unfold rising at h
    rw [List.pairwise_cons] at h
    rw [put]
    split
    · rename_i h1
      refine List.pairwise_cons.2 ⟨fun q hq => ?_, h0⟩
      show k < q.1
      rcases List.mem_cons.1 hq with rfl | e
      · exact h1
      · have : k' < q.1 := h.1 q e
        omega
    · split
      · rename_i h1 h2
        subst h2
        exact List.pairwise_cons.2 ⟨fun q hq => h.1 q hq, h.2⟩
      · rename_i h1 h2
        refine List.pairwise_cons.2 ⟨fun q hq => ?_, rising_put r k v h.2⟩
        show k' < q.1
        rcases put_keys r k v q hq with rfl | e
        · show k' < k
          omega
        · exact h.1 q e
theorem put_length : ∀ (l : L α) (k : Int) (v : α), (put l k v).length ≤ l.length + 1
  | [], _, _ => by simp [put]
  | (k', a) :: r, k, v => by
    rw [put]
    split
    · simp
    · split
      · simp
      · have := put_length r k v
        simpa using this
theorem get_mem {l : L α} (h : rising l) {k : Int} {v : α} : get l k = some v ↔ (k, v) ∈ l := by
  induction l with
  | nil => simp [get_nil]
  | cons p r ih =>
    unfold rising at h
    rw [List.pairwise_cons] at h
    rw [get_cons, List.mem_cons]
    by_cases hp : p.1 = k
    · rw [if_pos hp]
      constructor
      · intro e
        exact .inl (by rw [← hp, ← Option.some.inj e])
      · rintro (e | e)
        · rw [← e]
        · have := h.1 _ e
          simp only at this
          omega
    · rw [if_neg hp, ih h.2]
      constructor
      · exact .inr
      · rintro (e | e)
        · exact absurd (by rw [← e]) hp
        · exact e
theorem get_none {l : L α} {k : Int} (h : ∀ p ∈ l, p.1 ≠ k) : get l k = none := by
  induction l with
  | nil => rfl
  | cons p r ih => rw [get_cons, if_neg (h p (List.mem_cons_self ..)), ih fun q hq => h q (List.mem_cons_of_mem _ hq)]
theorem ext : ∀ {l l' : L α}, rising l → rising l' → (∀ k, get l k = get l' k) → l = l'
  | [], [], _, _, _ => rfl
  | [], q :: r, _, _, h => by
    have := h q.1
    rw [get_cons, if_pos rfl] at this
    cases this
  | p :: r, [], _, _, h => by
    have := h p.1
    rw [get_cons, if_pos rfl] at this
    cases this
  | p :: r, q :: s, h1, h2, h => by
    unfold rising at h1 h2
    rw [List.pairwise_cons] at h1 h2
    have e : p = q := by
      have a1 := (get_mem (l := q :: s) (List.pairwise_cons.2 h2)).1 ((h p.1).symm.trans (by rw [get_cons, if_pos rfl]))
      have a2 := (get_mem (l := p :: r) (List.pairwise_cons.2 h1)).1 ((h q.1).trans (by rw [get_cons, if_pos rfl]))
      rcases List.mem_cons.1 a1 with a1 | a1
      · exact a1
      · rcases List.mem_cons.1 a2 with a2 | a2
        · exact a2.symm
        · have := h2.1 _ a1
          have := h1.1 _ a2
          simp only at *
          omega
    subst e
    rw [ext h1.2 h2.2 fun k => ?_]
    have hk := h k
    rw [get_cons, get_cons] at hk
    by_cases e : p.1 = k
    · rw [get_none fun q hq => by have := h1.1 q hq; omega, get_none fun q hq => by have := h2.1 q hq; omega]
    · rwa [if_neg e, if_neg e] at hk
theorem get_mapv (f : α → β) (l : L α) (k : Int) : get (mapv f l) k = (get l k).map f := by
  induction l with
  | nil => rfl
  | cons p r ih =>
    unfold mapv at ih ⊢
    rw [List.map_cons, get_cons, get_cons, ih]
    split <;> rfl
theorem put_mapv (f : α → β) : ∀ (l : L α) (k : Int) (v : α), mapv f (put l k v) = put (mapv f l) k (f v)
  | [], k, v => rfl
  | (k', a) :: r, k, v => by
    show mapv f (put ((k', a) :: r) k v) = put ((k', f a) :: mapv f r) k (f v)
    rw [put, put]
    split
    · rfl
    · split
      · rfl
      · rw [← put_mapv f r k v]
        rfl
theorem rising_mapv {f : α → β} {l : L α} (h : rising l) : rising (mapv f l) := by
  unfold rising mapv
  rw [List.pairwise_map]
  exact h
theorem rising_of_mapv {f : α → β} {l : L α} (h : rising (mapv f l)) : rising l := by
  unfold rising mapv at h
  rw [List.pairwise_map] at h
  exact h
end
def en (p : Int × Value) : Lit × DataW Value := (.int .i64 p.1, .held p.2)
def dm (l : L Value) : DataW Value := .map (l.map en)
theorem same_en (p : Int × Value) (k : Int) : (en p).1.sameKey (.int .i64 k) = (p.1 == k) := by
  unfold en Lit.sameKey
  by_cases h : p.1 = k <;> simp [h]
theorem find_en (l : L Value) (k : Int) : (l.map en).find? (fun p => p.1.sameKey (.int .i64 k)) = (l.find? (fun p => p.1 == k)).map en := by
  induction l with
  | nil => rfl
  | cons p r ih =>
    rw [List.map_cons, List.find?_cons, List.find?_cons, same_en, ih]
    cases p.1 == k <;> rfl
theorem dm_at (l : L Value) (k : Int) (z : DataW Value) : (dm l).atKey (.int .i64 k) z = match get l k with | some v => .held v | none => z := by
  unfold dm DataW.atKey get
  dsimp only
  rw [find_en]
  cases l.find? (fun p => p.1 == k) <;> rfl
theorem dm_has (l : L Value) (k : Int) : Maps.has (dm l) (.int .i64 k) = (get l k).isSome := by
  unfold dm get
  rw [Maps.has_eq]
  induction l with
  | nil => rfl
  | cons p r ih =>
    rw [List.map_cons, List.any_cons, List.find?_cons, same_en, ih]
    cases p.1 == k <;> simp
theorem dm_size (l : L Value) : Maps.size (dm l) = l.length := by
  unfold dm
  rw [Maps.size_eq, List.length_map]
theorem before_en (p q : Int × Value) : (en p).1.before (en q).1 = decide (p.1 < q.1) := rfl
theorem filter_all (l : L Value) (k : Int) (h : ∀ p ∈ l, p.1 ≠ k) : (l.map en).filter (fun p => !p.1.sameKey (.int .i64 k)) = l.map en := by
  rw [List.filter_eq_self]
  intro q hq
  obtain ⟨p, hp, rfl⟩ := List.mem_map.1 hq
  rw [same_en]
  have e : (p.1 == k) = false := by simpa using h p hp
  rw [e]
  rfl
theorem put_en : ∀ (l : L Value) (k : Int) (v : Value), rising l → DataW.insert (en (k, v)) ((l.map en).filter (fun p => !p.1.sameKey (.int .i64 k))) = (put l k v).map en
  | [], k, v, _ => rfl
  | p :: r, k, v, h => by
    unfold rising at h
    rw [List.pairwise_cons] at h
    obtain ⟨k', a⟩ := p
    rw [put]
    by_cases h1 : k < k'
    · have hno : ∀ q ∈ ((k', a) :: r : L Value), q.1 ≠ k := fun q hq => by
        rcases List.mem_cons.1 hq with rfl | e
        · show k' ≠ k
          omega
        · have : k' < q.1 := h.1 q e
          omega
      rw [if_pos h1, filter_all _ k hno, List.map_cons, DataW.insert, before_en, if_pos (by simpa using h1)]
      rfl
    · rw [if_neg h1]
      by_cases h2 : k' = k
      · subst h2
        rw [if_pos rfl, List.map_cons, List.filter_cons, same_en, if_neg (by simp)]
        have hno : ∀ q ∈ r, q.1 ≠ k' := fun q hq => by
          have : k' < q.1 := h.1 q hq
          omega
        rw [filter_all _ k' hno]
        cases r with
        | nil => rfl
        | cons y r =>
          have : k' < y.1 := h.1 y (List.mem_cons_self ..)
          rw [List.map_cons, DataW.insert, before_en, if_pos (by simpa using this)]
          rfl
      · rw [if_neg h2, List.map_cons, List.filter_cons, same_en, if_pos (by simp [h2]), DataW.insert, before_en, if_neg (by simpa using h1), put_en r k v h.2]
        rfl
theorem dm_put (l : L Value) (k : Int) (v : Value) (h : rising l) : (dm l).put (.int .i64 k) (.held v) = dm (put l k v) := by
  show DataW.map (DataW.insert (en (k, v)) _) = _
  rw [put_en l k v h]
  rfl
/-- an element's reading: the value itself -/
def hR (v : Value) : Option (DataW Value × List MemPlace) := some (.held v, [])
end Mv
end Go.Proofs.YtdnackjakfiffaaGreatDoor

/-
  Replay, pure: folding records; each saga for itself.
-/
namespace Go.Proofs.YtdnackjakfiffaaGreatDoor
open Go Go.RowKit
open Wb
theorem up_v3 (r : Rec) (hv : V3 r) (h3 : r.x.v = 3) : upP 3 r = (0, r) := by
  have hc : chkR r = 0 := (v3_iff r h3).2 hv
  have hl : lckE 3 r = 0 := by unfold lckE; rw [if_neg (by simpa using hc), if_pos (by omega)]
  unfold upP
  rw [if_neg (by simpa using hl), if_neg (by omega), car33 r h3]
theorem begin_good (r : Rec) (hok : ok r.l) (hf : r.x.fit) (h : (beginP r).1 = 0) : chkS (beginP r).2 = true ∧ (beginP r).2.outs = [] ∧ (beginP r).2.und = [] ∧ (beginP r).2.nm.size ≤ 20000 := by
  unfold beginP at h ⊢
  by_cases h1 : (upP 3 r).1 = 0
  · rw [if_neg (by simpa using h1)] at h ⊢
    by_cases h2 : (upP 3 r).2.x.k = 1
    · rw [if_neg (by simpa using h2)] at h ⊢
      obtain ⟨hv, _, _, hs⟩ := up3 r hok h1
      obtain ⟨v1, v2, v3, vk⟩ := hv
      have hs2 : (upP 3 r).2.x.s ≤ 9223372036854775807 := by
        rw [hs]
        exact (hf 2 (by omega) (by omega)).2
      have hsm : (upP 3 r).2.nm.size ≤ 20000 := by
        obtain ⟨q1, _, _, _, q3⟩ := up_zero h1
        rw [q3]
        exact (carL_small _ r (small_of r hf q1)).1
      refine ⟨?_, rfl, rfl, hsm⟩
      rw [chkS_iff]
      rcases vk with k | k | k | k | k
      · refine ⟨⟨lab_zero k.2.2.2.2.2.2.2.2.2.1, ⟨v1, hs2⟩, ⟨k.2.2.2.2.2.1, k.2.2.2.2.2.2.1⟩, ⟨k.2.2.2.2.2.2.2.1, k.2.2.2.2.2.2.2.2.1⟩, ⟨v2, v3⟩, ⟨v2, v3⟩, ?_⟩, .inl ?_⟩
        · have := k.2.2.2.2.2.2.2.2.2.2
          simp [shortP, this]
        · have h9 := k.2.2.2.2.2.1
          simp [Gd1]
          omega
      all_goals omega
    · rw [if_pos h2] at h; simp at h
  · rw [if_pos h1] at h; exact absurd h h1
namespace Rp

abbrev Gs := Mv.L Sg
/-- a record that may be read -/
def Rg (r : Rec) : Prop := ok r.l ∧ r.x.fit
/-- one more record of a saga -/
def stp (o : Option Sg) (r : Rec) : Int × Sg := match o with | some S => applyP S r | none => beginP r
def step (G : Gs) (r : Rec) : Int × Sg := stp (Mv.get G r.x.s) r
/-- how many records come, and the state behind them -/
def fold : Gs → List Rec → Nat × Gs
  | G, [] => (0, G)
  | G, r :: rs => if (step G r).1 = 0 then ((fold (Mv.put G r.x.s (step G r).2) rs).1 + 1, (fold (Mv.put G r.x.s (step G r).2) rs).2) else (0, G)
/-- the place of the first that may not come -/
def plc (rs : List Rec) : Int := if (fold [] rs).1 = rs.length then -1 else ((fold [] rs).1 : Int)
/-- a saga that stands in a state -/
structure So (S : Sg) (k : Int) : Prop where
  id : S.x.id = k
  chk : chkS S = true
  nm : S.nm.size ≤ 20000
structure Wf (G : Gs) : Prop where
  ris : Mv.rising G
  at' : ∀ k S, Mv.get G k = some S → So S k
theorem Wf.nil : Wf [] := ⟨List.Pairwise.nil, fun k S h => by cases h⟩
theorem fold_cons (G : Gs) (r : Rec) (rs : List Rec) : fold G (r :: rs) = if (step G r).1 = 0 then ((fold (Mv.put G r.x.s (step G r).2) rs).1 + 1, (fold (Mv.put G r.x.s (step G r).2) rs).2) else (0, G) := rfl
theorem stp_ok (o : Option Sg) (r : Rec) (hr : Rg r) (ho : ∀ S k, o = some S → S.x.id = k → So S k) (h : (stp o r).1 = 0) : So (stp o r).2 r.x.s := by
  cases o with
  | none =>
    show So (beginP r).2 _
    have h2 : (beginP r).1 = 0 := h
    obtain ⟨a1, -, -, a4⟩ := begin_good r hr.1 hr.2 h2
    refine ⟨?_, a1, a4⟩
    unfold beginP at h2 ⊢
    by_cases h1 : (upP 3 r).1 = 0
    · rw [if_neg (by simpa using h1)] at h2 ⊢
      by_cases h3 : (upP 3 r).2.x.k = 1
      · rw [if_neg (by simpa using h3)]
        exact (up3 r hr.1 h1).2.2.2
      · rw [if_pos h3] at h2
        simp at h2
    · rw [if_pos h1] at h2
      exact absurd h2 h1
  | some S =>
    show So (applyP S r).2 _
    have h2 : (applyP S r).1 = 0 := h
    have hS := ho S _ rfl rfl
    unfold applyP at h2 ⊢
    rw [if_neg (by simp [hS.chk])] at h2 ⊢
    by_cases h1 : (upP 3 r).1 = 0
    · rw [if_neg (by simpa using h1)] at h2 ⊢
      by_cases h3 : refP S.x (upP 3 r).2.x = 0
      · rw [if_neg (by simpa using h3)]
        obtain ⟨hv, _, hk, hs⟩ := up3 r hr.1 h1
        obtain ⟨q1, _, _, _, q5, _⟩ := steps_deed S (upP 3 r).2 hS.chk hv h3
        refine ⟨?_, chkS_deed S _ hS.chk hv h3, ?_⟩
        · show (deedS S (upP 3 r).2).x.id = _
          rw [q1, ← hs]
          exact ((ref_zero h3).1).symm
        · show (deedS S (upP 3 r).2).nm.size ≤ _
          rw [q5]
          exact hS.nm
      · rw [if_pos h3] at h2
        exact absurd h2 h3
    · rw [if_pos h1] at h2
      exact absurd h2 h1
theorem Wf.get {G : Gs} (h : Wf G) (k : Int) : ∀ S j, Mv.get G k = some S → S.x.id = j → So S j := fun S j h1 h2 => by
  have := h.at' k S h1
  rw [this.id] at h2
  exact h2 ▸ this
theorem Wf.put {G : Gs} (h : Wf G) {k : Int} {S : Sg} (hS : So S k) : Wf (Mv.put G k S) := by
  refine ⟨Mv.rising_put _ _ _ h.ris, fun j T e => ?_⟩
  rw [Mv.get_put] at e
  by_cases hj : j = k
  · rw [if_pos hj] at e
    rw [hj, ← Option.some.inj e]
    exact hS
  · rw [if_neg hj] at e
    exact h.at' j T e
theorem Wf.step {G : Gs} (h : Wf G) {r : Rec} (hr : Rg r) (h0 : (step G r).1 = 0) : Wf (Mv.put G r.x.s (Rp.step G r).2) := h.put (stp_ok _ r hr (h.get _) h0)
theorem Wf.fold : ∀ (rs : List Rec) {G : Gs}, Wf G → (∀ r ∈ rs, Rg r) → Wf (fold G rs).2
  | [], _, h, _ => h
  | r :: rs, G, h, hr => by
    rw [fold_cons]
    by_cases h0 : (Rp.step G r).1 = 0
    · rw [if_pos h0]
      exact Wf.fold rs (h.step (hr r (List.mem_cons_self ..)) h0) fun q hq => hr q (List.mem_cons_of_mem _ hq)
    · rw [if_neg h0]
      exact h
theorem fold_le : ∀ (rs : List Rec) (G : Gs), (fold G rs).1 ≤ rs.length
  | [], _ => Nat.le_refl _
  | r :: rs, G => by
    rw [fold_cons]
    split
    · simpa using fold_le rs _
    · simp
theorem fold_size : ∀ (rs : List Rec) (G : Gs), (fold G rs).2.length ≤ G.length + (fold G rs).1
  | [], _ => Nat.le_refl _
  | r :: rs, G => by
    rw [fold_cons]
    split
    · have h1 := fold_size rs (Mv.put G r.x.s (step G r).2)
      have h2 := Mv.put_length G r.x.s (step G r).2
      simp only
      omega
    · simp
/-- the records ahead of the first that may not come -/
theorem fold_take : ∀ (rs : List Rec) (G : Gs), fold G (rs.take (fold G rs).1) = fold G rs
  | [], _ => rfl
  | r :: rs, G => by
    by_cases h0 : (step G r).1 = 0
    · rw [fold_cons, if_pos h0]
      simp only
      rw [List.take_succ_cons, fold_cons, if_pos h0, fold_take rs]
    · rw [fold_cons, if_neg h0]
      rfl
/-- what stands behind the first that may not come changes nothing -/
theorem fold_more : ∀ (rs more : List Rec) (G : Gs), (fold G rs).1 < rs.length → fold G (rs.take ((fold G rs).1 + 1) ++ more) = fold G rs
  | [], _, _, h => by simp [fold] at h
  | r :: rs, more, G, h => by
    by_cases h0 : (step G r).1 = 0
    · rw [fold_cons, if_pos h0] at h ⊢
      simp only [List.length_cons, Nat.add_lt_add_iff_right] at h ⊢
      rw [List.take_succ_cons, List.cons_append, fold_cons, if_pos h0, fold_more rs more _ h]
    · rw [fold_cons, if_neg h0]
      simp only [Nat.zero_add, List.take_succ_cons, List.take_zero, List.cons_append, List.nil_append]
      rw [fold_cons, if_neg h0]
theorem plc_take (rs : List Rec) : plc (rs.take (fold [] rs).1) = -1 := by
  unfold plc
  rw [fold_take, List.length_take, if_pos (Nat.min_eq_left (fold_le _ _)).symm]
theorem mem_of_filter {α : Type} {p : α → Bool} {l : List α} {a : α} (h : a ∈ l.filter p) : a ∈ l := (List.mem_filter.1 h).1
/-- one saga's records -/
def own (k : Int) (rs : List Rec) : List Rec := rs.filter fun r => r.x.s == k
def one : Option Sg → List Rec → Option (Option Sg)
  | o, [] => some o
  | o, r :: rs => if (stp o r).1 = 0 then one (some (stp o r).2) rs else none
theorem own_cons (k : Int) (r : Rec) (rs : List Rec) : own k (r :: rs) = if r.x.s = k then r :: own k rs else own k rs := by
  unfold own
  rw [List.filter_cons]
  by_cases h : r.x.s = k <;> simp [h]
theorem own_app (k : Int) (a b : List Rec) : own k (a ++ b) = own k a ++ own k b := List.filter_append _ _
/-- a log is legal where each saga's records are; and what stands in the state -/
theorem fold_one : ∀ (rs : List Rec) (G : Gs), (fold G rs).1 = rs.length → ∀ k, one (Mv.get G k) (own k rs) = some (Mv.get (fold G rs).2 k)
  | [], _, _, _ => rfl
  | r :: rs, G, h, k => by
    rw [fold_cons] at h ⊢
    by_cases h0 : (step G r).1 = 0
    · rw [if_pos h0] at h ⊢
      simp only [List.length_cons, Nat.add_right_cancel_iff] at h ⊢
      have ih := fold_one rs _ h k
      rw [Mv.get_put] at ih
      rw [own_cons]
      by_cases hk : r.x.s = k
      · rw [if_pos hk, one]
        rw [if_pos hk.symm] at ih
        subst hk
        rw [if_pos (show (stp (Mv.get G r.x.s) r).1 = 0 from h0)]
        exact ih
      · rw [if_neg hk]
        rw [if_neg (fun e => hk e.symm)] at ih
        exact ih
    · rw [if_neg h0] at h
      simp at h
theorem fold_legal : ∀ (rs : List Rec) (G : Gs), (∀ k, (one (Mv.get G k) (own k rs)).isSome) → (fold G rs).1 = rs.length
  | [], _, _ => rfl
  | r :: rs, G, h => by
    rw [fold_cons]
    have h1 := h r.x.s
    rw [own_cons, if_pos rfl, one] at h1
    by_cases h0 : (step G r).1 = 0
    · rw [if_pos h0]
      rw [if_pos (show (stp (Mv.get G r.x.s) r).1 = 0 from h0)] at h1
      simp only [List.length_cons, Nat.add_right_cancel_iff]
      refine fold_legal rs _ fun k => ?_
      rw [Mv.get_put]
      by_cases hk : k = r.x.s
      · rw [if_pos hk, hk]
        exact h1
      · have h2 := h k
        rw [own_cons, if_neg (fun e => hk e.symm)] at h2
        rw [if_neg hk]
        exact h2
    · rw [if_neg (show ¬ (stp (Mv.get G r.x.s) r).1 = 0 from h0)] at h1
      cases h1
theorem fold_same {rs rs' : List Rec} (hr : ∀ r ∈ rs, Rg r) (hr' : ∀ r ∈ rs', Rg r) (h : (fold [] rs).1 = rs.length) (ho : ∀ k, own k rs' = own k rs) : (fold [] rs').1 = rs'.length ∧ (fold [] rs').2 = (fold [] rs).2 := by
  have h1 : (fold [] rs').1 = rs'.length := fold_legal rs' [] fun k => by
    rw [ho k, fold_one rs [] h k]
    rfl
  refine ⟨h1, Mv.ext (Wf.fold rs' Wf.nil hr').ris (Wf.fold rs Wf.nil hr).ris fun k => ?_⟩
  have e1 := fold_one rs' [] h1 k
  rw [ho k, fold_one rs [] h k] at e1
  exact (Option.some.inj e1).symm
/-- one saga's records alone -/
theorem fold_own {rs : List Rec} (hr : ∀ r ∈ rs, Rg r) (h : (fold [] rs).1 = rs.length) {k : Int} {S : Sg} (hk : Mv.get (fold [] rs).2 k = some S) : (fold [] (own k rs)).1 = (own k rs).length ∧ (fold [] (own k rs)).2 = [(k, S)] := by
  have e0 : ∀ j, own j (own k rs) = if j = k then own k rs else [] := fun j => by
    unfold own
    rw [List.filter_filter]
    by_cases hj : j = k
    · rw [if_pos hj, hj]
      simp
    · rw [if_neg hj, List.filter_eq_nil_iff]
      intro r _
      simp only [Bool.and_eq_true, beq_iff_eq, not_and]
      intro e1 e2
      exact hj (e1.symm.trans e2)
  have h1 : (fold [] (own k rs)).1 = (own k rs).length := fold_legal _ [] fun j => by
    rw [e0 j]
    split
    · rename_i hj
      have := fold_one rs [] h k
      rw [Mv.get_nil] at this ⊢
      rw [this]
      rfl
    · rfl
  have hr' : ∀ r ∈ own k rs, Rg r := fun r hm => hr r (mem_of_filter hm)
  refine ⟨h1, Mv.ext (Wf.fold _ Wf.nil hr').ris (List.pairwise_singleton _ _) fun j => ?_⟩
  have e1 := fold_one _ [] h1 j
  rw [e0 j] at e1
  rw [Mv.get_cons, Mv.get_nil]
  by_cases hj : j = k
  · rw [if_pos hj, Mv.get_nil] at e1
    rw [if_pos hj.symm]
    have e2 := fold_one rs [] h k
    rw [Mv.get_nil, e1, hk] at e2
    exact Option.some.inj e2
  · rw [if_neg hj] at e1
    rw [if_neg (fun e => hj e.symm)]
    exact (Option.some.inj e1).symm
/-- all records belong to the sagas of the state -/
theorem fold_in : ∀ (rs : List Rec) (G : Gs), (fold G rs).1 = rs.length → ∀ k, (Mv.get (fold G rs).2 k = none → Mv.get G k = none ∧ own k rs = [])
  | [], _, _, _ => fun h => ⟨h, rfl⟩
  | r :: rs, G, h, k => by
    rw [fold_cons] at h ⊢
    by_cases h0 : (step G r).1 = 0
    · rw [if_pos h0] at h ⊢
      simp only [List.length_cons, Nat.add_right_cancel_iff] at h ⊢
      intro e
      obtain ⟨e1, e2⟩ := fold_in rs _ h k e
      rw [Mv.get_put] at e1
      by_cases hk : k = r.x.s
      · rw [if_pos hk] at e1
        cases e1
      · rw [if_neg hk] at e1
        exact ⟨e1, by rw [own_cons, if_neg (fun e => hk e.symm)]; exact e2⟩
    · rw [if_neg h0] at h
      simp at h
theorem sum_own : ∀ (rs : List Rec) (ks : List Int), ks.Pairwise (· < ·) → (∀ r ∈ rs, r.x.s ∈ ks) → (ks.map fun k => (own k rs).length).sum = rs.length
  | [], ks, _, _ => by
    induction ks with
    | nil => rfl
    | cons k ks ih => rename_i h1 h2; rw [List.map_cons, List.sum_cons, ih (List.pairwise_cons.1 h1).2 fun r hr => by cases hr]; rfl
  | r :: rs, ks, h, hm => by
    have ih := sum_own rs ks h fun q hq => hm q (List.mem_cons_of_mem _ hq)
    have e : ∀ l : List Int, l.Pairwise (· < ·) → (l.map fun k => (own k (r :: rs)).length).sum = (l.map fun k => (own k rs).length).sum + if r.x.s ∈ l then 1 else 0 := by
      intro l
      induction l with
      | nil => simp
      | cons k l ih2 =>
        intro hp
        rw [List.pairwise_cons] at hp
        rw [List.map_cons, List.sum_cons, List.map_cons, List.sum_cons, ih2 hp.2, own_cons]
        by_cases hk : r.x.s = k
        · have hn : r.x.s ∉ l := fun e => by have := hp.1 _ e; omega
          rw [if_pos hk, if_neg hn, if_pos (by rw [hk]; exact List.mem_cons_self ..), List.length_cons]
          omega
        · rw [if_neg hk]
          by_cases hl : r.x.s ∈ l
          · rw [if_pos hl, if_pos (List.mem_cons_of_mem _ hl)]
            omega
          · rw [if_neg hl, if_neg (fun e => by rcases List.mem_cons.1 e with e | e; exact hk e; exact hl e)]
            omega
    rw [e ks h, ih, if_pos (hm r (List.mem_cons_self ..))]
    rfl
theorem sum_state {rs : List Rec} (hr : ∀ r ∈ rs, Rg r) (h : (fold [] rs).1 = rs.length) : ((fold [] rs).2.map fun p => (own p.1 rs).length).sum = rs.length := by
  have hw := (Wf.fold rs Wf.nil hr).ris
  have e := sum_own rs ((fold [] rs).2.map (·.1)) (by rw [List.pairwise_map]; exact hw) fun r hm => by
    cases hg : Mv.get (fold [] rs).2 r.x.s with
    | none =>
      have := (fold_in rs [] h _ hg).2
      have h2 : r ∈ own r.x.s rs := by unfold own; rw [List.mem_filter]; exact ⟨hm, by simp⟩
      rw [this] at h2
      cases h2
    | some S => exact List.mem_map.2 ⟨(r.x.s, S), (Mv.get_mem hw).1 hg, rfl⟩
  rw [List.map_map] at e
  exact e
/-- without the records of sagas that have ended -/
def dropE : Gs → List Rec → List Rec
  | [], rs => rs
  | (k, S) :: G, rs => dropE G (if 3 ≤ S.x.ph then rs.filter (fun r => !(r.x.s == k)) else rs)
def keepE (G : Gs) : Gs := G.filter fun p => decide (¬ 3 ≤ p.2.x.ph)
theorem own_not (j k : Int) (rs : List Rec) : own j (rs.filter (fun r => !(r.x.s == k))) = if j = k then [] else own j rs := by
  unfold own
  rw [List.filter_filter]
  by_cases hj : j = k
  · rw [if_pos hj, List.filter_eq_nil_iff]
    intro r _
    simp [hj]
  · rw [if_neg hj]
    refine List.filter_congr fun r _ => ?_
    by_cases hr : r.x.s = j
    · simp [hr, hj]
    · simp [hr]
/-- has the saga of that number ended? -/
def hasE (G : Gs) (j : Int) : Bool := G.any fun p => p.1 == j && decide (3 ≤ p.2.x.ph)
theorem hasE_iff (G : Gs) (j : Int) : hasE G j = true ↔ ∃ S, (j, S) ∈ G ∧ 3 ≤ S.x.ph := by
  unfold hasE
  rw [List.any_eq_true]
  constructor
  · rintro ⟨⟨k, S⟩, h1, h2⟩
    simp only [Bool.and_eq_true, beq_iff_eq, decide_eq_true_eq] at h2
    exact ⟨S, h2.1 ▸ h1, h2.2⟩
  · rintro ⟨S, h1, h2⟩
    exact ⟨(j, S), h1, by simp [h2]⟩
theorem own_dropE : ∀ (G : Gs) (rs : List Rec) (j : Int), own j (dropE G rs) = if hasE G j = true then [] else own j rs
  | [], rs, j => by
    rw [if_neg (by simp [hasE])]
    rfl
  | (k, S) :: G, rs, j => by
    rw [dropE, own_dropE G]
    have hc : hasE ((k, S) :: G) j = ((k == j && decide (3 ≤ S.x.ph)) || hasE G j) := rfl
    rw [hc]
    cases h1 : hasE G j with
    | true => simp
    | false =>
      by_cases h2 : 3 ≤ S.x.ph
      · rw [if_pos h2, own_not]
        by_cases hj : j = k
        · simp [hj, h2]
        · have : (k == j) = false := by simp; exact fun e => hj e.symm
          simp [hj, this]
      · simp [h2]
theorem mem_dropE : ∀ (G : Gs) (rs : List Rec) (r : Rec), r ∈ dropE G rs → r ∈ rs
  | [], _, _, h => h
  | (k, S) :: G, rs, r, h => by
    have := mem_dropE G _ r h
    split at this
    · exact mem_of_filter this
    · exact this
theorem get_keepE (G : Gs) (hr : Mv.rising G) (j : Int) : Mv.get (keepE G) j = if hasE G j = true then none else Mv.get G j := by
  have hk : Mv.rising (keepE G) := List.Pairwise.filter _ hr
  by_cases h1 : hasE G j = true
  · rw [if_pos h1]
    cases hg : Mv.get (keepE G) j with
    | none => rfl
    | some T =>
      have h2 := (Mv.get_mem hk).1 hg
      unfold keepE at h2
      rw [List.mem_filter] at h2
      obtain ⟨S, h3, h4⟩ := (hasE_iff G j).1 h1
      have h5 := (Mv.get_mem hr).2 h3
      rw [(Mv.get_mem hr).2 h2.1] at h5
      have := h2.2
      simp only [decide_eq_true_eq] at this
      rw [Option.some.inj h5] at this
      exact absurd h4 this
  · rw [if_neg h1]
    cases hg : Mv.get G j with
    | none =>
      cases hg2 : Mv.get (keepE G) j with
      | none => rfl
      | some T =>
        have h2 := (Mv.get_mem hk).1 hg2
        have h3 := (Mv.get_mem hr).2 (mem_of_filter h2)
        rw [hg] at h3
        cases h3
    | some S =>
      refine (Mv.get_mem hk).2 ?_
      unfold keepE
      rw [List.mem_filter]
      have h3 := (Mv.get_mem hr).1 hg
      exact ⟨h3, by simp only [decide_eq_true_eq]; exact fun h4 => h1 ((hasE_iff G j).2 ⟨S, h3, h4⟩)⟩
/-- replay behind compaction -/
theorem fold_ended {rs : List Rec} (hr : ∀ r ∈ rs, Rg r) (h : (fold [] rs).1 = rs.length) : (fold [] (dropE (fold [] rs).2 rs)).1 = (dropE (fold [] rs).2 rs).length ∧ (fold [] (dropE (fold [] rs).2 rs)).2 = keepE (fold [] rs).2 := by
  have hw := (Wf.fold rs Wf.nil hr).ris
  have h1 : (fold [] (dropE (fold [] rs).2 rs)).1 = (dropE (fold [] rs).2 rs).length := fold_legal _ [] fun k => by
    rw [own_dropE]
    split
    · rfl
    · rw [fold_one rs [] h k]
      rfl
  refine ⟨h1, Mv.ext (Wf.fold _ Wf.nil fun r hm => hr r (mem_dropE _ _ r hm)).ris (List.Pairwise.filter _ hw) fun j => ?_⟩
  have e1 := fold_one _ [] h1 j
  rw [own_dropE] at e1
  rw [get_keepE _ hw]
  split
  · rename_i h2
    rw [if_pos h2] at e1
    exact (Option.some.inj e1).symm
  · rename_i h2
    rw [if_neg h2, fold_one rs [] h j] at e1
    exact (Option.some.inj e1).symm
/-- records that do the same -/
theorem fold_map (f : Rec → Rec) (hs : ∀ r, Rg r → (f r).x.s = r.x.s) (hf : ∀ r o, Rg r → stp o (f r) = stp o r) : ∀ (rs : List Rec) (G : Gs), (∀ r ∈ rs, Rg r) → fold G (rs.map f) = fold G rs
  | [], _, _ => rfl
  | r :: rs, G, h => by
    have hr := h r (List.mem_cons_self ..)
    have e : step G (f r) = step G r := by
      unfold step
      rw [hs r hr, hf r _ hr]
    rw [List.map_cons, fold_cons, fold_cons, e, hs r hr, fold_map f hs hf rs _ fun q hq => h q (List.mem_cons_of_mem _ hq)]
def lft (t : Int) (r : Rec) : Rec := if (upP t r).1 = 0 then (upP t r).2 else r
theorem stp_up3 (r : Rec) (hr : Rg r) (h : (upP 3 r).1 = 0) (o : Option Sg) : stp o (upP 3 r).2 = stp o r := by
  obtain ⟨hv, h3, _, hs⟩ := up3 r hr.1 h
  have hu := up_v3 _ hv h3
  cases o with
  | none =>
    show beginP _ = beginP _
    unfold beginP
    rw [hu, h]
  | some S =>
    show applyP _ _ = applyP _ _
    unfold applyP
    rw [hu, h]
theorem up23 (r : Rec) (hr : Rg r) (h : (upP 2 r).1 = 0) : upP 3 (upP 2 r).2 = upP 3 r := by
  obtain ⟨q1, q2, q3, q4, q5⟩ := up_zero h
  obtain ⟨a1, a2, _, _, _⟩ := up_back r 2 hr.1 q1 q4 (by omega)
  have hv1 : 1 ≤ r.x.v := ((chk_exp r.x r.nm r.l).1 q1).1.1
  rw [q5, up_good a1 (by omega) (by omega) (by omega), up_good q1 (by omega) (by omega) (by omega)]
  obtain hv | hv : r.x.v = 1 ∨ r.x.v = 2 := by omega
  · rw [car12 r hv, car13 r hv, car23 _ (one_v r)]
  · rw [car22 r hv]
theorem stp_lft (t : Int) (ht : t = 2 ∨ t = 3) (r : Rec) (o : Option Sg) (hr : Rg r) : stp o (lft t r) = stp o r := by
  unfold lft
  split
  · rename_i h
    rcases ht with rfl | rfl
    · have e := up23 r hr h
      cases o with
      | none =>
        show beginP _ = beginP _
        unfold beginP
        rw [e]
      | some S =>
        show applyP _ _ = applyP _ _
        unfold applyP
        rw [e]
    · exact stp_up3 r hr h o
  · rfl
theorem lft_s (t : Int) (r : Rec) (hr : Rg r) : (lft t r).x.s = r.x.s := by
  unfold lft
  split
  · rename_i h
    obtain ⟨q1, q2, q3, q4, q5⟩ := up_zero h
    rw [q5]
    exact (up_back r t hr.1 q1 q4 q3).2.2.1
  · rfl
/-- replay of the lifted log -/
theorem fold_lft (t : Int) (ht : t = 2 ∨ t = 3) (rs : List Rec) (h : ∀ r ∈ rs, Rg r) : fold [] (rs.map (lft t)) = fold [] rs := fold_map (lft t) (lft_s t) (fun r o hr => stp_lft t ht r o hr) rs [] h
end Rp
end Go.Proofs.YtdnackjakfiffaaGreatDoor
