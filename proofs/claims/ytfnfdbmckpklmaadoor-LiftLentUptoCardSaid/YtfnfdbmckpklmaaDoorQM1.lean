import Derived.Test.YtfnfdbmckpklmaaDoorQA1
/-
  Rows of one and the same element: written over and lengthened.
-/
namespace Go.Proofs.YtfnfdbmckpklmaaDoor
open Go Go.RowKit
namespace Mg

/-- n times the same cells -/
def pat (cs : List Value) (n : Nat) : List Value := (List.replicate n cs).flatten
theorem pat_len (cs : List Value) (n : Nat) : (pat cs n).length = n * cs.length := by simp [pat]
theorem pat_succ (cs : List Value) (n : Nat) : pat cs (n + 1) = cs ++ pat cs n := by simp [pat, List.replicate_succ]
theorem pat_add (cs : List Value) (n k : Nat) : pat cs n ++ pat cs k = pat cs (n + k) := by
  unfold pat
  rw [← List.flatten_append, List.replicate_append_replicate]
theorem pat_get (cs : List Value) : ∀ (n p : Nat), p < n * cs.length → (pat cs n)[p]? = cs[p % cs.length]?
  | 0, p, h => by omega
  | n + 1, p, h => by
    rw [pat_succ]
    by_cases h1 : p < cs.length
    · rw [List.getElem?_append_left h1, Nat.mod_eq_of_lt h1]
    · rw [List.getElem?_append_right (by omega), pat_get cs n (p - cs.length) (by rw [Nat.add_mul] at h; omega), ← Nat.mod_eq_sub_mod (by omega)]
theorem pat_one (cs : List Value) (h : ∀ u ∈ cs, u.oneCell' = true) (n : Nat) : ∀ u ∈ pat cs n, u.oneCell' = true := fun u hu => by
  unfold pat at hu
  rw [List.mem_flatten] at hu
  obtain ⟨l, hl, hu⟩ := hu
  rw [List.mem_replicate] at hl
  exact h u (hl.2 ▸ hu)
theorem row_block {B : Nat} {w w' : World} {t : TypeId} {s n : Nat} {v : Value} {xs : List Value} (h : w.ownsRow B t s v n xs) (hg : ∀ g, v.ownBlock = some g → w'.heap[g]? = w.heap[g]?) : w'.ownsRow B t s v n xs := by
  refine ⟨h.1, ?_⟩
  rcases h.2 with h1 | ⟨g, cap, cur, e, hb, hh, rest⟩
  · exact .inl h1
  · exact .inr ⟨g, cap, cur, e, hb, (hg g (by rw [e]; rfl)).trans hh, rest⟩
theorem row_kept {B : Nat} {w w' : World} {t : TypeId} {s n : Nat} {v : Value} {xs : List Value} (h : w.ownsRow B t s v n xs) (hb : Below w.heap.size w w') : w'.ownsRow B t s v n xs := row_block h fun g hg => hb.block g (World.ownsRow.lt h g hg).2
theorem row_type {B : Nat} {w : World} {t : TypeId} {s n : Nat} {v : Value} {xs : List Value} (h : w.ownsRow B t s v n xs) (g : Nat) (hg : v.ownBlock = some g) : ∃ cur, w.heap[g]? = some (.cells cur t) := by
  rcases h.2 with ⟨rfl, _⟩ | ⟨g1, cap, cur, rfl, _, hh, _⟩
  · cases hg
  · obtain rfl : g1 = g := by simpa [Value.ownBlock] using hg
    exact ⟨cur, hh⟩
/-- two rows of unlike kinds have unlike blocks -/
theorem kinds_apart {B B' : Nat} {w : World} {t t' : TypeId} {s s' n n' : Nat} {v v' : Value} {xs xs' : List Value} (h : w.ownsRow B t s v n xs) (h' : w.ownsRow B' t' s' v' n' xs') (ht : t ≠ t') (g : Nat) (hg : v.ownBlock = some g) : v'.ownBlock ≠ some g := fun hg' => by
  obtain ⟨c, hc⟩ := row_type h g hg
  obtain ⟨c', hc'⟩ := row_type h' g hg'
  rw [hc] at hc'
  simp at hc'
  exact ht hc'.2
/-- a row is left alone by what changes another block -/
theorem row_other {B : Nat} {w w' : World} {t : TypeId} {s n : Nat} {v : Value} {xs : List Value} {row : Option Nat} (h : w.ownsRow B t s v n xs) (k : w.grownBy w' row) (hne : ∀ g, v.ownBlock = some g → row ≠ some g) : w'.ownsRow B t s v n xs :=
  row_block h fun g hg => k.block g (World.ownsRow.lt h g hg).2 fun e => hne g hg e.symm
theorem row_shape {B : Nat} {w : World} {t : TypeId} {s n : Nat} {v : Value} {xs : List Value} (h : w.ownsRow B t s v n xs) : ∃ a, ∃ c : Nat, v = .slice a n c ∧ n ≤ c ∧ c ≤ maxLen := by
  rcases h.2 with ⟨rfl, rfl⟩ | ⟨g, cap, cur, rfl, _, _, h1, h2, _⟩
  · exact ⟨none, 0, rfl, Nat.le_refl _, Nat.zero_le _⟩
  · exact ⟨_, _, rfl, h1, h2⟩
/-- n times the same element in a row -/
def Mk (e : TypeId) (cs : List Value) (B : Nat) (w : World) (v : Value) (n : Nat) : Prop := w.ownsRow B e cs.length v n (pat cs n)
/-- the first k places written over -/
def fil (cs : List Value) (xs : List Value) (k : Nat) : List Value := pat cs k ++ xs.drop (k * cs.length)
theorem fil_zero (cs xs : List Value) : fil cs xs 0 = xs := by simp [fil, pat]
theorem fil_end (cs xs : List Value) (n : Nat) (h : xs.length = n * cs.length) : fil cs xs n = pat cs n := by
  unfold fil
  rw [← h, List.drop_length, List.append_nil]
theorem fil_len (cs xs : List Value) (n k : Nat) (h : xs.length = n * cs.length) (hk : k ≤ n) : (fil cs xs k).length = n * cs.length := by
  unfold fil
  rw [List.length_append, pat_len, List.length_drop, h]
  have := Nat.mul_le_mul_right cs.length hk
  omega
theorem owns_setCells {B : Nat} {e : TypeId} {s n cap g : Nat} : ∀ (vs : List Value) (o : Nat) (w : World) (xs : List Value), w.ownsRow B e s (.slice (some ⟨g, 0, none⟩) n cap) n xs → o + vs.length ≤ xs.length →
    (w.setCells g o vs).ownsRow B e s (.slice (some ⟨g, 0, none⟩) n cap) n (xs.take o ++ vs ++ xs.drop (o + vs.length)) ∧ w.grownBy (w.setCells g o vs) (some g)
  | [], o, w, xs, h, _ => by
    refine ⟨?_, World.grownBy.refl _ _⟩
    show w.ownsRow _ _ _ _ _ _
    rw [List.append_nil, List.length_nil, Nat.add_zero, List.take_append_drop]
    exact h
  | v :: r, o, w, xs, h, hl => by
    have s1 := World.ownsRow.stored h o v
    rw [List.length_cons] at hl
    obtain ⟨h2, g2⟩ := owns_setCells r (o + 1) _ _ s1.1 (by rw [List.length_set]; omega)
    refine ⟨?_, ⟨g2.os.trans s1.2.os, g2.tape.trans s1.2.tape, g2.output.trans s1.2.output, Nat.le_trans s1.2.size g2.size, fun q hq hn => (g2.block q (Nat.lt_of_lt_of_le hq s1.2.size) hn).trans (s1.2.block q hq hn)⟩⟩
    show ((w.setCell ⟨g, o, none⟩ v).setCells g (o + 1) r).ownsRow _ _ _ _ _ _
    have e1 : (xs.set o v).take (o + 1) = xs.take o ++ [v] := by
      rw [List.take_succ_eq_append_getElem (by rw [List.length_set]; omega), List.getElem_set_self, List.take_set_of_le (Nat.le_refl _)]
    have e2 : (xs.set o v).drop (o + 1 + r.length) = xs.drop (o + (r.length + 1)) := by
      rw [List.drop_set_of_lt (by omega), show o + 1 + r.length = o + (r.length + 1) by omega]
    rw [e1, e2] at h2
    rw [List.length_cons]
    simpa using h2
theorem fill_step {B : Nat} {w : World} {e : TypeId} {cs xs : List Value} {a : Option Addr} {n cap k : Nat} (hcs : 0 < cs.length) (hx : xs.length = n * cs.length) (h : w.ownsRow B e cs.length (.slice a n cap) n (fil cs xs k)) (hk : k < n) :
    ∃ g, a = some ⟨g, 0, none⟩ ∧ w.there g (k * cs.length) cs.length ∧ (w.setCells g (k * cs.length) cs).ownsRow B e cs.length (.slice a n cap) n (fil cs xs (k + 1)) ∧ w.grownBy (w.setCells g (k * cs.length) cs) (some g) ∧ B ≤ g := by
  have hl := fil_len cs xs n k hx (by omega)
  have hkn : k * cs.length + cs.length ≤ n * cs.length := by
    have := Nat.mul_le_mul_right cs.length (show k + 1 ≤ n by omega)
    rw [Nat.add_mul, Nat.one_mul] at this
    exact this
  rcases h.2 with ⟨_, h0⟩ | ⟨g, cap', cur, e', hBg, hg, hnc, hcm, hcs', htk⟩
  · omega
  · simp only [Value.slice.injEq, true_and] at e'
    obtain ⟨rfl, rfl⟩ := e'
    obtain ⟨h2, g2⟩ := owns_setCells cs (k * cs.length) w _ h (by omega)
    refine ⟨g, rfl, fun j hj => ?_, ?_, g2, hBg⟩
    · refine ⟨?_, World.ownsRow.frozenAt h (k * cs.length + j)⟩
      have hc := h.cellAt (k * cs.length + j) (by omega)
      rw [hc, List.getElem?_eq_getElem (by omega)]
      rfl
    · have e3 : (fil cs xs k).take (k * cs.length) ++ cs ++ (fil cs xs k).drop (k * cs.length + cs.length) = fil cs xs (k + 1) := by
        unfold fil
        rw [List.take_append_of_le_length (by rw [pat_len]; exact Nat.le_refl _), List.take_of_length_le (by rw [pat_len]; exact Nat.le_refl _), ← pat_add, List.drop_append, List.drop_of_length_le (by rw [pat_len]; omega), pat_len, List.nil_append, List.drop_drop, show k * cs.length + (k * cs.length + cs.length - k * cs.length) = (k + 1) * cs.length by rw [Nat.add_mul]; omega]
        simp [pat]
      rw [e3] at h2
      exact h2
/-- append of m more onto n: what it makes, and that every view of the same stays -/
theorem append_mk {P : Program} (w : World) (B : Nat) (e t ty : TypeId) (cs : List Value) (z : Value) (by_ : Nat) (hcs : 0 < cs.length) (hone : ∀ u ∈ cs, u.oneCell' = true) (hinfo : (P.info? e).map (fun i => (i.zero, i.size, i.bytes)) = some (some z, cs.length, by_)) (hz : z.cells.size = cs.length) (ht : P.underlying t = some (.slice e))
    (v : Value) (k m : Nat) (h : Mk e cs B w v k) (gx cx : Nat) (hx : ∀ (j : Nat) (u : Value), (pat cs m)[j]? = some u → w.cell? ⟨gx, j, none⟩ = some u) (hmx : k + m ≤ 100000000) (hmax : (k + m) * by_ ≤ 140737488355328) (hB : B ≤ w.heap.size) :
    ∃ v' w', (Builtin.append_ #[t, t] ty #[v, .slice (some ⟨gx, 0, none⟩) m cx]).run P w = .ok v' w' ∧ Mk e cs B w' v' (k + m) ∧ w.grownBy w' v.ownBlock ∧ (v'.ownBlock = v.ownBlock ∨ v'.ownBlock = some w.heap.size) ∧
      ∀ (u : Value) (k' : Nat), Mk e cs B w u k' → Mk e cs B w' u k' := by
  obtain ⟨i0, hi, hz0, hz1, hz2⟩ := Lft.info_parts3 hinfo
  have hnews : ∀ j u, (pat cs m)[j]? = some u → w.cell? ((⟨gx, 0, none⟩ : Addr).add j) = some u := fun j u hj => by
    rw [Addr.add_lit, Nat.zero_add]
    exact hx j u hj
  obtain ⟨v', w', hr, h2, h3, _, h5⟩ := run_append_own_at (P := P) w B t ty e i0 z cs.length by_ ht hi hz0 hz1 hz2 hz hcs v k (pat cs k) h ⟨gx, 0, none⟩ m cx (pat cs m) (pat_len cs m) hnews (pat_one cs hone m) (by unfold maxLen; omega) hmax hB
  rw [pat_add] at h2
  refine ⟨v', w', hr, h2, h3, h5, fun u k' hu => ?_⟩
  by_cases hub : u.ownBlock = v.ownBlock
  · rcases hu.2 with ⟨rfl, h0⟩ | ⟨g, cap, cur, rfl, hbg, hg, hnc, hcm, hcs1, htk⟩
    · exact ⟨hu.1, .inl ⟨rfl, h0⟩⟩
    · rcases h.2 with ⟨rfl, _⟩ | ⟨g', cap', cur', rfl, hbg', hg', hnc', hcm', hcs', htk'⟩
      · cases hub
      · obtain rfl : g = g' := by simpa [Value.ownBlock] using hub
        obtain rfl : cur = cur' := by
          have := hg.symm.trans hg'
          simpa using this
        have hcc : cap = cap' := by
          have h9 : cap * cs.length = cap' * cs.length := by rw [← hcs1, ← hcs']
          exact Nat.eq_of_mul_eq_mul_right hcs h9
        subst hcc
        by_cases hroom : k + m ≤ cap
        · have hfl : (k + m) * cs.length ≤ cap * cs.length := Nat.mul_le_mul_right _ hroom
          have hfl2 : (k + m) * cs.length = k * cs.length + m * cs.length := Nat.add_mul _ _ _
          have hfit : k * i0.size + (pat cs m).length ≤ cur.size := by rw [hz1, pat_len, hcs1]; omega
          have hr2 := run_append_room (P := P) w t ty e i0 ht hi g k cap cur hg ⟨gx, 0, none⟩ m cx (pat cs m) (by rw [hz1, pat_len]) hnews (pat_one cs hone m) hroom hfit
          rw [hr2] at hr
          injection hr with e1 e2
          subst e1 e2
          refine ⟨hu.1, .inr ⟨g, cap, _, rfl, hbg, setRow_heap w g cur _ e _ hg, hnc, hcm, ?_, ?_⟩⟩
          · simp only [List.size_toArray, List.length_append, List.length_take, List.length_drop, Array.length_toList, hz1, pat_len]
            omega
          · rw [← htk, hz1, pat_len]
            have hcp : ∀ p, p < k' * cs.length → cur.toList[p]? = cs[p % cs.length]? := fun p hp => by
              have h9 : (cur.toList.take (k' * cs.length))[p]? = (pat cs k')[p]? := by rw [htk]
              rw [List.getElem?_take_of_lt hp] at h9
              rw [h9, pat_get cs k' p hp]
            have hcl : cur.toList.length = cur.size := Array.length_toList
            refine List.ext_getElem? fun p => ?_
            by_cases hp : p < k' * cs.length
            · rw [List.getElem?_take_of_lt hp, List.getElem?_take_of_lt hp]
              by_cases h1 : p < k * cs.length
              · rw [List.append_assoc, List.getElem?_append_left (by rw [List.length_take, hcl]; omega), List.getElem?_take_of_lt h1]
              · have htl : (cur.toList.take (k * cs.length)).length = k * cs.length := by rw [List.length_take, hcl]; omega
                by_cases h2 : p < (k + m) * cs.length
                · rw [List.append_assoc, List.getElem?_append_right (by omega), htl, List.getElem?_append_left (by rw [pat_len]; omega), pat_get cs m (p - k * cs.length) (by omega), hcp p hp]
                  congr 1
                  have e9 : p = (p - k * cs.length) + cs.length * k := by rw [Nat.mul_comm cs.length k]; omega
                  conv => rhs; rw [e9]
                  rw [Nat.add_mul_mod_self_left]
                · rw [List.append_assoc, List.getElem?_append_right (by omega), htl, List.getElem?_append_right (by rw [pat_len]; omega), pat_len, List.getElem?_drop]
                  congr 1
                  omega
            · rw [List.getElem?_eq_none (by rw [List.length_take]; omega), List.getElem?_eq_none (by rw [List.length_take]; omega)]
        · have holds : ∀ j u, (pat cs k)[j]? = some u → w.cell? ((⟨g, 0, none⟩ : Addr).add j) = some u := World.ownsRow.cells h (g := g) rfl
          have hr2 := run_append_grow (P := P) w t ty e i0 _ ht hi hz0 ⟨g, 0, none⟩ k cap (pat cs k) (by rw [hz1, pat_len]) holds ⟨gx, 0, none⟩ m cx (pat cs m) (by rw [hz1, pat_len]) hnews (by omega) (by omega) (growslice_fits (by omega) (by rw [hz2]; exact hmax))
          rw [hr2] at hr
          injection hr with e1 e2
          subst e1 e2
          refine ⟨hu.1, .inr ⟨g, cap, cur, rfl, hbg, ?_, hnc, hcm, hcs1, htk⟩⟩
          rw [← hg]
          exact (Below.refl w.drew.heap.size w.drew).alloc (Nat.le_refl _) _ |>.block g (Array.getElem?_eq_some_iff.1 hg).1
  · exact row_other hu h3 fun g hg e => hub (hg.trans e.symm)
theorem wpList_append_mk {P : Program} (w : World) {ops : Array Oper} {rest : List Oper} {o : Oper} {a : Act} {Q : Exit → Act → World → Prop} (hgd : o.guard = none) (s x : Operand) (e t : TypeId)
    (ho : o.op = .call { callee := .builtin .append, args := #[s, x], argTypes := #[t, t] })
    (B : Nat) (cs : List Value) (z : Value) (by_ : Nat) (hcs : 0 < cs.length) (hone : ∀ u ∈ cs, u.oneCell' = true) (hinfo : (P.info? e).map (fun i => (i.zero, i.size, i.bytes)) = some (some z, cs.length, by_)) (hz : z.cells.size = cs.length) (ht : P.underlying t = some (.slice e))
    (v : Value) (k m : Nat) (hv : a.eval s = v) (h : Mk e cs B w v k) (gx cx : Nat) (hxe : a.eval x = .slice (some ⟨gx, 0, none⟩) m cx) (hx : ∀ (j : Nat) (u : Value), (pat cs m)[j]? = some u → w.cell? ⟨gx, j, none⟩ = some u) (hmx : k + m ≤ 100000000) (hmax : (k + m) * by_ ≤ 140737488355328) (hB : B ≤ w.heap.size)
    (hK : ∀ v' w', Mk e cs B w' v' (k + m) → w.grownBy w' v.ownBlock → (v'.ownBlock = v.ownBlock ∨ v'.ownBlock = some w.heap.size) → (∀ (u : Value) (k' : Nat), Mk e cs B w u k' → Mk e cs B w' u k') → wpList P ops Q rest (a.put o.dst v') w') : wpList P ops Q (o :: rest) a w := by
  obtain ⟨v', w', hr, h1, h2, h3, h4⟩ := append_mk (P := P) w B e t o.type cs z by_ hcs hone hinfo hz ht v k m h gx cx hx hmx hmax hB
  refine wpList_plain hgd fun _ hK' => ?_
  unfold Oper.wp
  simp [execOp, ho, resolve, invoke, builtin, hv, hxe, hr, Result.andThen]
  exact hK' _ _ (hK v' w' h1 h2 h3 h4)
end Mg
end Go.Proofs.YtfnfdbmckpklmaaDoor

/-
  Families of rows: lists that lie apart, written over and lengthened one by one.
-/
namespace Go.Proofs.YtfnfdbmckpklmaaDoor
open Go Go.RowKit
namespace Mg

/-- the j-th list is a row of so many elements, with these cells -/
def Fam (B : Nat) (w : World) (e : TypeId) (s : Nat) (n : Nat → Nat) (L : List Value) (X : Nat → List Value) : Prop := ∀ (j : Nat) (v : Value), L[j]? = some v → w.ownsRow B e s v (n j) (X j)
/-- no two of them share a block -/
def Apt (L : List Value) : Prop := ∀ (i j : Nat) (u v : Value), L[i]? = some u → L[j]? = some v → i ≠ j → ∀ g, u.ownBlock = some g → v.ownBlock ≠ some g
section
variable {B : Nat} {w w' : World} {e : TypeId} {s : Nat} {n : Nat → Nat} {L : List Value} {X : Nat → List Value}
theorem Fam.block (h : Fam B w e s n L X) (hb : ∀ v ∈ L, ∀ g, v.ownBlock = some g → w'.heap[g]? = w.heap[g]?) : Fam B w' e s n L X := fun j v hj => row_block (h j v hj) (hb v (List.mem_of_getElem? hj))
theorem Fam.lt (h : Fam B w e s n L X) (v : Value) (hv : v ∈ L) (g : Nat) (hg : v.ownBlock = some g) : B ≤ g ∧ g < w.heap.size := by
  obtain ⟨j, hj⟩ := List.getElem?_of_mem hv
  exact World.ownsRow.lt (h j v hj) g hg
theorem Fam.kept (h : Fam B w e s n L X) (hb : Below w.heap.size w w') : Fam B w' e s n L X := h.block fun v hv g hg => hb.block g (h.lt v hv g hg).2
theorem Fam.other {row : Option Nat} (h : Fam B w e s n L X) (k : w.grownBy w' row) (hne : ∀ v ∈ L, ∀ g, v.ownBlock = some g → row ≠ some g) : Fam B w' e s n L X := h.block fun v hv g hg => k.block g (h.lt v hv g hg).2 fun e' => hne v hv g hg e'.symm
/-- a row of another kind changes -/
theorem Fam.kind {e' : TypeId} {s' m B' : Nat} {u : Value} {ys : List Value} (h : Fam B w e s n L X) (hu : w.ownsRow B' e' s' u m ys) (ht : e ≠ e') (k : w.grownBy w' u.ownBlock) : Fam B w' e s n L X := h.other k fun v hv g hg => by
  obtain ⟨j, hj⟩ := List.getElem?_of_mem hv
  exact kinds_apart (h j v hj) hu ht g hg
/-- the i-th row is written -/
theorem Fam.put (h : Fam B w e s n L X) (ha : Apt L) (i : Nat) (v : Value) (hi : L[i]? = some v) (k : w.grownBy w' v.ownBlock) (ys : List Value) (hy : w'.ownsRow B e s v (n i) ys) : Fam B w' e s n L (fun j => if j = i then ys else X j) := fun j u hj => by
  by_cases hij : j = i
  · subst hij
    rw [hi] at hj
    obtain rfl := Option.some.inj hj
    simp only [if_true]
    exact hy
  · simp only [if_neg hij]
    exact row_other (h j u hj) k fun g hg => ha j i u v hj hi hij g hg
theorem Fam.snoc (h : Fam B w e s n L X) (v : Value) (ys : List Value) (hv : w.ownsRow B e s v (n L.length) ys) (hX : X L.length = ys) : Fam B w e s n (L ++ [v]) X := fun j u hj => by
  by_cases hlt : j < L.length
  · rw [List.getElem?_append_left hlt] at hj
    exact h j u hj
  · rw [List.getElem?_append_right (by omega)] at hj
    have hj0 : j - L.length = 0 := by
      have := (List.getElem?_eq_some_iff.1 hj).1
      simp at this
      omega
    rw [hj0] at hj
    obtain rfl : v = u := by simpa using hj
    obtain rfl : j = L.length := by omega
    rw [hX]
    exact hv
theorem Apt.snoc (h : Apt L) (v : Value) (hv : ∀ u ∈ L, ∀ g, u.ownBlock = some g → v.ownBlock ≠ some g) : Apt (L ++ [v]) := fun i j a b hi hj hij g ha hb => by
  have get : ∀ (i : Nat) (a : Value), (L ++ [v])[i]? = some a → L[i]? = some a ∨ (i = L.length ∧ a = v) := fun i a hi => by
    by_cases hlt : i < L.length
    · rw [List.getElem?_append_left hlt] at hi
      exact .inl hi
    · rw [List.getElem?_append_right (by omega)] at hi
      have h0 : i - L.length = 0 := by
        have := (List.getElem?_eq_some_iff.1 hi).1
        simp at this
        omega
      rw [h0] at hi
      refine .inr ⟨by omega, ?_⟩
      simpa using hi.symm
  rcases get i a hi with h1 | ⟨h1, rfl⟩
  · rcases get j b hj with h2 | ⟨h2, rfl⟩
    · exact h i j a b h1 h2 hij g ha hb
    · exact hv a (List.mem_of_getElem? h1) g ha hb
  · rcases get j b hj with h2 | ⟨h2, rfl⟩
    · exact hv b (List.mem_of_getElem? h2) g hb ha
    · omega
theorem Apt.nil : Apt [] := fun i j u v hi => by simp at hi
theorem Fam.nil : Fam B w e s n [] X := fun j v hj => by simp at hj
theorem Fam.weak {B' : Nat} (h : Fam B w e s n L X) (hB : B' ≤ B) : Fam B' w e s n L X := fun j v hj => by
  have h1 := h j v hj
  refine ⟨h1.1, ?_⟩
  rcases h1.2 with h2 | ⟨g, cap, cur, e', hb, rest⟩
  · exact .inl h2
  · exact .inr ⟨g, cap, cur, e', Nat.le_trans hB hb, rest⟩
end
theorem row_weak {B B' : Nat} {w : World} {t : TypeId} {s n : Nat} {v : Value} {xs : List Value} (h : w.ownsRow B t s v n xs) (hB : B' ≤ B) : w.ownsRow B' t s v n xs := by
  refine ⟨h.1, ?_⟩
  rcases h.2 with h1 | ⟨g, cap, cur, e, hb, rest⟩
  · exact .inl h1
  · exact .inr ⟨g, cap, cur, e, Nat.le_trans hB hb, rest⟩
/-- lists and their longer ones: the lists hold the j-th mark alone, so do the longer ones, which lie with their own list or in new blocks -/
structure Lng (B : Nat) (H0 : Nat) (w : World) (e : TypeId) (cs : Nat → List Value) (n m : Nat) (L G : List Value) : Prop where
  low : H0 ≤ w.heap.size
  base : B ≤ H0
  old : ∀ v ∈ L, ∀ g, v.ownBlock = some g → g < H0
  apt : Apt L
  l : ∀ (j : Nat) (v : Value), L[j]? = some v → Mk e (cs j) B w v n
  g : ∀ (j : Nat) (v : Value), G[j]? = some v → Mk e (cs j) B w v (n + m)
  at_ : ∀ (j : Nat) (u v : Value), L[j]? = some u → G[j]? = some v → ∀ q, v.ownBlock = some q → u.ownBlock = some q ∨ H0 ≤ q
/-- one of them under way -/
structure Und (B : Nat) (H0 H1 : Nat) (w : World) (e : TypeId) (cs : Nat → List Value) (n m : Nat) (L G : List Value) (i : Nat) (v c : Value) (k : Nat) : Prop where
  lng : Lng B H0 w e cs n m L G
  h1 : H0 ≤ H1 ∧ H1 ≤ w.heap.size
  few : G.length = i
  old : ∀ u ∈ G, ∀ g, u.ownBlock = some g → g < H1
  iv : L[i]? = some v
  cur : Mk e (cs i) B w c (n + k)
  at_ : ∀ q, c.ownBlock = some q → v.ownBlock = some q ∨ H1 ≤ q
section
variable {B H0 H1 : Nat} {w w' : World} {e : TypeId} {cs : Nat → List Value} {n m : Nat} {L G : List Value}
theorem Lng.kept (h : Lng B H0 w e cs n m L G) (hb : Below w.heap.size w w') : Lng B H0 w' e cs n m L G :=
  ⟨Nat.le_trans h.low hb.size, h.base, h.old, h.apt, fun j v hj => row_kept (h.l j v hj) hb, fun j v hj => row_kept (h.g j v hj) hb, h.at_⟩
theorem Und.kept {i k : Nat} {v c : Value} (h : Und B H0 H1 w e cs n m L G i v c k) (hb : Below w.heap.size w w') : Und B H0 H1 w' e cs n m L G i v c k :=
  ⟨h.lng.kept hb, ⟨h.h1.1, Nat.le_trans h.h1.2 hb.size⟩, h.few, h.old, h.iv, row_kept h.cur hb, h.at_⟩
theorem Und.begin (h : Lng B H0 w e cs n m L G) (v : Value) (hv : L[G.length]? = some v) (hG : ∀ u ∈ G, ∀ g, u.ownBlock = some g → g < w.heap.size) : Und B H0 w.heap.size w e cs n m L G G.length v v 0 :=
  ⟨h, ⟨h.low, Nat.le_refl _⟩, rfl, hG, hv, h.l _ v hv, fun _ hq => .inl hq⟩
theorem Lng.glt (h : Lng B H0 w e cs n m L G) (u : Value) (hu : u ∈ G) (g : Nat) (hg : u.ownBlock = some g) : g < w.heap.size := by
  obtain ⟨j, hj⟩ := List.getElem?_of_mem hu
  exact (World.ownsRow.lt (h.g j u hj) g hg).2
/-- one more element -/
theorem Und.step {i k : Nat} {v c c' : Value} (h : Und B H0 H1 w e cs n m L G i v c k) (hL : G.length ≤ L.length) (k1 : w.grownBy w' c.ownBlock) (hc : Mk e (cs i) B w' c' (n + k + 1)) (hat : c'.ownBlock = c.ownBlock ∨ c'.ownBlock = some w.heap.size)
    (hkeep : ∀ (u : Value) (k' : Nat), Mk e (cs i) B w u k' → Mk e (cs i) B w' u k') : Und B H0 H1 w' e cs n m L G i v c' (k + 1) := by
  have hvo : ∀ g, v.ownBlock = some g → g < H0 := h.lng.old v (List.mem_of_getElem? h.iv)
  have hh := h.h1
  refine ⟨⟨Nat.le_trans h.lng.low k1.size, h.lng.base, h.lng.old, h.lng.apt, fun j u hj => ?_, fun j u hj => ?_, h.lng.at_⟩, ⟨hh.1, Nat.le_trans hh.2 k1.size⟩, h.few, h.old, h.iv, hc, fun q hq => ?_⟩
  · by_cases hij : j = i
    · subst hij
      exact hkeep u n (h.lng.l j u hj)
    · refine row_other (h.lng.l j u hj) k1 fun g hg e' => ?_
      rcases h.at_ g e' with h1 | h1
      · exact h.lng.apt j i u v hj h.iv hij g hg h1
      · have := h.lng.old u (List.mem_of_getElem? hj) g hg
        omega
  · refine row_other (h.lng.g j u hj) k1 fun g hg e' => ?_
    have hjl : j < G.length := (List.getElem?_eq_some_iff.1 hj).1
    have hjL : j < L.length := by omega
    have hgo := h.old u (List.mem_of_getElem? hj) g hg
    rcases h.at_ g e' with h1 | h1
    · rcases h.lng.at_ j L[j] u (List.getElem?_eq_getElem hjL) hj g hg with h2 | h2
      · exact h.lng.apt j i L[j] v (List.getElem?_eq_getElem hjL) h.iv (by have := h.few; omega) g h2 h1
      · have := hvo g h1
        omega
    · omega
  · rcases hat with h1 | h1
    · exact h.at_ q (by rw [← h1]; exact hq)
    · rw [h1] at hq
      have := Option.some.inj hq
      exact .inr (by omega)
/-- it is taken up -/
theorem Und.done {i : Nat} {v c : Value} (h : Und B H0 H1 w e cs n m L G i v c m) : Lng B H0 w e cs n m L (G ++ [c]) := by
  have get : ∀ (j : Nat) (a : Value), (G ++ [c])[j]? = some a → G[j]? = some a ∨ (j = i ∧ a = c) := fun j a hj => by
    have hf := h.few
    by_cases hlt : j < G.length
    · rw [List.getElem?_append_left hlt] at hj
      exact .inl hj
    · rw [List.getElem?_append_right (by omega)] at hj
      have h0 : j - G.length = 0 := by
        have := (List.getElem?_eq_some_iff.1 hj).1
        simp at this
        omega
      rw [h0] at hj
      refine .inr ⟨by omega, ?_⟩
      simpa using hj.symm
  refine ⟨h.lng.low, h.lng.base, h.lng.old, h.lng.apt, h.lng.l, fun j a hj => ?_, fun j u a hu hj q hq => ?_⟩
  · rcases get j a hj with h1 | ⟨rfl, rfl⟩
    · exact h.lng.g j a h1
    · exact h.cur
  · rcases get j a hj with h1 | ⟨rfl, rfl⟩
    · exact h.lng.at_ j u a hu h1 q hq
    · rw [h.iv] at hu
      obtain rfl := Option.some.inj hu
      rcases h.at_ q hq with h2 | h2
      · exact .inl h2
      · have := h.h1
        exact .inr (by omega)
/-- a row of another kind changes -/
theorem Lng.kind {e' : TypeId} {s' k B' : Nat} {u : Value} {ys : List Value} (h : Lng B H0 w e cs n m L G) (hu : w.ownsRow B' e' s' u k ys) (ht : e ≠ e') (kk : w.grownBy w' u.ownBlock) : Lng B H0 w' e cs n m L G :=
  ⟨Nat.le_trans h.low kk.size, h.base, h.old, h.apt, fun j v hj => row_other (h.l j v hj) kk (kinds_apart (h.l j v hj) hu ht), fun j v hj => row_other (h.g j v hj) kk (kinds_apart (h.g j v hj) hu ht), h.at_⟩
end
end Mg
end Go.Proofs.YtfnfdbmckpklmaaDoor

/-
  One more value behind a row.
-/
namespace Go.Proofs.YtfnfdbmckpklmaaDoor
open Go Go.RowKit
namespace Mg

theorem append_row {P : Program} (w : World) (B : Nat) (e t ty : TypeId) (z : Value) (by_ : Nat) (hinfo : (P.info? e).map (fun i => (i.zero, i.size, i.bytes)) = some (some z, 1, by_)) (hz : z.cells.size = 1) (hby : by_ ≤ 24) (ht : P.underlying t = some (.slice e))
    (v : Value) (n : Nat) (xs : List Value) (h : w.ownsRow B e 1 v n xs) (g : Nat) (u : Value) (hc : w.cell? ⟨g, 0, none⟩ = some u) (hone : u.oneCell' = true) (hmax : n ≤ 1000) (hB : B ≤ w.heap.size) :
    ∃ v' w', (Builtin.append_ #[t, t] ty #[v, .slice (some ⟨g, 0, none⟩) 1 1]).run P w = .ok v' w' ∧ w'.ownsRow B e 1 v' (n + 1) (xs ++ [u]) ∧ w.grownBy w' v.ownBlock ∧ (v'.ownBlock = v.ownBlock ∨ v'.ownBlock = some w.heap.size) := by
  obtain ⟨i0, hi, hz0, hz1, hz2⟩ := Lft.info_parts3 hinfo
  have hbb : (n + 1) * by_ ≤ 24024 := Nat.mul_le_mul (show n + 1 ≤ 1001 by omega) hby
  obtain ⟨v', w', hr, h2, h3, _, h5⟩ := run_append_own_at (P := P) w B t ty e i0 z 1 by_ ht hi hz0 hz1 hz2 hz (by decide) v n xs h ⟨g, 0, none⟩ 1 1 [u] rfl (fun j x hj => by
    match j, hj with
    | 0, hj =>
      obtain rfl : u = x := by simpa using hj
      rw [Addr.add_lit]
      exact hc) (fun x hx => by rw [List.mem_singleton.1 hx]; exact hone) (by unfold maxLen; omega) (by omega) hB
  exact ⟨v', w', hr, h2, h3, h5⟩
theorem step_append_row {P : Program} {ops : Array Oper} {o : Oper} {a : Act} {w : World} {K : Act → World → Prop} {Q : Exit → Act → World → Prop} {E : Prop} (hgd : o.guard = none) (dst : Option Tmp) (hdst : o.dst = dst) (s x : Operand) (e t : TypeId)
    (ho : o.op = .call { callee := .builtin .append, args := #[s, x], argTypes := #[t, t] })
    (B : Nat) (z : Value) (by_ : Nat) (hinfo : (P.info? e).map (fun i => (i.zero, i.size, i.bytes)) = some (some z, 1, by_)) (hz : z.cells.size = 1) (hby : by_ ≤ 24) (ht : P.underlying t = some (.slice e))
    (v : Value) (n : Nat) (xs : List Value) (hv : a.eval s = v) (h : w.ownsRow B e 1 v n xs) (g : Nat) (u : Value) (hxe : a.eval x = .slice (some ⟨g, 0, none⟩) 1 1) (hc : w.cell? ⟨g, 0, none⟩ = some u) (hone : u.oneCell' = true) (hmax : n ≤ 1000) (hB : B ≤ w.heap.size)
    (hK : ∀ v' w', w'.ownsRow B e 1 v' (n + 1) (xs ++ [u]) → w.grownBy w' v.ownBlock → K (a.put dst v') w') :
    if Region.wanted o (yielded ops a.tmps) = true then Oper.wp P o a w K Q else E := by
  have hw : Region.wanted o (yielded ops a.tmps) = true := by simp [Region.wanted, hgd]
  rw [if_pos hw]
  subst hdst
  obtain ⟨v', w', hr, h1, h2, -⟩ := append_row (P := P) w B e t o.type z by_ hinfo hz hby ht v n xs h g u hc hone hmax hB
  unfold Oper.wp
  simp [execOp, ho, resolve, invoke, builtin, hv, hxe, hr, Result.andThen]
  exact hK v' w' h1 h2
theorem wpList_append_row {P : Program} (w : World) {ops : Array Oper} {rest : List Oper} {o : Oper} {a : Act} {Q : Exit → Act → World → Prop} (hgd : o.guard = none) (s x : Operand) (e t : TypeId)
    (ho : o.op = .call { callee := .builtin .append, args := #[s, x], argTypes := #[t, t] })
    (B : Nat) (z : Value) (by_ : Nat) (hinfo : (P.info? e).map (fun i => (i.zero, i.size, i.bytes)) = some (some z, 1, by_)) (hz : z.cells.size = 1) (hby : by_ ≤ 24) (ht : P.underlying t = some (.slice e))
    (v : Value) (n : Nat) (xs : List Value) (hv : a.eval s = v) (h : w.ownsRow B e 1 v n xs) (g : Nat) (u : Value) (hxe : a.eval x = .slice (some ⟨g, 0, none⟩) 1 1) (hc : w.cell? ⟨g, 0, none⟩ = some u) (hone : u.oneCell' = true) (hmax : n ≤ 1000) (hB : B ≤ w.heap.size)
    (hK : ∀ v' w', w'.ownsRow B e 1 v' (n + 1) (xs ++ [u]) → w.grownBy w' v.ownBlock → wpList P ops Q rest (a.put o.dst v') w') : wpList P ops Q (o :: rest) a w := by
  obtain ⟨v', w', hr, h1, h2, -⟩ := append_row (P := P) w B e t o.type z by_ hinfo hz hby ht v n xs h g u hc hone hmax hB
  refine wpList_plain hgd fun _ hK' => ?_
  unfold Oper.wp
  simp [execOp, ho, resolve, invoke, builtin, hv, hxe, hr, Result.andThen]
  exact hK' _ _ (hK v' w' h1 h2)
/-- the cells of a row -/
theorem row_cells {B : Nat} {w : World} {t : TypeId} {n : Nat} {v : Value} {xs : List Value} (h : w.ownsRow B t 1 v n xs) : ∃ a, ∃ c : Nat, v = .slice a n c ∧ n ≤ c ∧ c ≤ maxLen ∧ ∀ (i : Nat) (u : Value), xs[i]? = some u → ∃ g, a = some ⟨g, 0, none⟩ ∧ w.cell? ⟨g, i, none⟩ = some u := by
  have hl := h.1
  rcases h.2 with ⟨rfl, rfl⟩ | ⟨g, cap, cur, rfl, _, hh, h1, h2, _, _⟩
  · exact ⟨none, 0, rfl, Nat.le_refl _, Nat.zero_le _, fun i u hu => by
      have := (List.getElem?_eq_some_iff.1 hu).1
      omega⟩
  · refine ⟨_, _, rfl, h1, h2, fun i u hu => ⟨g, rfl, ?_⟩⟩
    have h9 := World.ownsRow.cellAt h i (by have := (List.getElem?_eq_some_iff.1 hu).1; omega)
    rw [h9, hu]
end Mg
end Go.Proofs.YtfnfdbmckpklmaaDoor

/-
  Rows gathered in a list.
-/
namespace Go.Proofs.YtfnfdbmckpklmaaDoor
open Go Go.RowKit
namespace Mg

/-- rows gathered in a list: the list's own row, the rows, apart from one another; old memory as it was -/
structure Gth (B : Nat) (W : World) (eL e : TypeId) (s : Nat) (n : Nat → Nat) (X : Nat → List Value) (w : World) (vL : Value) (L : List Value) : Prop where
  low : B ≤ W.heap.size
  row : w.ownsRow B eL 1 vL L.length L
  fam : Fam B w e s n L X
  apt : Apt L
  bel : Below B W w
section
variable {B : Nat} {W : World} {eL e : TypeId} {s : Nat} {n : Nat → Nat} {X : Nat → List Value} {w w' w2 w3 : World} {vL vL' o : Value} {L : List Value}
theorem Gth.size (h : Gth B W eL e s n X w vL L) : B ≤ w.heap.size := Nat.le_trans h.low h.bel.size
theorem Gth.kept (h : Gth B W eL e s n X w vL L) (hb : Below w.heap.size w w') : Gth B W eL e s n X w' vL L := ⟨h.low, row_kept h.row hb, h.fam.kept hb, h.apt, h.bel.trans (hb.mono h.size)⟩
theorem Gth.start (B : Nat) (W : World) (eL e : TypeId) (s : Nat) (n : Nat → Nat) (X : Nat → List Value) (hB : B ≤ W.heap.size) (w : World) (hb : Below B W w) : Gth B W eL e s n X w (.slice none 0 0) [] := ⟨hB, World.ownsRow_nil _ _ _ _, Fam.nil, Apt.nil, hb⟩
theorem Gth.next (h : Gth B W eL e s n X w vL L) (hk : e ≠ eL) (b : Below w.heap.size w w2) (ys : List Value) (ho : w2.ownsRow w.heap.size e s o (n L.length) ys) (k : w2.grownBy w3 vL.ownBlock) (hr : w3.ownsRow B eL 1 vL' (L.length + 1) (L ++ [o])) (X' : Nat → List Value) (h1 : ∀ j, j < L.length → X' j = X j) (h2 : X' L.length = ys) :
    Gth B W eL e s n X' w3 vL' (L ++ [o]) := by
  have hr2 := row_kept h.row b
  have hf2 := (h.fam.kept b).kind hr2 hk k
  have ho3 := row_other ho k (kinds_apart ho hr2 hk)
  have hB := h.size
  refine ⟨h.low, by rw [List.length_append]; exact hr, ?_, ?_, (h.kept b).bel.grown k (h.kept b).size fun g e' => (World.ownsRow.lt h.row g e').1⟩
  · have hf3 : Fam B w3 e s n L X' := fun j u hj => by
      rw [h1 j (List.getElem?_eq_some_iff.1 hj).1]
      exact hf2 j u hj
    exact hf3.snoc o ys (row_weak ho3 hB) h2
  · refine h.apt.snoc o fun u hu g hg hog => ?_
    have h3 := (h.fam.lt u hu g hg).2
    have h4 := (World.ownsRow.lt ho g hog).1
    omega
/-- a row of the family is written -/
theorem Gth.put (h : Gth B W eL e s n X w vL L) (hk : e ≠ eL) (i : Nat) (v : Value) (hi : L[i]? = some v) (k : w.grownBy w' v.ownBlock) (ys : List Value) (hy : w'.ownsRow B e s v (n i) ys) : Gth B W eL e s n (fun j => if j = i then ys else X j) w' vL L := by
  have hv := h.fam i v hi
  exact ⟨h.low, row_other h.row k fun g hg => kinds_apart h.row hv (Ne.symm hk) g hg, h.fam.put h.apt i v hi k ys hy, h.apt, h.bel.grown k h.size fun g e' => (World.ownsRow.lt hv g e').1⟩
end
end Mg
end Go.Proofs.YtfnfdbmckpklmaaDoor

/-
  Two gatherings of rows side by side, and what was made between them.
-/
namespace Go.Proofs.YtfnfdbmckpklmaaDoor
open Go Go.RowKit
namespace Mg

section
variable {B : Nat} {W : World} {eL e : TypeId} {s : Nat} {n : Nat → Nat} {X : Nat → List Value} {w w' : World} {vL : Value} {L : List Value}
theorem Gth.rebase {B' : Nat} {W' : World} (h : Gth B W eL e s n X w vL L) (hB : B' ≤ B) (hW : B' ≤ W'.heap.size) (hb : Below B' W' w) : Gth B' W' eL e s n X w vL L := ⟨hW, row_weak h.row hB, h.fam.weak hB, h.apt, hb⟩
theorem Gth.kind {e' : TypeId} {s' m : Nat} {u : Value} {ys : List Value} (h : Gth B W eL e s n X w vL L) (hu : w.ownsRow B e' s' u m ys) (h1 : e ≠ e') (h2 : eL ≠ e') (k : w.grownBy w' u.ownBlock) : Gth B W eL e s n X w' vL L :=
  ⟨h.low, row_other h.row k (kinds_apart h.row hu h2), h.fam.kind hu h1 k, h.apt, h.bel.grown k h.size fun g e' => (World.ownsRow.lt hu g e').1⟩
end
/-- two gatherings; the first one's rows are older than w1, the second one's younger than w4; what was made between stays -/
structure St2 (W w1 w4 : World) (aL a bL b : TypeId) (sa sb na nb : Nat) (va : Value) (La : List Value) (vb : Value) (Lb : List Value) (Xa Xb : Nat → List Value) (w : World) : Prop where
  ga : Gth W.heap.size W aL a sa (fun _ => na) Xa w va La
  gb : Gth W.heap.size W bL b sb (fun _ => nb) Xb w vb Lb
  kinds : a ≠ b ∧ a ≠ bL ∧ a ≠ aL ∧ b ≠ aL ∧ b ≠ bL ∧ aL ≠ bL
  old : ∀ v ∈ La, ∀ g, v.ownBlock = some g → g < w1.heap.size
  young : ∀ v ∈ Lb, ∀ g, v.ownBlock = some g → w4.heap.size ≤ g
  sz : w1.heap.size ≤ w4.heap.size ∧ w4.heap.size ≤ w.heap.size
  keep : ∀ g, w1.heap.size ≤ g → g < w4.heap.size → w.heap[g]? = w4.heap[g]?
section
variable {W w1 w4 : World} {aL a bL b : TypeId} {sa sb na nb : Nat} {va : Value} {La : List Value} {vb : Value} {Lb : List Value} {Xa Xb : Nat → List Value} {w w' : World}
theorem St2.kept (h : St2 W w1 w4 aL a bL b sa sb na nb va La vb Lb Xa Xb w) (hb : Below w.heap.size w w') : St2 W w1 w4 aL a bL b sa sb na nb va La vb Lb Xa Xb w' :=
  ⟨h.ga.kept hb, h.gb.kept hb, h.kinds, h.old, h.young, ⟨h.sz.1, Nat.le_trans h.sz.2 hb.size⟩, fun g h1 h2 => (hb.block g (Nat.lt_of_lt_of_le h2 h.sz.2)).trans (h.keep g h1 h2)⟩
theorem St2.puta (h : St2 W w1 w4 aL a bL b sa sb na nb va La vb Lb Xa Xb w) (i : Nat) (v : Value) (hi : La[i]? = some v) (k : w.grownBy w' v.ownBlock) (ys : List Value) (hy : w'.ownsRow W.heap.size a sa v na ys) : St2 W w1 w4 aL a bL b sa sb na nb va La vb Lb (fun j => if j = i then ys else Xa j) Xb w' := by
  have hv := h.ga.fam i v hi
  refine ⟨h.ga.put h.kinds.2.2.1 i v hi k ys hy, h.gb.kind hv h.kinds.1.symm h.kinds.2.1.symm k, h.kinds, h.old, h.young, ⟨h.sz.1, Nat.le_trans h.sz.2 k.size⟩, fun g h1 h2 => (k.block g (Nat.lt_of_lt_of_le h2 h.sz.2) fun e => ?_).trans (h.keep g h1 h2)⟩
  have := h.old v (List.mem_of_getElem? hi) g e.symm
  omega
theorem St2.putb (h : St2 W w1 w4 aL a bL b sa sb na nb va La vb Lb Xa Xb w) (i : Nat) (v : Value) (hi : Lb[i]? = some v) (k : w.grownBy w' v.ownBlock) (ys : List Value) (hy : w'.ownsRow W.heap.size b sb v nb ys) : St2 W w1 w4 aL a bL b sa sb na nb va La vb Lb Xa (fun j => if j = i then ys else Xb j) w' := by
  have hv := h.gb.fam i v hi
  refine ⟨h.ga.kind hv h.kinds.1 h.kinds.2.2.2.1.symm k, h.gb.put h.kinds.2.2.2.2.1 i v hi k ys hy, h.kinds, h.old, h.young, ⟨h.sz.1, Nat.le_trans h.sz.2 k.size⟩, fun g h1 h2 => (k.block g (Nat.lt_of_lt_of_le h2 h.sz.2) fun e => ?_).trans (h.keep g h1 h2)⟩
  have := h.young v (List.mem_of_getElem? hi) g e.symm
  omega
end
end Mg
end Go.Proofs.YtfnfdbmckpklmaaDoor

/-
  Two lists of rows, and their longer ones gathered in two more lists.
-/
namespace Go.Proofs.YtfnfdbmckpklmaaDoor
open Go Go.RowKit
namespace Mg

/-- the four lists' own rows; what was made between stays -/
structure Rst (W w1 w4 : World) (H0 : Nat) (aL bL : TypeId) (va : Value) (La : List Value) (vb : Value) (Lb : List Value) (vg : Value) (Ga : List Value) (vh : Value) (Gb : List Value) (w : World) : Prop where
  ra : w.ownsRow W.heap.size aL 1 va La.length La
  rb : w.ownsRow W.heap.size bL 1 vb Lb.length Lb
  oa : ∀ g, va.ownBlock = some g → g < H0
  ob : ∀ g, vb.ownBlock = some g → g < H0
  rg : w.ownsRow H0 aL 1 vg Ga.length Ga
  rh : w.ownsRow H0 bL 1 vh Gb.length Gb
  sz : W.heap.size ≤ H0 ∧ H0 ≤ w.heap.size ∧ w1.heap.size ≤ w4.heap.size ∧ w4.heap.size ≤ H0
  bel : Below W.heap.size W w
  keep : ∀ g, w1.heap.size ≤ g → g < w4.heap.size → w.heap[g]? = w4.heap[g]?
section
variable {W w1 w4 : World} {H0 H1 : Nat} {aL bL e e2 : TypeId} {va vb vg vh vg' c : Value} {La Lb Ga Gb L G L2 G2 : List Value} {w w' : World} {cs cs2 : Nat → List Value} {n m n2 m2 : Nat}
theorem Rst.kept (h : Rst W w1 w4 H0 aL bL va La vb Lb vg Ga vh Gb w) (hb : Below w.heap.size w w') : Rst W w1 w4 H0 aL bL va La vb Lb vg Ga vh Gb w' := by
  obtain ⟨s1, s2, s3, s4⟩ := h.sz
  exact ⟨row_kept h.ra hb, row_kept h.rb hb, h.oa, h.ob, row_kept h.rg hb, row_kept h.rh hb, ⟨s1, Nat.le_trans s2 hb.size, s3, s4⟩, h.bel.trans (hb.mono (Nat.le_trans s1 s2)), fun g h1 h2 => (hb.block g (by omega)).trans (h.keep g h1 h2)⟩
/-- a row of another kind changes -/
theorem Rst.grow (h : Rst W w1 w4 H0 aL bL va La vb Lb vg Ga vh Gb w) {s k : Nat} {u : Value} {ys : List Value} (hu : w.ownsRow W.heap.size e s u k ys) (h1 : e ≠ aL) (h2 : e ≠ bL) (hk : ∀ g, u.ownBlock = some g → g < w1.heap.size ∨ w4.heap.size ≤ g) (kk : w.grownBy w' u.ownBlock) : Rst W w1 w4 H0 aL bL va La vb Lb vg Ga vh Gb w' := by
  obtain ⟨s1, s2, s3, s4⟩ := h.sz
  refine ⟨row_other h.ra kk (kinds_apart h.ra hu h1.symm), row_other h.rb kk (kinds_apart h.rb hu h2.symm), h.oa, h.ob, row_other h.rg kk (kinds_apart h.rg hu h1.symm), row_other h.rh kk (kinds_apart h.rh hu h2.symm), ⟨s1, Nat.le_trans s2 kk.size, s3, s4⟩, h.bel.grown kk (Nat.le_trans s1 s2) fun g e' => (World.ownsRow.lt hu g e').1, fun g g1 g2 => (kk.block g (by omega) fun e' => ?_).trans (h.keep g g1 g2)⟩
  have := hk g e'.symm
  omega
/-- the first list of longer ones gets one more -/
theorem Rst.moreg (h : Rst W w1 w4 H0 aL bL va La vb Lb vg Ga vh Gb w) (hne : aL ≠ bL) (kk : w.grownBy w' vg.ownBlock) (hr : w'.ownsRow H0 aL 1 vg' (Ga.length + 1) (Ga ++ [c])) : Rst W w1 w4 H0 aL bL va La vb Lb vg' (Ga ++ [c]) vh Gb w' := by
  obtain ⟨s1, s2, s3, s4⟩ := h.sz
  have hl : ∀ g, vg.ownBlock = some g → H0 ≤ g := fun g hg => (World.ownsRow.lt h.rg g hg).1
  refine ⟨row_other h.ra kk fun g hg e' => ?_, row_other h.rb kk (kinds_apart h.rb h.rg hne.symm), h.oa, h.ob, by rw [List.length_append]; exact hr, row_other h.rh kk (kinds_apart h.rh h.rg hne.symm), ⟨s1, Nat.le_trans s2 kk.size, s3, s4⟩, h.bel.grown kk (Nat.le_trans s1 s2) fun g e' => Nat.le_trans s1 (hl g e'), fun g g1 g2 => (kk.block g (by omega) fun e' => ?_).trans (h.keep g g1 g2)⟩
  · have := h.oa g hg
    have := hl g e'
    omega
  · have := hl g e'.symm
    omega
/-- the second one gets one more -/
theorem Rst.moreh (h : Rst W w1 w4 H0 aL bL va La vb Lb vg Ga vh Gb w) (hne : aL ≠ bL) (kk : w.grownBy w' vh.ownBlock) (hr : w'.ownsRow H0 bL 1 vg' (Gb.length + 1) (Gb ++ [c])) : Rst W w1 w4 H0 aL bL va La vb Lb vg Ga vg' (Gb ++ [c]) w' := by
  obtain ⟨s1, s2, s3, s4⟩ := h.sz
  have hl : ∀ g, vh.ownBlock = some g → H0 ≤ g := fun g hg => (World.ownsRow.lt h.rh g hg).1
  refine ⟨row_other h.ra kk (kinds_apart h.ra h.rh hne), row_other h.rb kk fun g hg e' => ?_, h.oa, h.ob, row_other h.rg kk (kinds_apart h.rg h.rh hne), by rw [List.length_append]; exact hr, ⟨s1, Nat.le_trans s2 kk.size, s3, s4⟩, h.bel.grown kk (Nat.le_trans s1 s2) fun g e' => Nat.le_trans s1 (hl g e'), fun g g1 g2 => (kk.block g (by omega) fun e' => ?_).trans (h.keep g g1 g2)⟩
  · have := h.ob g hg
    have := hl g e'
    omega
  · have := hl g e'.symm
    omega
/-- one of the lists gets one element more -/
theorem und_more (hR : Rst W w1 w4 H0 aL bL va La vb Lb vg Ga vh Gb w) {i k : Nat} {v c c' : Value} (hU : Und W.heap.size H0 H1 w e cs n m L G i v c k) (hO : Lng W.heap.size H0 w e2 cs2 n2 m2 L2 G2) (h1 : e ≠ aL) (h2 : e ≠ bL) (h3 : e2 ≠ e) (hk : ∀ v ∈ L, ∀ g, v.ownBlock = some g → g < w1.heap.size ∨ w4.heap.size ≤ g) (hL : G.length ≤ L.length)
    (k1 : w.grownBy w' c.ownBlock) (hc : Mk e (cs i) W.heap.size w' c' (n + k + 1)) (hat : c'.ownBlock = c.ownBlock ∨ c'.ownBlock = some w.heap.size) (hkeep : ∀ (u : Value) (k' : Nat), Mk e (cs i) W.heap.size w u k' → Mk e (cs i) W.heap.size w' u k') :
    Rst W w1 w4 H0 aL bL va La vb Lb vg Ga vh Gb w' ∧ Und W.heap.size H0 H1 w' e cs n m L G i v c' (k + 1) ∧ Lng W.heap.size H0 w' e2 cs2 n2 m2 L2 G2 := by
  refine ⟨hR.grow hU.cur h1 h2 (fun g hg => ?_) k1, hU.step hL k1 hc hat hkeep, hO.kind hU.cur h3 k1⟩
  rcases hU.at_ g hg with h4 | h4
  · exact hk v (List.mem_of_getElem? hU.iv) g h4
  · have := hU.h1
    have := hR.sz
    omega
end
section
variable {W w1 w4 : World} {aL a bL b : TypeId} {sa sb na nb : Nat} {va : Value} {La : List Value} {vb : Value} {Lb : List Value} {Xa Xb : Nat → List Value} {w : World}
theorem fam_lng {B : Nat} {e : TypeId} {s n : Nat} {L : List Value} {X : Nat → List Value} (h : Fam B w e s (fun _ => n) L X) (ha : Apt L) (hB : B ≤ w.heap.size) (cs : Nat → List Value) (hs : ∀ j, (cs j).length = s) (hX : ∀ j, j < L.length → X j = pat (cs j) n) (m : Nat) : Lng B w.heap.size w e cs n m L [] := by
  refine ⟨Nat.le_refl _, hB, fun v hv g hg => (h.lt v hv g hg).2, ha, fun j v hj => ?_, fun j v hj => by simp at hj, fun j u v _ hj => by simp at hj⟩
  have h1 := h j v hj
  rw [hX j (List.getElem?_eq_some_iff.1 hj).1] at h1
  unfold Mk
  rw [hs j]
  exact h1
theorem St2.start (h : St2 W w1 w4 aL a bL b sa sb na nb va La vb Lb Xa Xb w) (ca cb : Nat → List Value) (hsa : ∀ j, (ca j).length = sa) (hsb : ∀ j, (cb j).length = sb) (hXa : ∀ j, j < La.length → Xa j = pat (ca j) na) (hXb : ∀ j, j < Lb.length → Xb j = pat (cb j) nb) (ma mb : Nat) :
    Rst W w1 w4 w.heap.size aL bL va La vb Lb (.slice none 0 0) [] (.slice none 0 0) [] w ∧ Lng W.heap.size w.heap.size w a ca na ma La [] ∧ Lng W.heap.size w.heap.size w b cb nb mb Lb [] :=
  ⟨⟨h.ga.row, h.gb.row, fun g hg => (World.ownsRow.lt h.ga.row g hg).2, fun g hg => (World.ownsRow.lt h.gb.row g hg).2, World.ownsRow_nil _ _ _ _, World.ownsRow_nil _ _ _ _, ⟨h.ga.size, Nat.le_refl _, h.sz.1, h.sz.2⟩, h.ga.bel, h.keep⟩,
    fam_lng h.ga.fam h.ga.apt h.ga.size ca hsa hXa ma, fam_lng h.gb.fam h.gb.apt h.gb.size cb hsb hXb mb⟩
end
end Mg
end Go.Proofs.YtfnfdbmckpklmaaDoor
