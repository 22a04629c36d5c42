/-
  Rows of one and the same element: written over and lengthened.
-/
import Derived.Test.YtggenlnknnhjgaaLa2
namespace Go.Proofs.Ytggenlnknnhjgaa
open Go Go.RowKit
namespace Mg

/-- n times the same cells -/
def pat (cs : List Value) (n : Nat) : List Value := (List.replicate n cs).flatten
theorem pat_len (cs : List Value) (n : Nat) : (pat cs n).length = n * cs.length := by simp [pat]
theorem pat_succ (cs : List Value) (n : Nat) : pat cs (n + 1) = cs ++ pat cs n := by simp [pat, List.replicate_succ]
theorem pat_add (cs : List Value) (n k : Nat) : pat cs n ++ pat cs k = pat cs (n + k) := by
  unfold pat
  rw [← List.flatten_append, List.replicate_append_replicate]
theorem pat_get (cs : List Value) : ∀ (n p : Nat), p < n * cs.length → (pat cs n)[p]? = cs[p % cs.length]?
  | 0, p, h => by omega
  | n + 1, p, h => by
    rw [pat_succ]
    by_cases h1 : p < cs.length
    · rw [List.getElem?_append_left h1, Nat.mod_eq_of_lt h1]
    · rw [List.getElem?_append_right (by omega), pat_get cs n (p - cs.length) (by rw [Nat.add_mul] at h; omega), ← Nat.mod_eq_sub_mod (by omega)]
theorem pat_one (cs : List Value) (h : ∀ u ∈ cs, u.oneCell' = true) (n : Nat) : ∀ u ∈ pat cs n, u.oneCell' = true := fun u hu => by
  unfold pat at hu
  rw [List.mem_flatten] at hu
  obtain ⟨l, hl, hu⟩ := hu
  rw [List.mem_replicate] at hl
  exact h u (hl.2 ▸ hu)
theorem row_block {B : Nat} {w w' : World} {t : TypeId} {s n : Nat} {v : Value} {xs : List Value} (h : w.ownsRow B t s v n xs) (hg : ∀ g, v.ownBlock = some g → w'.heap[g]? = w.heap[g]?) : w'.ownsRow B t s v n xs := by
  refine ⟨h.1, ?_⟩
  rcases h.2 with h1 | ⟨g, cap, cur, e, hb, hh, rest⟩
  · exact .inl h1
  · exact .inr ⟨g, cap, cur, e, hb, (hg g (by rw [e]; rfl)).trans hh, rest⟩
theorem row_kept {B : Nat} {w w' : World} {t : TypeId} {s n : Nat} {v : Value} {xs : List Value} (h : w.ownsRow B t s v n xs) (hb : Below w.heap.size w w') : w'.ownsRow B t s v n xs := row_block h fun g hg => hb.block g (World.ownsRow.lt h g hg).2
theorem row_type {B : Nat} {w : World} {t : TypeId} {s n : Nat} {v : Value} {xs : List Value} (h : w.ownsRow B t s v n xs) (g : Nat) (hg : v.ownBlock = some g) : ∃ cur, w.heap[g]? = some (.cells cur t) := by
  rcases h.2 with ⟨rfl, _⟩ | ⟨g1, cap, cur, rfl, _, hh, _⟩
  · cases hg
  · obtain rfl : g1 = g := by simpa [Value.ownBlock] using hg
    exact ⟨cur, hh⟩
/-- two rows of unlike kinds have unlike blocks -/
theorem kinds_apart {B B' : Nat} {w : World} {t t' : TypeId} {s s' n n' : Nat} {v v' : Value} {xs xs' : List Value} (h : w.ownsRow B t s v n xs) (h' : w.ownsRow B' t' s' v' n' xs') (ht : t ≠ t') (g : Nat) (hg : v.ownBlock = some g) : v'.ownBlock ≠ some g := fun hg' => by
  obtain ⟨c, hc⟩ := row_type h g hg
  obtain ⟨c', hc'⟩ := row_type h' g hg'
  rw [hc] at hc'
  simp at hc'
  exact ht hc'.2
/-- a row is left alone by what changes another block -/
theorem row_other {B : Nat} {w w' : World} {t : TypeId} {s n : Nat} {v : Value} {xs : List Value} {row : Option Nat} (h : w.ownsRow B t s v n xs) (k : w.grownBy w' row) (hne : ∀ g, v.ownBlock = some g → row ≠ some g) : w'.ownsRow B t s v n xs :=
  row_block h fun g hg => k.block g (World.ownsRow.lt h g hg).2 fun e => hne g hg e.symm
theorem row_shape {B : Nat} {w : World} {t : TypeId} {s n : Nat} {v : Value} {xs : List Value} (h : w.ownsRow B t s v n xs) : ∃ a, ∃ c : Nat, v = .slice a n c ∧ n ≤ c ∧ c ≤ maxLen := by
  rcases h.2 with ⟨rfl, rfl⟩ | ⟨g, cap, cur, rfl, _, _, h1, h2, _⟩
  · exact ⟨none, 0, rfl, Nat.le_refl _, Nat.zero_le _⟩
  · exact ⟨_, _, rfl, h1, h2⟩
/-- n times the same element in a row -/
def Mk (e : TypeId) (cs : List Value) (B : Nat) (w : World) (v : Value) (n : Nat) : Prop := w.ownsRow B e cs.length v n (pat cs n)
/-- the first k places written over -/
def fil (cs : List Value) (xs : List Value) (k : Nat) : List Value := pat cs k ++ xs.drop (k * cs.length)
theorem fil_zero (cs xs : List Value) : fil cs xs 0 = xs := by simp [fil, pat]
theorem fil_end (cs xs : List Value) (n : Nat) (h : xs.length = n * cs.length) : fil cs xs n = pat cs n := by
  unfold fil
  rw [← h, List.drop_length, List.append_nil]
theorem fil_len (cs xs : List Value) (n k : Nat) (h : xs.length = n * cs.length) (hk : k ≤ n) : (fil cs xs k).length = n * cs.length := by
  unfold fil
  rw [List.length_append, pat_len, List.length_drop, h]
  have := Nat.mul_le_mul_right cs.length hk
  omega
theorem owns_setCells {B : Nat} {e : TypeId} {s n cap g : Nat} : ∀ (vs : List Value) (o : Nat) (w : World) (xs : List Value), w.ownsRow B e s (.slice (some ⟨g, 0, none⟩) n cap) n xs → o + vs.length ≤ xs.length →
    (w.setCells g o vs).ownsRow B e s (.slice (some ⟨g, 0, none⟩) n cap) n (xs.take o ++ vs ++ xs.drop (o + vs.length)) ∧ w.grownBy (w.setCells g o vs) (some g)
  | [], o, w, xs, h, _ => by
    refine ⟨?_, World.grownBy.refl _ _⟩
    show w.ownsRow _ _ _ _ _ _
    rw [List.append_nil, List.length_nil, Nat.add_zero, List.take_append_drop]
    exact h
  | v :: r, o, w, xs, h, hl => by
    have s1 := World.ownsRow.stored h o v
    rw [List.length_cons] at hl
    obtain ⟨h2, g2⟩ := owns_setCells r (o + 1) _ _ s1.1 (by rw [List.length_set]; omega)
    refine ⟨?_, ⟨g2.os.trans s1.2.os, g2.tape.trans s1.2.tape, g2.output.trans s1.2.output, Nat.le_trans s1.2.size g2.size, fun q hq hn => (g2.block q (Nat.lt_of_lt_of_le hq s1.2.size) hn).trans (s1.2.block q hq hn)⟩⟩
    show ((w.setCell ⟨g, o, none⟩ v).setCells g (o + 1) r).ownsRow _ _ _ _ _ _
    have e1 : (xs.set o v).take (o + 1) = xs.take o ++ [v] := by
      rw [List.take_succ_eq_append_getElem (by rw [List.length_set]; omega), List.getElem_set_self, List.take_set_of_le (Nat.le_refl _)]
    have e2 : (xs.set o v).drop (o + 1 + r.length) = xs.drop (o + (r.length + 1)) := by
      rw [List.drop_set_of_lt (by omega), show o + 1 + r.length = o + (r.length + 1) by omega]
    rw [e1, e2] at h2
    rw [List.length_cons]
    simpa using h2
theorem fill_step {B : Nat} {w : World} {e : TypeId} {cs xs : List Value} {a : Option Addr} {n cap k : Nat} (hcs : 0 < cs.length) (hx : xs.length = n * cs.length) (h : w.ownsRow B e cs.length (.slice a n cap) n (fil cs xs k)) (hk : k < n) :
    ∃ g, a = some ⟨g, 0, none⟩ ∧ w.there g (k * cs.length) cs.length ∧ (w.setCells g (k * cs.length) cs).ownsRow B e cs.length (.slice a n cap) n (fil cs xs (k + 1)) ∧ w.grownBy (w.setCells g (k * cs.length) cs) (some g) ∧ B ≤ g := by
  have hl := fil_len cs xs n k hx (by omega)
  have hkn : k * cs.length + cs.length ≤ n * cs.length := by
    have := Nat.mul_le_mul_right cs.length (show k + 1 ≤ n by omega)
    rw [Nat.add_mul, Nat.one_mul] at this
    exact this
  rcases h.2 with ⟨_, h0⟩ | ⟨g, cap', cur, e', hBg, hg, hnc, hcm, hcs', htk⟩
  · omega
  · simp only [Value.slice.injEq, true_and] at e'
    obtain ⟨rfl, rfl⟩ := e'
    obtain ⟨h2, g2⟩ := owns_setCells cs (k * cs.length) w _ h (by omega)
    refine ⟨g, rfl, fun j hj => ?_, ?_, g2, hBg⟩
    · refine ⟨?_, World.ownsRow.frozenAt h (k * cs.length + j)⟩
      have hc := h.cellAt (k * cs.length + j) (by omega)
      rw [hc, List.getElem?_eq_getElem (by omega)]
      rfl
    · have e3 : (fil cs xs k).take (k * cs.length) ++ cs ++ (fil cs xs k).drop (k * cs.length + cs.length) = fil cs xs (k + 1) := by
        unfold fil
        rw [List.take_append_of_le_length (by rw [pat_len]; exact Nat.le_refl _), List.take_of_length_le (by rw [pat_len]; exact Nat.le_refl _), ← pat_add, List.drop_append, List.drop_of_length_le (by rw [pat_len]; omega), pat_len, List.nil_append, List.drop_drop, show k * cs.length + (k * cs.length + cs.length - k * cs.length) = (k + 1) * cs.length by rw [Nat.add_mul]; omega]
        simp [pat]
      rw [e3] at h2
      exact h2
/-- append of m more onto n: what it makes, and that every view of the same stays -/
theorem append_mk {P : Program} (w : World) (B : Nat) (e t ty : TypeId) (cs : List Value) (z : Value) (by_ : Nat) (hcs : 0 < cs.length) (hone : ∀ u ∈ cs, u.oneCell' = true) (hinfo : (P.info? e).map (fun i => (i.zero, i.size, i.bytes)) = some (some z, cs.length, by_)) (hz : z.cells.size = cs.length) (ht : P.underlying t = some (.slice e))
    (v : Value) (k m : Nat) (h : Mk e cs B w v k) (gx cx : Nat) (hx : ∀ (j : Nat) (u : Value), (pat cs m)[j]? = some u → w.cell? ⟨gx, j, none⟩ = some u) (hmx : k + m ≤ 100000000) (hmax : (k + m) * by_ ≤ 140737488355328) (hB : B ≤ w.heap.size) :
    ∃ v' w', (Builtin.append_ #[t, t] ty #[v, .slice (some ⟨gx, 0, none⟩) m cx]).run P w = .ok v' w' ∧ Mk e cs B w' v' (k + m) ∧ w.grownBy w' v.ownBlock ∧ (v'.ownBlock = v.ownBlock ∨ v'.ownBlock = some w.heap.size) ∧
      ∀ (u : Value) (k' : Nat), Mk e cs B w u k' → Mk e cs B w' u k' := by
  obtain ⟨i0, hi, hz0, hz1, hz2⟩ := Lft.info_parts3 hinfo
  have hnews : ∀ j u, (pat cs m)[j]? = some u → w.cell? ((⟨gx, 0, none⟩ : Addr).add j) = some u := fun j u hj => by
    rw [Addr.add_lit, Nat.zero_add]
    exact hx j u hj
  obtain ⟨v', w', hr, h2, h3, _, h5⟩ := run_append_own_at (P := P) w B t ty e i0 z cs.length by_ ht hi hz0 hz1 hz2 hz hcs v k (pat cs k) h ⟨gx, 0, none⟩ m cx (pat cs m) (pat_len cs m) hnews (pat_one cs hone m) (by unfold maxLen; omega) hmax hB
  rw [pat_add] at h2
  refine ⟨v', w', hr, h2, h3, h5, fun u k' hu => ?_⟩
  by_cases hub : u.ownBlock = v.ownBlock
  · rcases hu.2 with ⟨rfl, h0⟩ | ⟨g, cap, cur, rfl, hbg, hg, hnc, hcm, hcs1, htk⟩
    · exact ⟨hu.1, .inl ⟨rfl, h0⟩⟩
    · rcases h.2 with ⟨rfl, _⟩ | ⟨g', cap', cur', rfl, hbg', hg', hnc', hcm', hcs', htk'⟩
      · cases hub
      · obtain rfl : g = g' := by simpa [Value.ownBlock] using hub
        obtain rfl : cur = cur' := by
          have := hg.symm.trans hg'
          simpa using this
        have hcc : cap = cap' := by
          have h9 : cap * cs.length = cap' * cs.length := by rw [← hcs1, ← hcs']
          exact Nat.eq_of_mul_eq_mul_right hcs h9
        subst hcc
        by_cases hroom : k + m ≤ cap
        · have hfl : (k + m) * cs.length ≤ cap * cs.length := Nat.mul_le_mul_right _ hroom
          have hfl2 : (k + m) * cs.length = k * cs.length + m * cs.length := Nat.add_mul _ _ _
          have hfit : k * i0.size + (pat cs m).length ≤ cur.size := by rw [hz1, pat_len, hcs1]; omega
          have hr2 := run_append_room (P := P) w t ty e i0 ht hi g k cap cur hg ⟨gx, 0, none⟩ m cx (pat cs m) (by rw [hz1, pat_len]) hnews (pat_one cs hone m) hroom hfit
          rw [hr2] at hr
          injection hr with e1 e2
          subst e1 e2
          refine ⟨hu.1, .inr ⟨g, cap, _, rfl, hbg, setRow_heap w g cur _ e _ hg, hnc, hcm, ?_, ?_⟩⟩
          · simp only [List.size_toArray, List.length_append, List.length_take, List.length_drop, Array.length_toList, hz1, pat_len]
            omega
          · rw [← htk, hz1, pat_len]
            have hcp : ∀ p, p < k' * cs.length → cur.toList[p]? = cs[p % cs.length]? := fun p hp => by
              have h9 : (cur.toList.take (k' * cs.length))[p]? = (pat cs k')[p]? := by rw [htk]
              rw [List.getElem?_take_of_lt hp] at h9
              rw [h9, pat_get cs k' p hp]
            have hcl : cur.toList.length = cur.size := Array.length_toList
            refine List.ext_getElem? fun p => ?_
            by_cases hp : p < k' * cs.length
            · rw [List.getElem?_take_of_lt hp, List.getElem?_take_of_lt hp]
              by_cases h1 : p < k * cs.length
              · rw [List.append_assoc, List.getElem?_append_left (by rw [List.length_take, hcl]; omega), List.getElem?_take_of_lt h1]
              · have htl : (cur.toList.take (k * cs.length)).length = k * cs.length := by rw [List.length_take, hcl]; omega
                by_cases h2 : p < (k + m) * cs.length
                · rw [List.append_assoc, List.getElem?_append_right (by omega), htl, List.getElem?_append_left (by rw [pat_len]; omega), pat_get cs m (p - k * cs.length) (by omega), hcp p hp]
                  congr 1
                  have e9 : p = (p - k * cs.length) + cs.length * k := by rw [Nat.mul_comm cs.length k]; omega
                  conv => rhs; rw [e9]
                  rw [Nat.add_mul_mod_self_left]
                · rw [List.append_assoc, List.getElem?_append_right (by omega), htl, List.getElem?_append_right (by rw [pat_len]; omega), pat_len, List.getElem?_drop]
                  congr 1
                  omega
            · rw [List.getElem?_eq_none (by rw [List.length_take]; omega), List.getElem?_eq_none (by rw [List.length_take]; omega)]
        · have holds : ∀ j u, (pat cs k)[j]? = some u → w.cell? ((⟨g, 0, none⟩ : Addr).add j) = some u := World.ownsRow.cells h (g := g) rfl
          have hr2 := run_append_grow (P := P) w t ty e i0 _ ht hi hz0 ⟨g, 0, none⟩ k cap (pat cs k) (by rw [hz1, pat_len]) holds ⟨gx, 0, none⟩ m cx (pat cs m) (by rw [hz1, pat_len]) hnews (by omega) (by omega) (growslice_fits (by omega) (by rw [hz2]; exact hmax))
          rw [hr2] at hr
          injection hr with e1 e2
          subst e1 e2
          refine ⟨hu.1, .inr ⟨g, cap, cur, rfl, hbg, ?_, hnc, hcm, hcs1, htk⟩⟩
          rw [← hg]
          exact (Below.refl w.drew.heap.size w.drew).alloc (Nat.le_refl _) _ |>.block g (Array.getElem?_eq_some_iff.1 hg).1
  · exact row_other hu h3 fun g hg e => hub (hg.trans e.symm)
theorem wpList_append_mk {P : Program} (w : World) {ops : Array Oper} {rest : List Oper} {o : Oper} {a : Act} {Q : Exit → Act → World → Prop} (hgd : o.guard = none) (s x : Operand) (e t : TypeId)
    (ho : o.op = .call { callee := .builtin .append, args := #[s, x], argTypes := #[t, t] })
    (B : Nat) (cs : List Value) (z : Value) (by_ : Nat) (hcs : 0 < cs.length) (hone : ∀ u ∈ cs, u.oneCell' = true) (hinfo : (P.info? e).map (fun i => (i.zero, i.size, i.bytes)) = some (some z, cs.length, by_)) (hz : z.cells.size = cs.length) (ht : P.underlying t = some (.slice e))
    (v : Value) (k m : Nat) (hv : a.eval s = v) (h : Mk e cs B w v k) (gx cx : Nat) (hxe : a.eval x = .slice (some ⟨gx, 0, none⟩) m cx) (hx : ∀ (j : Nat) (u : Value), (pat cs m)[j]? = some u → w.cell? ⟨gx, j, none⟩ = some u) (hmx : k + m ≤ 100000000) (hmax : (k + m) * by_ ≤ 140737488355328) (hB : B ≤ w.heap.size)
    (hK : ∀ v' w', Mk e cs B w' v' (k + m) → w.grownBy w' v.ownBlock → (v'.ownBlock = v.ownBlock ∨ v'.ownBlock = some w.heap.size) → (∀ (u : Value) (k' : Nat), Mk e cs B w u k' → Mk e cs B w' u k') → wpList P ops Q rest (a.put o.dst v') w') : wpList P ops Q (o :: rest) a w := by
  obtain ⟨v', w', hr, h1, h2, h3, h4⟩ := append_mk (P := P) w B e t o.type cs z by_ hcs hone hinfo hz ht v k m h gx cx hx hmx hmax hB
  refine wpList_plain hgd fun _ hK' => ?_
  unfold Oper.wp
  simp [execOp, ho, resolve, invoke, builtin, hv, hxe, hr, Result.andThen]
  exact hK' _ _ (hK v' w' h1 h2 h3 h4)
end Mg
end Go.Proofs.Ytggenlnknnhjgaa
