import Derived.Test.YtenhaogheilmoaaDoorQVG
/-
  Rows of one and the same element: written over and lengthened.
-/
namespace Go.Proofs.YtenhaogheilmoaaDoor
open Go Go.RowKit
namespace Mg

/-- n times the same cells -/
def pat (cs : List Value) (n : Nat) : List Value := (List.replicate n cs).flatten
theorem pat_len (cs : List Value) (n : Nat) : (pat cs n).length = n * cs.length := by simp [pat]
theorem pat_succ (cs : List Value) (n : Nat) : pat cs (n + 1) = cs ++ pat cs n := by simp [pat, List.replicate_succ]
theorem pat_add (cs : List Value) (n k : Nat) : pat cs n ++ pat cs k = pat cs (n + k) := by
  unfold pat
  rw [← List.flatten_append, List.replicate_append_replicate]
theorem pat_get (cs : List Value) : ∀ (n p : Nat), p < n * cs.length → (pat cs n)[p]? = cs[p % cs.length]?
  | 0, p, h => by omega
  | n + 1, p, h => by
    rw [pat_succ]
    by_cases h1 : p < cs.length
    · rw [List.getElem?_append_left h1, Nat.mod_eq_of_lt h1]
    · rw [List.getElem?_append_right (by omega), pat_get cs n (p - cs.length) (by rw [Nat.add_mul] at h; omega), ← Nat.mod_eq_sub_mod (by omega)]
theorem pat_one (cs : List Value) (h : ∀ u ∈ cs, u.oneCell' = true) (n : Nat) : ∀ u ∈ pat cs n, u.oneCell' = true := fun u hu => by
  unfold pat at hu
  rw [List.mem_flatten] at hu
  obtain ⟨l, hl, hu⟩ := hu
  rw [List.mem_replicate] at hl
  exact h u (hl.2 ▸ hu)
theorem row_block {B : Nat} {w w' : World} {t : TypeId} {s n : Nat} {v : Value} {xs : List Value} (h : w.ownsRow B t s v n xs) (hg : ∀ g, v.ownBlock = some g → w'.heap[g]? = w.heap[g]?) : w'.ownsRow B t s v n xs := by
  refine ⟨h.1, ?_⟩
  rcases h.2 with h1 | ⟨g, cap, cur, e, hb, hh, rest⟩
  · exact .inl h1
  · exact .inr ⟨g, cap, cur, e, hb, (hg g (by rw [e]; rfl)).trans hh, rest⟩
theorem row_kept {B : Nat} {w w' : World} {t : TypeId} {s n : Nat} {v : Value} {xs : List Value} (h : w.ownsRow B t s v n xs) (hb : Below w.heap.size w w') : w'.ownsRow B t s v n xs := row_block h fun g hg => hb.block g (World.ownsRow.lt h g hg).2
theorem row_type {B : Nat} {w : World} {t : TypeId} {s n : Nat} {v : Value} {xs : List Value} (h : w.ownsRow B t s v n xs) (g : Nat) (hg : v.ownBlock = some g) : ∃ cur, w.heap[g]? = some (.cells cur t) := by
  rcases h.2 with ⟨rfl, _⟩ | ⟨g1, cap, cur, rfl, _, hh, _⟩
  · cases hg
  · obtain rfl : g1 = g := by simpa [Value.ownBlock] using hg
    exact ⟨cur, hh⟩
/-- two rows of unlike kinds have unlike blocks -/
theorem kinds_apart {B B' : Nat} {w : World} {t t' : TypeId} {s s' n n' : Nat} {v v' : Value} {xs xs' : List Value} (h : w.ownsRow B t s v n xs) (h' : w.ownsRow B' t' s' v' n' xs') (ht : t ≠ t') (g : Nat) (hg : v.ownBlock = some g) : v'.ownBlock ≠ some g := fun hg' => by
  obtain ⟨c, hc⟩ := row_type h g hg
  obtain ⟨c', hc'⟩ := row_type h' g hg'
  rw [hc] at hc'
  simp at hc'
  exact ht hc'.2
/-- a row is left alone by what changes another block -/
theorem row_other {B : Nat} {w w' : World} {t : TypeId} {s n : Nat} {v : Value} {xs : List Value} {row : Option Nat} (h : w.ownsRow B t s v n xs) (k : w.grownBy w' row) (hne : ∀ g, v.ownBlock = some g → row ≠ some g) : w'.ownsRow B t s v n xs :=
  row_block h fun g hg => k.block g (World.ownsRow.lt h g hg).2 fun e => hne g hg e.symm
theorem row_shape {B : Nat} {w : World} {t : TypeId} {s n : Nat} {v : Value} {xs : List Value} (h : w.ownsRow B t s v n xs) : ∃ a, ∃ c : Nat, v = .slice a n c ∧ n ≤ c ∧ c ≤ maxLen := by
  rcases h.2 with ⟨rfl, rfl⟩ | ⟨g, cap, cur, rfl, _, _, h1, h2, _⟩
  · exact ⟨none, 0, rfl, Nat.le_refl _, Nat.zero_le _⟩
  · exact ⟨_, _, rfl, h1, h2⟩
/-- n times the same element in a row -/
def Mk (e : TypeId) (cs : List Value) (B : Nat) (w : World) (v : Value) (n : Nat) : Prop := w.ownsRow B e cs.length v n (pat cs n)
/-- the first k places written over -/
def fil (cs : List Value) (xs : List Value) (k : Nat) : List Value := pat cs k ++ xs.drop (k * cs.length)
theorem fil_zero (cs xs : List Value) : fil cs xs 0 = xs := by simp [fil, pat]
theorem fil_end (cs xs : List Value) (n : Nat) (h : xs.length = n * cs.length) : fil cs xs n = pat cs n := by
  unfold fil
  rw [← h, List.drop_length, List.append_nil]
theorem fil_len (cs xs : List Value) (n k : Nat) (h : xs.length = n * cs.length) (hk : k ≤ n) : (fil cs xs k).length = n * cs.length := by
  unfold fil
  rw [List.length_append, pat_len, List.length_drop, h]
  have := Nat.mul_le_mul_right cs.length hk
  omega
theorem owns_setCells {B : Nat} {e : TypeId} {s n cap g : Nat} : ∀ (vs : List Value) (o : Nat) (w : World) (xs : List Value), w.ownsRow B e s (.slice (some ⟨g, 0, none⟩) n cap) n xs → o + vs.length ≤ xs.length →
    (w.setCells g o vs).ownsRow B e s (.slice (some ⟨g, 0, none⟩) n cap) n (xs.take o ++ vs ++ xs.drop (o + vs.length)) ∧ w.grownBy (w.setCells g o vs) (some g)
  | [], o, w, xs, h, _ => by
    refine ⟨?_, World.grownBy.refl _ _⟩
    show w.ownsRow _ _ _ _ _ _
    rw [List.append_nil, List.length_nil, Nat.add_zero, List.take_append_drop]
    exact h
  | v :: r, o, w, xs, h, hl => by
    have s1 := World.ownsRow.stored h o v
    rw [List.length_cons] at hl
    obtain ⟨h2, g2⟩ := owns_setCells r (o + 1) _ _ s1.1 (by rw [List.length_set]; omega)
    refine ⟨?_, ⟨g2.os.trans s1.2.os, g2.tape.trans s1.2.tape, g2.output.trans s1.2.output, Nat.le_trans s1.2.size g2.size, fun q hq hn => (g2.block q (Nat.lt_of_lt_of_le hq s1.2.size) hn).trans (s1.2.block q hq hn)⟩⟩
    show ((w.setCell ⟨g, o, none⟩ v).setCells g (o + 1) r).ownsRow _ _ _ _ _ _
    have e1 : (xs.set o v).take (o + 1) = xs.take o ++ [v] := by
      rw [List.take_succ_eq_append_getElem (by rw [List.length_set]; omega), List.getElem_set_self, List.take_set_of_le (Nat.le_refl _)]
    have e2 : (xs.set o v).drop (o + 1 + r.length) = xs.drop (o + (r.length + 1)) := by
      rw [List.drop_set_of_lt (by omega), show o + 1 + r.length = o + (r.length + 1) by omega]
    rw [e1, e2] at h2
    rw [List.length_cons]
    simpa using h2
theorem fill_step {B : Nat} {w : World} {e : TypeId} {cs xs : List Value} {a : Option Addr} {n cap k : Nat} (hcs : 0 < cs.length) (hx : xs.length = n * cs.length) (h : w.ownsRow B e cs.length (.slice a n cap) n (fil cs xs k)) (hk : k < n) :
    ∃ g, a = some ⟨g, 0, none⟩ ∧ w.there g (k * cs.length) cs.length ∧ (w.setCells g (k * cs.length) cs).ownsRow B e cs.length (.slice a n cap) n (fil cs xs (k + 1)) ∧ w.grownBy (w.setCells g (k * cs.length) cs) (some g) ∧ B ≤ g := by
  have hl := fil_len cs xs n k hx (by omega)
  have hkn : k * cs.length + cs.length ≤ n * cs.length := by
    have := Nat.mul_le_mul_right cs.length (show k + 1 ≤ n by omega)
    rw [Nat.add_mul, Nat.one_mul] at this
    exact this
  rcases h.2 with ⟨_, h0⟩ | ⟨g, cap', cur, e', hBg, hg, hnc, hcm, hcs', htk⟩
  · omega
  · simp only [Value.slice.injEq, true_and] at e'
    obtain ⟨rfl, rfl⟩ := e'
    obtain ⟨h2, g2⟩ := owns_setCells cs (k * cs.length) w _ h (by omega)
    refine ⟨g, rfl, fun j hj => ?_, ?_, g2, hBg⟩
    · refine ⟨?_, World.ownsRow.frozenAt h (k * cs.length + j)⟩
      have hc := h.cellAt (k * cs.length + j) (by omega)
      rw [hc, List.getElem?_eq_getElem (by omega)]
      rfl
    · have e3 : (fil cs xs k).take (k * cs.length) ++ cs ++ (fil cs xs k).drop (k * cs.length + cs.length) = fil cs xs (k + 1) := by
        unfold fil
        rw [List.take_append_of_le_length (by rw [pat_len]; exact Nat.le_refl _), List.take_of_length_le (by rw [pat_len]; exact Nat.le_refl _), ← pat_add, List.drop_append, List.drop_of_length_le (by rw [pat_len]; omega), pat_len, List.nil_append, List.drop_drop, show k * cs.length + (k * cs.length + cs.length - k * cs.length) = (k + 1) * cs.length by rw [Nat.add_mul]; omega]
        simp [pat]
      rw [e3] at h2
      exact h2
/-- append of m more onto n: what it makes, and that every view of the same stays -/
theorem append_mk {P : Program} (w : World) (B : Nat) (e t ty : TypeId) (cs : List Value) (z : Value) (by_ : Nat) (hcs : 0 < cs.length) (hone : ∀ u ∈ cs, u.oneCell' = true) (hinfo : (P.info? e).map (fun i => (i.zero, i.size, i.bytes)) = some (some z, cs.length, by_)) (hz : z.cells.size = cs.length) (ht : P.underlying t = some (.slice e))
    (v : Value) (k m : Nat) (h : Mk e cs B w v k) (gx cx : Nat) (hx : ∀ (j : Nat) (u : Value), (pat cs m)[j]? = some u → w.cell? ⟨gx, j, none⟩ = some u) (hmx : k + m ≤ 100000000) (hmax : (k + m) * by_ ≤ 140737488355328) (hB : B ≤ w.heap.size) :
    ∃ v' w', (Builtin.append_ #[t, t] ty #[v, .slice (some ⟨gx, 0, none⟩) m cx]).run P w = .ok v' w' ∧ Mk e cs B w' v' (k + m) ∧ w.grownBy w' v.ownBlock ∧ (v'.ownBlock = v.ownBlock ∨ v'.ownBlock = some w.heap.size) ∧
      ∀ (u : Value) (k' : Nat), Mk e cs B w u k' → Mk e cs B w' u k' := by
  obtain ⟨i0, hi, hz0, hz1, hz2⟩ := Lft.info_parts3 hinfo
  have hnews : ∀ j u, (pat cs m)[j]? = some u → w.cell? ((⟨gx, 0, none⟩ : Addr).add j) = some u := fun j u hj => by
    rw [Addr.add_lit, Nat.zero_add]
    exact hx j u hj
  obtain ⟨v', w', hr, h2, h3, _, h5⟩ := run_append_own_at (P := P) w B t ty e i0 z cs.length by_ ht hi hz0 hz1 hz2 hz hcs v k (pat cs k) h ⟨gx, 0, none⟩ m cx (pat cs m) (pat_len cs m) hnews (pat_one cs hone m) (by unfold maxLen; omega) hmax hB
  rw [pat_add] at h2
  refine ⟨v', w', hr, h2, h3, h5, fun u k' hu => ?_⟩
  by_cases hub : u.ownBlock = v.ownBlock
  · rcases hu.2 with ⟨rfl, h0⟩ | ⟨g, cap, cur, rfl, hbg, hg, hnc, hcm, hcs1, htk⟩
    · exact ⟨hu.1, .inl ⟨rfl, h0⟩⟩
    · rcases h.2 with ⟨rfl, _⟩ | ⟨g', cap', cur', rfl, hbg', hg', hnc', hcm', hcs', htk'⟩
      · cases hub
      · obtain rfl : g = g' := by simpa [Value.ownBlock] using hub
        obtain rfl : cur = cur' := by
          have := hg.symm.trans hg'
          simpa using this
        have hcc : cap = cap' := by
          have h9 : cap * cs.length = cap' * cs.length := by rw [← hcs1, ← hcs']
          exact Nat.eq_of_mul_eq_mul_right hcs h9
        subst hcc
        by_cases hroom : k + m ≤ cap
        · have hfl : (k + m) * cs.length ≤ cap * cs.length := Nat.mul_le_mul_right _ hroom
          have hfl2 : (k + m) * cs.length = k * cs.length + m * cs.length := Nat.add_mul _ _ _
          have hfit : k * i0.size + (pat cs m).length ≤ cur.size := by rw [hz1, pat_len, hcs1]; omega
          have hr2 := run_append_room (P := P) w t ty e i0 ht hi g k cap cur hg ⟨gx, 0, none⟩ m cx (pat cs m) (by rw [hz1, pat_len]) hnews (pat_one cs hone m) hroom hfit
          rw [hr2] at hr
          injection hr with e1 e2
          subst e1 e2
          refine ⟨hu.1, .inr ⟨g, cap, _, rfl, hbg, setRow_heap w g cur _ e _ hg, hnc, hcm, ?_, ?_⟩⟩
          · simp only [List.size_toArray, List.length_append, List.length_take, List.length_drop, Array.length_toList, hz1, pat_len]
            omega
          · rw [← htk, hz1, pat_len]
            have hcp : ∀ p, p < k' * cs.length → cur.toList[p]? = cs[p % cs.length]? := fun p hp => by
              have h9 : (cur.toList.take (k' * cs.length))[p]? = (pat cs k')[p]? := by rw [htk]
              rw [List.getElem?_take_of_lt hp] at h9
              rw [h9, pat_get cs k' p hp]
            have hcl : cur.toList.length = cur.size := Array.length_toList
            refine List.ext_getElem? fun p => ?_
            by_cases hp : p < k' * cs.length
            · rw [List.getElem?_take_of_lt hp, List.getElem?_take_of_lt hp]
              by_cases h1 : p < k * cs.length
              · rw [List.append_assoc, List.getElem?_append_left (by rw [List.length_take, hcl]; omega), List.getElem?_take_of_lt h1]
              · have htl : (cur.toList.take (k * cs.length)).length = k * cs.length := by rw [List.length_take, hcl]; omega
                by_cases h2 : p < (k + m) * cs.length
                · rw [List.append_assoc, List.getElem?_append_right (by omega), htl, List.getElem?_append_left (by rw [pat_len]; omega), pat_get cs m (p - k * cs.length) (by omega), hcp p hp]
                  congr 1
                  have e9 : p = (p - k * cs.length) + cs.length * k := by rw [Nat.mul_comm cs.length k]; omega
                  conv => rhs; rw [e9]
                  rw [Nat.add_mul_mod_self_left]
                · rw [List.append_assoc, List.getElem?_append_right (by omega), htl, List.getElem?_append_right (by rw [pat_len]; omega), pat_len, List.getElem?_drop]
                  congr 1
                  omega
            · rw [List.getElem?_eq_none (by rw [List.length_take]; omega), List.getElem?_eq_none (by rw [List.length_take]; omega)]
        · have holds : ∀ j u, (pat cs k)[j]? = some u → w.cell? ((⟨g, 0, none⟩ : Addr).add j) = some u := World.ownsRow.cells h (g := g) rfl
          have hr2 := run_append_grow (P := P) w t ty e i0 _ ht hi hz0 ⟨g, 0, none⟩ k cap (pat cs k) (by rw [hz1, pat_len]) holds ⟨gx, 0, none⟩ m cx (pat cs m) (by rw [hz1, pat_len]) hnews (by omega) (by omega) (growslice_fits (by omega) (by rw [hz2]; exact hmax))
          rw [hr2] at hr
          injection hr with e1 e2
          subst e1 e2
          refine ⟨hu.1, .inr ⟨g, cap, cur, rfl, hbg, ?_, hnc, hcm, hcs1, htk⟩⟩
          rw [← hg]
          exact (Below.refl w.drew.heap.size w.drew).alloc (Nat.le_refl _) _ |>.block g (Array.getElem?_eq_some_iff.1 hg).1
  · exact row_other hu h3 fun g hg e => hub (hg.trans e.symm)
theorem wpList_append_mk {P : Program} (w : World) {ops : Array Oper} {rest : List Oper} {o : Oper} {a : Act} {Q : Exit → Act → World → Prop} (hgd : o.guard = none) (s x : Operand) (e t : TypeId)
    (ho : o.op = .call { callee := .builtin .append, args := #[s, x], argTypes := #[t, t] })
    (B : Nat) (cs : List Value) (z : Value) (by_ : Nat) (hcs : 0 < cs.length) (hone : ∀ u ∈ cs, u.oneCell' = true) (hinfo : (P.info? e).map (fun i => (i.zero, i.size, i.bytes)) = some (some z, cs.length, by_)) (hz : z.cells.size = cs.length) (ht : P.underlying t = some (.slice e))
    (v : Value) (k m : Nat) (hv : a.eval s = v) (h : Mk e cs B w v k) (gx cx : Nat) (hxe : a.eval x = .slice (some ⟨gx, 0, none⟩) m cx) (hx : ∀ (j : Nat) (u : Value), (pat cs m)[j]? = some u → w.cell? ⟨gx, j, none⟩ = some u) (hmx : k + m ≤ 100000000) (hmax : (k + m) * by_ ≤ 140737488355328) (hB : B ≤ w.heap.size)
    (hK : ∀ v' w', Mk e cs B w' v' (k + m) → w.grownBy w' v.ownBlock → (v'.ownBlock = v.ownBlock ∨ v'.ownBlock = some w.heap.size) → (∀ (u : Value) (k' : Nat), Mk e cs B w u k' → Mk e cs B w' u k') → wpList P ops Q rest (a.put o.dst v') w') : wpList P ops Q (o :: rest) a w := by
  obtain ⟨v', w', hr, h1, h2, h3, h4⟩ := append_mk (P := P) w B e t o.type cs z by_ hcs hone hinfo hz ht v k m h gx cx hx hmx hmax hB
  refine wpList_plain hgd fun _ hK' => ?_
  unfold Oper.wp
  simp [execOp, ho, resolve, invoke, builtin, hv, hxe, hr, Result.andThen]
  exact hK' _ _ (hK v' w' h1 h2 h3 h4)
end Mg
end Go.Proofs.YtenhaogheilmoaaDoor

/-
  ArchivePacks: longer.
-/
namespace Go.Proofs.YtenhaogheilmoaaDoor
open Go Go.RowKit
open Wb

def mv (m : Nat) : List Value := [.int .u8 (m : Int)]
theorem grown_on {w w1 w2 : World} {b b' : Option Nat} (h : w.grownBy w1 b) (h2 : w1.grownBy w2 b') (hb : b' = b ∨ ∀ g, b' = some g → w.heap.size ≤ g) : w.grownBy w2 b := by
  refine ⟨h2.os.trans h.os, h2.tape.trans h.tape, h2.output.trans h.output, Nat.le_trans h.size h2.size, fun k hk hne => ?_⟩
  refine (h2.block k (Nat.lt_of_lt_of_le hk h.size) ?_).trans (h.block k hk hne)
  rcases hb with rfl | hb
  · exact hne
  · intro e
    have := hb k e.symm
    omega
set_option maxRecDepth 100000 in
set_option maxHeartbeats 4000000 in
theorem arlonger_any (B m k : Nat) (v : Value) (w : World) (h : Mg.Mk 5 (mv m) B w v k) (hk : k ≤ 9000000) (hB : B ≤ w.heap.size) :
    Calls Tryd.prog 26 #[v, .int .u8 (m : Int)] w fun e w' => ∃ v', e = .returned v' ∧ Mg.Mk 5 (mv m) B w' v' (k + 200) ∧ (∀ u k', Mg.Mk 5 (mv m) B w u k' → Mg.Mk 5 (mv m) B w' u k') ∧ w.grownBy w' v.ownBlock ∧ (v'.ownBlock = v.ownBlock ∨ ∀ g, v'.ownBlock = some g → w.heap.size ≤ g) := by
  have hin := info5
  have HCS : Hid (0 < (mv m).length ∧ ∀ u ∈ mv m, u.oneCell' = true) := ⟨Nat.one_pos, fun u hu => by simp [mv] at hu; rw [hu]; rfl⟩
  have H0 : Hid (Mg.Mk 5 (mv m) B w v k) := h
  obtain ⟨av, cv, rfl, -, -⟩ := Mg.row_shape h
  clear h
  go_enter Tryd.func26, Tryd.ntmps26
  go_wp2_with fail
  go_loopw [0, 5] (fun o i wr => ∃ (j : Nat) (a : Option Addr) (c : Nat), j ≤ 200 ∧ i = .int .i64 (j : Int) ∧ o = .slice a (k + j) c ∧ Mg.Mk 5 (mv m) B wr (.slice a (k + j) c) (k + j) ∧ (∀ u k', Mg.Mk 5 (mv m) B w u k' → Mg.Mk 5 (mv m) B wr u k') ∧ w.grownBy wr (Value.slice av k cv).ownBlock ∧ ((Value.slice a (k + j) c).ownBlock = (Value.slice av k cv).ownBlock ∨ ∀ g, (Value.slice a (k + j) c).ownBlock = some g → w.heap.size ≤ g)) (fun _ i _ => 200 - (intOf i).toNat)
  case atStart => exact ⟨0, av, cv, by omega, rfl, rfl, H0.out, fun _ _ h => h, World.grownBy.refl _ _, .inl rfl⟩
  case round =>
    obtain ⟨j, a, c, hj, rfl, rfl, h1, h2, h3, h4⟩ := hrel
    have HR : Hid (∀ o, Mg.Mk 5 (mv m) B (wr.alloc o) (.slice a (k + j) c) (k + j) ∧ (∀ u k', Mg.Mk 5 (mv m) B w u k' → Mg.Mk 5 (mv m) B (wr.alloc o) u k') ∧ w.grownBy (wr.alloc o) (Value.slice av k cv).ownBlock ∧ ((Value.slice a (k + j) c).ownBlock = (Value.slice av k cv).ownBlock ∨ ∀ g, (Value.slice a (k + j) c).ownBlock = some g → w.heap.size ≤ g) ∧ w.heap.size ≤ (wr.alloc o).heap.size) := fun o => by
      have hg : wr.grownBy (wr.alloc o) none := ⟨rfl, rfl, rfl, (up0 wr o).size, fun q hq _ => (up0 wr o).block q hq⟩
      exact ⟨Mg.row_kept h1 (up0 _ _), fun u k' hu => Mg.row_kept (h2 u k' hu) (up0 _ _), grown_on h3 hg (.inr fun g e => by cases e), h4, Nat.le_trans h3.size (up0 wr o).size⟩
    have HX : Hid (∀ (q : Nat) (u : Value), (Mg.pat (mv m) 1)[q]? = some u → (wr.alloc (.cells #[.int .u8 (m : Int)] 5)).cell? ⟨wr.heap.size, q, none⟩ = some u) := fun q u hu => (lb_new wr [.int .u8 (m : Int)] 5).cell q u hu
    have HH : Hid (Mg.Mk 5 (mv m) B wr (.slice a (k + j) c) (k + j) ∧ (∀ u k', Mg.Mk 5 (mv m) B w u k' → Mg.Mk 5 (mv m) B wr u k') ∧ w.grownBy wr (Value.slice av k cv).ownBlock ∧ ((Value.slice a (k + j) c).ownBlock = (Value.slice av k cv).ownBlock ∨ ∀ g, (Value.slice a (k + j) c).ownBlock = some g → w.heap.size ≤ g)) := ⟨h1, h2, h3, h4⟩
    clear h1 h2 h3 h4
    by_cases hlt : j < 200
    · have hd : ((j : Int) < 200) = True := by simp only [eq_iff_iff, iff_true]; omega
      go_wp2_with (at_builtin; refine Mg.wpList_append_mk _ rfl (.tmp 10) (.tmp 12) 5 25 rfl B (mv m) (.int .u8 0) 1 HCS.out.1 HCS.out.2 hin rfl Tryd.underlying25 _ (k + j) 1 rfl (HR.out _).1 wr.heap.size 1 rfl HX.out (by omega) (by omega) (by have := (HR.out (.cells #[.int .u8 (m : Int)] 5)).2.2.2.2; omega) ?_)
      intro v2 w2 k1 k2 k3 k4
      obtain ⟨a2, c2, e2, -, -⟩ := Mg.row_shape k1
      have R2 : Hid (Mg.Mk 5 (mv m) B w2 v2 (k + j + 1) ∧ (∀ u k', Mg.Mk 5 (mv m) B w u k' → Mg.Mk 5 (mv m) B w2 u k') ∧ w.grownBy w2 (Value.slice av k cv).ownBlock ∧ (v2.ownBlock = (Value.slice av k cv).ownBlock ∨ ∀ g, v2.ownBlock = some g → w.heap.size ≤ g)) := by
        have hr := HR.out (.cells #[.int .u8 (m : Int)] 5)
        refine ⟨k1, fun u k' hu => k4 u k' (hr.2.1 u k' hu), grown_on hr.2.2.1 k2 hr.2.2.2.1, ?_⟩
        rcases k3 with e | e
        · rw [e]
          exact hr.2.2.2.1
        · exact .inr fun g eg => by
            have h9 := hr.2.2.2.2
            rw [heap_one] at h9
            have e9 := Option.some.inj (e.symm.trans eg)
            first | exact e9 ▸ h9 | omega
      subst e2
      clear k1 k2 k3 k4 HR HX hd HH
      go_wp2_with fail
      go_roundw
      case rel => exact ⟨j + 1, a2, c2, by omega, by go_num, rfl, R2.out.1, R2.out.2.1, R2.out.2.2.1, R2.out.2.2.2⟩
      case measure => simp [intOf]; omega
    · obtain rfl : j = 200 := by omega
      have R2 : Hid (Mg.Mk 5 (mv m) B wr (.slice a (k + 200) c) (k + 200) ∧ (∀ u k', Mg.Mk 5 (mv m) B w u k' → Mg.Mk 5 (mv m) B wr u k') ∧ w.grownBy wr (Value.slice av k cv).ownBlock ∧ ((Value.slice a (k + 200) c).ownBlock = (Value.slice av k cv).ownBlock ∨ ∀ g, (Value.slice a (k + 200) c).ownBlock = some g → w.heap.size ≤ g)) := HH.out
      clear HR HX HH
      go_wp2_with fail
      go_ret
      exact ⟨_, rfl, R2.out.1, R2.out.2.1, R2.out.2.2.1, R2.out.2.2.2⟩
end Go.Proofs.YtenhaogheilmoaaDoor

/-
  ArchivePacks: the Book: whole.
-/
namespace Go.Proofs.YtenhaogheilmoaaDoor
open Go Go.RowKit
open Wb

/-- byte strings that were handed out, each of one mark: a slice, its length, its mark -/
structure Bk (B : Nat) (w : World) (gK : Nat) (vl vm : Value) (rows : List (Value × Nat × Nat)) : Prop where
  box : LB w gK 38 [vl, vm]
  lists : w.ownsRow B 25 1 vl rows.length (rows.map (·.1))
  marks : Own B w vm (rows.map (·.2.2))
  rws : ∀ r ∈ rows, Mg.Mk 5 (mv r.2.2) B w r.1 r.2.1
  apart : ∀ r ∈ rows, ∀ g, r.1.ownBlock = some g → vm.ownBlock ≠ some g
theorem Bk.kept {B : Nat} {w w' : World} {gK : Nat} {vl vm : Value} {rows : List (Value × Nat × Nat)} (h : Bk B w gK vl vm rows) (hb : Below w.heap.size w w') : Bk B w' gK vl vm rows := ⟨h.box.kept hb, Mg.row_kept h.lists hb, h.marks.kept hb, fun r hr => Mg.row_kept (h.rws r hr) hb, h.apart⟩
set_option maxRecDepth 100000 in
set_option maxHeartbeats 4000000 in
theorem arwhole_any (B gK : Nat) (vl vm : Value) (rows : List (Value × Nat × Nat)) (w : World) (h : Bk B w gK vl vm rows) (hn : rows.length ≤ 1000) :
    Calls Tryd.prog 12 #[.pointer (some ⟨gK, 0, none⟩)] w fun e w' => e = .returned (.bool true) ∧ Below w.heap.size w w' := by
  have H0 : Hid (∀ W, Below w.heap.size w W → Bk B W gK vl vm rows) := fun W hW => h.kept hW
  obtain ⟨al, cl, rfl, hl1, hl2⟩ := Mg.row_shape h.lists
  obtain ⟨am, cm, em, hm1, hm2, -⟩ := h.marks.bs.shape
  rw [List.length_map] at em hm1
  subst em
  unfold maxLen at hl2 hm2
  clear h
  go_enter Tryd.func12, Tryd.ntmps12
  go_wp2_with fail
  go_loopw [3] (fun i wr => ∃ k : Nat, k ≤ rows.length ∧ i = .int .i64 (k : Int) ∧ Below w.heap.size w wr) (fun i _ => rows.length - (intOf i).toNat)
  case atStart => exact ⟨0, Nat.zero_le _, rfl, Below.refl _ _⟩
  case round =>
    obtain ⟨k, hk, rfl, hbel⟩ := hrel
    by_cases hlt : k < rows.length
    · obtain ⟨r, hr⟩ : ∃ r, rows[k]? = some r := ⟨rows[k], List.getElem?_eq_getElem hlt⟩
      have hbk := H0.out _ hbel
      obtain ⟨ar, cr, er, hr1, hr2⟩ := Mg.row_shape (hbk.rws r (List.mem_of_getElem? hr))
      obtain ⟨gl, rfl⟩ : ∃ gl, al = some ⟨gl, 0, none⟩ := by
        rcases hbk.lists.2 with ⟨e, h0⟩ | ⟨gl, c', cur, e, -⟩
        · omega
        · simp only [Value.slice.injEq] at e
          exact ⟨gl, e.1⟩
      obtain ⟨gm, om, rfl⟩ : ∃ gm om, am = some ⟨gm, om, none⟩ := by
        obtain ⟨a', c', e, -, -, -, hc⟩ := hbk.marks.bs.shape
        obtain ⟨b, off, e2, -⟩ := hc (List.ne_nil_of_length_pos (by rw [List.length_map]; omega))
        simp only [Value.slice.injEq] at e
        exact ⟨b, off, e.1.trans e2⟩
      have HC : Hid (∀ W, Below w.heap.size w W → W.cell? ⟨gK, 0, none⟩ = some (.slice (some ⟨gl, 0, none⟩) rows.length cl) ∧ W.cell? ⟨gK, 1, none⟩ = some (.slice (some ⟨gm, om, none⟩) rows.length cm) ∧ W.cell? ⟨gl, k, none⟩ = some (.slice ar r.2.1 cr) ∧ W.cell? ⟨gm, om + k, none⟩ = some (.int .u8 (r.2.2 : Int)) ∧ ∀ q, q < r.2.1 → ∃ g, ar = some ⟨g, 0, none⟩ ∧ W.cell? ⟨g, q, none⟩ = some (.int .u8 (r.2.2 : Int))) := fun W hW => by
        have hb := H0.out W hW
        refine ⟨hb.box.cell 0 _ rfl, hb.box.cell 1 _ rfl, ?_, ?_, fun q hq => ?_⟩
        · have e := World.ownsRow.cellAt hb.lists k (by rw [Nat.mul_one]; omega)
          rw [e, List.getElem?_map, hr, ← er]
          rfl
        · obtain ⟨a', c', e, -, -, -, hc⟩ := hb.marks.bs.shape
          obtain ⟨b, off, e2, hcell⟩ := hc (List.ne_nil_of_length_pos (by rw [List.length_map]; omega))
          simp only [Value.slice.injEq] at e
          have e3 := e.1.trans e2
          simp only [Option.some.injEq, Addr.mk.injEq, and_true] at e3
          obtain ⟨rfl, rfl⟩ := e3
          have e4 := hcell k (by rw [List.length_map]; exact hlt)
          rw [e4]
          have e5 : (rows.map (·.2.2))[k]'(by rw [List.length_map]; exact hlt) = r.2.2 := by
            rw [List.getElem_map, (List.getElem?_eq_some_iff.1 hr).2]
          rw [e5]
        · have hrow := hb.rws r (List.mem_of_getElem? hr)
          rcases hrow.2 with ⟨e, h0⟩ | ⟨g, c', cur, e, -⟩
          · omega
          · rw [er] at e
            simp only [Value.slice.injEq] at e
            refine ⟨g, e.1, ?_⟩
            have hrow2 := hrow
            rw [er, e.1] at hrow2
            have e6 := World.ownsRow.cellAt hrow2 q (by simp [mv]; omega)
            rw [e6, Mg.pat_get _ _ _ (by simp [mv]; omega)]
            simp [mv, Nat.mod_one]
      unfold maxLen at hr2
      generalize r.2.1 = n at *
      generalize r.2.2 = m at *
      have HBL : Hid (Below w.heap.size w wr) := hbel
      obtain ⟨x0, x1, x2, -, -⟩ := HC.out _ hbel
      clear hbk er hr hbel
      go_wp2_with fail
      go_loopw [4] (fun i wr2 => ∃ q : Nat, q ≤ n ∧ i = .int .i64 (q : Int) ∧ Below w.heap.size w wr2) (fun i _ => n - (intOf i).toNat)
      case atStart => exact ⟨0, Nat.zero_le _, rfl, HBL.out⟩
      case round =>
        clear x0 x1 x2
        obtain ⟨q, hq, rfl, hbel⟩ := hrel
        obtain ⟨x0, x1, x2, x3, hx⟩ := HC.out _ hbel
        by_cases hql : q < n
        · obtain ⟨g, rfl, x4⟩ := hx q hql
          have HB3 : Hid (∀ t, Below w.heap.size w (wr.drewN t)) := fun t => bel_drewN hbel t
          have d1 : ((m : Int) != (m : Int)) = false := by simp
          clear hx hbel HBL
          go_wp2_with fail
          go_quiet (fail)
          go_wp2_with fail
          go_roundw
          case rel => exact ⟨q + 1, by omega, by go_num, HB3.out _⟩
          case measure => simp [intOf]; omega
        · obtain rfl : q = n := by omega
          have HB3 : Hid (Below w.heap.size w wr) := hbel
          clear hx hbel HBL
          go_wp2_with fail
          go_roundw
          case rel => exact ⟨k + 1, by omega, by go_num, HB3.out⟩
          case measure => simp [intOf]; omega
    · obtain rfl : k = rows.length := by omega
      have hbk := H0.out _ hbel
      have x0 := hbk.box.cell 0 _ rfl
      have HB3 : Hid (Below w.heap.size w wr) := hbel
      clear hbk hbel
      go_wp2_with fail
      go_ret
      exact ⟨rfl, HB3.out⟩
end Go.Proofs.YtenhaogheilmoaaDoor
