/-
  WireLent: rows of byte strings that are written over and lengthened.
-/
import Derived.Test.YtppgijgmhjfdfaaDoorWo4
import Derived.Test.YtppgijgmhjfdfaaDoorRRfs
import Derived.Test.YtppgijgmhjfdfaaDoorRef2
namespace Go.Proofs.YtppgijgmhjfdfaaDoor
open Go Go.RowKit
open Wb

/-- rows of unlike kinds lie apart -/
theorem rows_apart {B B' : Nat} {w : World} {t t' : TypeId} {s s' n n' : Nat} {v v' : Value} {xs xs' : List Value} (h : w.ownsRow B t s v n xs) (h' : w.ownsRow B' t' s' v' n' xs') (ht : t ≠ t') : Ap v v' := fun g hg hg' => by
  rcases h.2 with ⟨rfl, _⟩ | ⟨g1, cap, cur, rfl, _, hh, _⟩
  · cases hg
  · rcases h'.2 with ⟨rfl, _⟩ | ⟨g2, cap', cur', rfl, _, hh', _⟩
    · cases hg'
    · obtain rfl : g1 = g := by simpa [Value.ownBlock] using hg
      obtain rfl : g2 = g1 := by simpa [Value.ownBlock] using hg'
      rw [hh] at hh'
      simp at hh'
      exact ht hh'.2
/-- append onto a row of values: what it makes, and that every shorter view stays -/
theorem append_views {P : Program} (w : World) (B : Nat) (e t ty : TypeId) (hinfo : (P.info? e).map (fun i => (i.zero, i.size, i.bytes)) = some (some (.slice none 0 0), 1, 24)) (ht : P.underlying t = some (.slice e))
    (v : Value) (xs : List Value) (h : w.ownsRow B e 1 v xs.length xs) (gx : Nat) (x : Value) (hx : w.cell? ⟨gx, 0, none⟩ = some x) (h1 : x.oneCell' = true) (hmax : xs.length ≤ 5000000000) (hB : B ≤ w.heap.size) :
    ∃ v' w', (Builtin.append_ #[t, t] ty #[v, .slice (some ⟨gx, 0, none⟩) 1 1]).run P w = .ok v' w' ∧ w'.ownsRow B e 1 v' (xs ++ [x]).length (xs ++ [x]) ∧ w.grownBy w' v.ownBlock ∧ (v'.ownBlock = v.ownBlock ∨ v'.ownBlock = some w.heap.size) ∧
      ∀ u (xs' : List Value), w.ownsRow B e 1 u xs'.length xs' → xs'.length ≤ xs.length → w'.ownsRow B e 1 u xs'.length xs' := by
  obtain ⟨i0, hi, hz0, hz1, hz2⟩ := Lft.info_parts3 hinfo
  have hnews : ∀ j u, ([x] : List Value)[j]? = some u → w.cell? ((⟨gx, 0, none⟩ : Addr).add j) = some u := fun j u hj => by
    match j, hj with
    | 0, hj => simp at hj; subst hj; simpa [Addr.add] using hx
  have hone : ∀ u ∈ [x], u.oneCell' = true := fun u hu => by
    obtain rfl := List.mem_singleton.1 hu
    exact h1
  obtain ⟨v', w', hr, h2, h3, _, h5⟩ := run_append_own_at (P := P) w B t ty e i0 (.slice none 0 0) 1 24 ht hi hz0 hz1 hz2 rfl (by decide) v xs.length xs h ⟨gx, 0, none⟩ 1 1 [x] rfl hnews hone (by unfold maxLen; omega) (by omega) hB
  refine ⟨v', w', hr, by rw [List.length_append]; exact h2, h3, h5, fun u xs' hu hn' => ?_⟩
  by_cases hub : u.ownBlock = v.ownBlock
  · rcases hu.2 with ⟨rfl, h0⟩ | ⟨g, cap, cur, rfl, hbg, hg, hnc, hcm, hcs, htk⟩
    · exact ⟨hu.1, .inl ⟨rfl, h0⟩⟩
    · rcases h.2 with ⟨rfl, _⟩ | ⟨g', cap', cur', rfl, hbg', hg', hnc', hcm', hcs', htk'⟩
      · cases hub
      · obtain rfl : g = g' := by simpa [Value.ownBlock] using hub
        obtain rfl : cur = cur' := by
          have := hg.symm.trans hg'
          simpa using this
        have hcc : cap = cap' := by omega
        subst hcc
        by_cases hroom : xs.length + 1 ≤ cap
        · have hfit : xs.length * i0.size + [x].length ≤ cur.size := by rw [hz1, hcs]; simp; omega
          have hr2 := run_append_room (P := P) w t ty e i0 ht hi g xs.length cap cur hg ⟨gx, 0, none⟩ 1 1 [x] (by rw [hz1]; rfl) hnews hone hroom hfit
          rw [hr2] at hr
          injection hr with e1 e2
          subst e1 e2
          refine ⟨hu.1, .inr ⟨g, cap, _, rfl, hbg, setRow_heap w g cur _ e _ hg, hnc, hcm, ?_, ?_⟩⟩
          · simp only [List.size_toArray, List.length_append, List.length_take, List.length_drop, Array.length_toList, hz1, List.length_cons, List.length_nil]
            omega
          · have hl : (cur.toList.take (xs.length * i0.size)).length = xs.length := by
              have hcl : cur.toList.length = cur.size := Array.length_toList
              rw [hz1, List.length_take]
              omega
            have hmin : min (xs'.length * 1) (xs.length * i0.size) = xs'.length * 1 := by rw [hz1]; omega
            rw [List.append_assoc, List.take_append_of_le_length (by rw [hl]; omega), List.take_take, hmin]
            exact htk
        · have holds : ∀ j u, xs[j]? = some u → w.cell? ((⟨g, 0, none⟩ : Addr).add j) = some u := h.cells (g := g) rfl
          have hr2 := run_append_grow (P := P) w t ty e i0 (.slice none 0 0) ht hi hz0 ⟨g, 0, none⟩ xs.length cap xs (by rw [hz1, Nat.mul_one]) holds ⟨gx, 0, none⟩ 1 1 [x] (by rw [hz1]; rfl) hnews (by omega) (by omega) (growslice_fits (by omega) (by rw [hz2]; omega))
          rw [hr2] at hr
          injection hr with e1 e2
          subst e1 e2
          refine ⟨hu.1, .inr ⟨g, cap, cur, rfl, hbg, ?_, hnc, hcm, hcs, htk⟩⟩
          rw [← hg]
          exact heap_old w.drew _ g (Array.getElem?_eq_some_iff.1 hg).1
  · exact owns_block hu fun g hg => h3.block g (World.ownsRow.lt hu g hg).2 fun e => hub (hg.trans e)
def RowIs (B : Nat) (e : TypeId) (w : World) (v : Value) (xs : List Value) : Prop := w.ownsRow B e 1 v xs.length xs
/-- every view that is no longer stays -/
def Views (B : Nat) (e : TypeId) (w w' : World) (n : Nat) : Prop := ∀ u (xs' : List Value), w.ownsRow B e 1 u xs'.length xs' → xs'.length ≤ n → w'.ownsRow B e 1 u xs'.length xs'
theorem wpList_append_views {P : Program} (w : World) {ops : Array Oper} {rest : List Oper} {o : Oper} {a : Act} {Q : Exit → Act → World → Prop} (hgd : o.guard = none) (s x : Operand) (e t : TypeId)
    (ho : o.op = .call { callee := .builtin .append, args := #[s, x], argTypes := #[t, t] })
    (B : Nat) (hinfo : (P.info? e).map (fun i => (i.zero, i.size, i.bytes)) = some (some (.slice none 0 0), 1, 24)) (ht : P.underlying t = some (.slice e))
    (v : Value) (xs : List Value) (hv : a.eval s = v) (h : w.ownsRow B e 1 v xs.length xs) (gx : Nat) (y : Value) (hxe : a.eval x = .slice (some ⟨gx, 0, none⟩) 1 1) (hx : w.cell? ⟨gx, 0, none⟩ = some y) (h1 : y.oneCell' = true) (hmax : xs.length ≤ 5000000000) (hB : B ≤ w.heap.size)
    (hK : ∀ v' w', RowIs B e w' v' (xs ++ [y]) → w.grownBy w' v.ownBlock → (v'.ownBlock = v.ownBlock ∨ v'.ownBlock = some w.heap.size) → Views B e w w' xs.length → wpList P ops Q rest (a.put o.dst v') w') : wpList P ops Q (o :: rest) a w := by
  refine wpList_plain hgd fun K hK2 => ?_
  obtain ⟨v', w', hr, h1, h2, h3, h4⟩ := append_views (P := P) w B e t o.type hinfo ht v xs h gx y hx h1 hmax hB
  unfold Oper.wp execOp
  simp only [ho, resolve, invoke, builtin, Sem.run_bind, Sem.run_pure, Result.andThen_ok, List.map_toArray, List.map_cons, List.map_nil, hv, hxe, hr]
  exact hK2 _ _ (hK v' w' h1 h2 h3 h4)
/-- two cells of an array -/
structure At2 (w : World) (g : Nat) (x y : Value) : Prop where
  heap : ∃ t, w.heap[g]? = some (.cells #[x, y] t (0, 0))
theorem At2.c0 {w : World} {g : Nat} {x y : Value} (h : At2 w g x y) : w.cell? ⟨g, 0, none⟩ = some x := by
  obtain ⟨t, h⟩ := h.heap
  unfold World.cell?
  rw [h]
  rfl
theorem At2.c1 {w : World} {g : Nat} {x y : Value} (h : At2 w g x y) : w.cell? ⟨g, 1, none⟩ = some y := by
  obtain ⟨t, h⟩ := h.heap
  unfold World.cell?
  rw [h]
  rfl
theorem At2.frozen {w : World} {g : Nat} {x y : Value} (h : At2 w g x y) (j : Nat) : w.frozen? ⟨g, j, none⟩ = false := by
  obtain ⟨t, h⟩ := h.heap
  unfold World.frozen?
  rw [h]
  simp
theorem At2.kept {B : Nat} {w w' : World} {g : Nat} {x y : Value} (h : At2 w g x y) (hb : Below B w w') (hg : g < B) : At2 w' g x y := by
  obtain ⟨t, h⟩ := h.heap
  exact ⟨t, (hb.block g hg).trans h⟩
theorem At2.put0 {w : World} {g : Nat} {x y : Value} (h : At2 w g x y) (u : Value) : At2 (w.setCell ⟨g, 0, none⟩ u) g u y := by
  obtain ⟨t, h⟩ := h.heap
  exact ⟨t, by rw [Go.heap_setCell_same w g 0 _ _ _ h]; rfl⟩
theorem At2.put1 {w : World} {g : Nat} {x y : Value} (h : At2 w g x y) (u : Value) : At2 (w.setCell ⟨g, 1, none⟩ u) g x u := by
  obtain ⟨t, h⟩ := h.heap
  exact ⟨t, by rw [Go.heap_setCell_same w g 1 _ _ _ h]; rfl⟩
theorem At2.far {w : World} {g g' j : Nat} {x y : Value} (h : At2 w g x y) (u : Value) (hg : g' ≠ g) : At2 (w.setCell ⟨g', j, none⟩ u) g x y := by
  obtain ⟨t, h⟩ := h.heap
  exact ⟨t, (set_other w _ _ g (Ne.symm hg)).trans h⟩
theorem at2_new (w : World) (x y : Value) (t : TypeId) : At2 (w.alloc (.cells #[x, y] t)) w.heap.size x y := ⟨t, heap_new _ _⟩
theorem own_slice {B : Nat} {w : World} {v : Value} {l : List Nat} (h : Own B w v l) : ∃ a, ∃ n c : Nat, v = .slice a n c := by
  obtain ⟨a, c, e, _⟩ := h.bs.shape
  exact ⟨a, _, c, e⟩
theorem ownP_slice {B : Nat} {w : World} {v : Value} {ls : List (List Nat)} (h : OwnP B w v ls) : ∃ a, ∃ n c : Nat, v = .slice a n c := by
  obtain ⟨a, c, e, _⟩ := h.ps.shape
  exact ⟨a, _, c, e⟩
/-- two worlds that agree over some blocks -/
def Agr (lo hi : Nat) (w w' : World) : Prop := ∀ g, lo ≤ g → g < hi → w'.heap[g]? = w.heap[g]?
theorem Agr.refl (lo hi : Nat) (w : World) : Agr lo hi w w := fun _ _ _ => rfl
theorem Agr.below {lo hi B : Nat} {w w1 w2 : World} (h : Agr lo hi w w1) (hb : Below B w1 w2) (hB : hi ≤ B) : Agr lo hi w w2 := fun g h1 h2 => (hb.block g (by omega)).trans (h g h1 h2)
theorem Agr.set {lo hi g j : Nat} {w w1 : World} (h : Agr lo hi w w1) (u : Value) (hg : hi ≤ g ∨ g < lo) : Agr lo hi w (w1.setCell ⟨g, j, none⟩ u) := fun g' h1 h2 => (set_other w1 _ _ g' (by
  show g' ≠ g
  omega)).trans (h g' h1 h2)
theorem At2.agr {lo hi g : Nat} {w w' : World} {x y : Value} (h : At2 w g x y) (ha : Agr lo hi w w') (h1 : lo ≤ g) (h2 : g < hi) : At2 w' g x y := by
  obtain ⟨t, h⟩ := h.heap
  exact ⟨t, (ha g h1 h2).trans h⟩
theorem own_agr {lo hi B : Nat} {w w' : World} {v : Value} {l : List Nat} (h : Own B w v l) (ha : Agr lo hi w w') (h1 : lo ≤ B) (h2 : w.heap.size ≤ hi) : Own B w' v l := own_kept2 h fun g hg => ha g (Nat.le_trans h1 (World.ownsRow.lt h.row g hg).1) (Nat.lt_of_lt_of_le (World.ownsRow.lt h.row g hg).2 h2)
theorem set_size (w : World) (p : Addr) (u : Value) : (w.setCell p u).heap.size = w.heap.size := by simp [World.setCell]
theorem own_set {B : Nat} {w : World} {v : Value} {l : List Nat} (h : Own B w v l) (g j : Nat) (u : Value) (hg : g < B) : Own B (w.setCell ⟨g, j, none⟩ u) v l := own_kept2 h fun g' hg' => set_other w _ _ g' fun e => by
  have h1 := (World.ownsRow.lt h.row g' hg').1
  have h2 : g' = g := e
  omega
theorem ans_grown {B B' n : Nat} {w w' : World} {v o : Value} {ps : List (Value × List Nat)} {xs : List Value} (h : Ans B w v ps) (ho : w.ownsRow B' 23 1 o n xs) (hg : w.grownBy w' o.ownBlock) : Ans B w' v ps :=
  ⟨owns_block h.row fun g e => hg.block g (World.ownsRow.lt h.row g e).2 fun e' => rows_apart ho h.row (by decide) g e'.symm e, fun p hp => own_kept2 (h.each p hp) fun g e => hg.block g (World.ownsRow.lt (h.each p hp).row g e).2 fun e' => rows_apart ho (h.each p hp).row (by decide) g e'.symm e, h.apart, h.rowap⟩
theorem row_slice {B n s : Nat} {t : TypeId} {w : World} {v : Value} {xs : List Value} (h : w.ownsRow B t s v n xs) : ∃ a, ∃ c : Nat, v = .slice a n c ∧ n ≤ c ∧ c ≤ maxLen := by
  rcases h.2 with ⟨rfl, h1⟩ | ⟨g, cap, cur, rfl, _, _, h1, h2, _⟩
  · exact ⟨none, 0, by rw [h1], by omega, Nat.zero_le _⟩
  · exact ⟨some ⟨g, 0, none⟩, cap, rfl, h1, h2⟩
theorem row_cell {B : Nat} {t : TypeId} {w : World} {v : Value} {xs : List Value} (h : w.ownsRow B t 1 v xs.length xs) (h0 : 0 < xs.length) : ∃ g, ∃ c : Nat, v = .slice (some ⟨g, 0, none⟩) xs.length c ∧ xs.length ≤ c ∧ c ≤ maxLen ∧ g < w.heap.size ∧ ∀ (k : Nat) (x : Value), xs[k]? = some x → w.cell? ⟨g, k, none⟩ = some x := by
  have h9 := h
  rcases h.2 with ⟨rfl, h1⟩ | ⟨g, cap, cur, rfl, _, hg, h1, h2, _⟩
  · omega
  · refine ⟨g, cap, rfl, h1, h2, (Array.getElem?_eq_some_iff.1 hg).1, fun k x hx => ?_⟩
    have hk := (List.getElem?_eq_some_iff.1 hx).1
    rw [World.ownsRow.cellAt h9 k (by omega)]
    exact hx
/-- the k-th list is read out of this text -/
def wq (k : Nat) : Nat := if k = 2 ∨ k = 3 ∨ k = 5 then 1 else 0
/-- the lists that were handed out -/
structure LA (B : Nat) (w : World) (o : Value) (vs : List Value) (P : Nat → List (Value × List Nat)) (R : Nat → List (List Nat)) : Prop where
  row : w.ownsRow B 23 1 o vs.length vs
  each : ∀ (i : Nat) (v : Value), vs[i]? = some v → Ans B w v (P i) ∧ (P i).map Prod.snd = R (wq i)
  apart : ∀ (i j : Nat) (v u : Value), vs[i]? = some v → vs[j]? = some u → i ≠ j → Ap v u
theorem LA.nil (B : Nat) (w : World) (P : Nat → List (Value × List Nat)) (R : Nat → List (List Nat)) : LA B w (.slice none 0 0) [] P R := ⟨World.ownsRow_nil _ _ _ _, (fun i v h => by simp at h), (fun i j v u h => by simp at h)⟩
theorem LA.kept {B : Nat} {w w' : World} {o : Value} {vs : List Value} {P : Nat → List (Value × List Nat)} {R : Nat → List (List Nat)} (h : LA B w o vs P R) (hb : Below w.heap.size w w') : LA B w' o vs P R := ⟨owns_kept h.row hb, fun i v hv => ⟨(h.each i v hv).1.kept hb, (h.each i v hv).2⟩, h.apart⟩
theorem LA.more {B n0 : Nat} {w w' : World} {o o' v : Value} {vs : List Value} {P : Nat → List (Value × List Nat)} {R : Nat → List (List Nat)} {ps : List (Value × List Nat)} (h : LA B w o vs P R) (hv : Ans n0 w v ps) (hm : ps.map Prod.snd = R (wq vs.length)) (hB : B ≤ n0) (hlt : ∀ (i : Nat) (u : Value), vs[i]? = some u → ∀ g, u.ownBlock = some g → g < n0)
    (hr : RowIs B 23 w' o' (vs ++ [v])) (hg : w.grownBy w' o.ownBlock) : LA B w' o' (vs ++ [v]) (fun i => if i = vs.length then ps else P i) R := by
  have hw : Ans B w v ps := ⟨⟨hv.row.1, by
    rcases hv.row.2 with h1 | ⟨g, cap, cur, e, hb, rest⟩
    · exact .inl h1
    · exact .inr ⟨g, cap, cur, e, Nat.le_trans hB hb, rest⟩⟩, fun p hp => own_weak (hv.each p hp) hB, hv.apart, hv.rowap⟩
  have hcase : ∀ (k : Nat) (u : Value), (vs ++ [v])[k]? = some u → (k ≠ vs.length ∧ vs[k]? = some u) ∨ (k = vs.length ∧ u = v) := fun k u hk => by
    by_cases hlt : k < vs.length
    · rw [List.getElem?_append_left hlt] at hk
      exact .inl ⟨by omega, hk⟩
    · rw [List.getElem?_append_right (by omega)] at hk
      have h0 : k - vs.length = 0 := by
        have := (List.getElem?_eq_some_iff.1 hk).1
        simp at this
        omega
      rw [h0] at hk
      exact .inr ⟨by omega, by simpa using hk.symm⟩
  refine ⟨hr, fun i u hu => ?_, fun i j u t hu ht hij => ?_⟩
  · rcases hcase i u hu with ⟨hi, hu⟩ | ⟨rfl, rfl⟩
    · simp only [if_neg hi]
      exact ⟨ans_grown (h.each i u hu).1 h.row hg, (h.each i u hu).2⟩
    · simp only [if_true]
      exact ⟨ans_grown hw h.row hg, hm⟩
  · have hge : ∀ g, v.ownBlock = some g → n0 ≤ g := fun g hg => (World.ownsRow.lt hv.row g hg).1
    rcases hcase i u hu with ⟨hi, hu2⟩ | ⟨hi, hu2⟩
    · rcases hcase j t ht with ⟨hj, ht2⟩ | ⟨hj, ht2⟩
      · exact h.apart i j u t hu2 ht2 hij
      · intro g h1 h2
        rw [ht2] at h2
        have := hlt i u hu2 g h1
        have := hge g h2
        omega
    · rcases hcase j t ht with ⟨hj, ht2⟩ | ⟨hj, ht2⟩
      · intro g h1 h2
        rw [hu2] at h1
        have := hlt j t ht2 g h2
        have := hge g h1
        omega
      · omega
theorem infoTSS : (Tryd.prog.info? 23).map (fun i => (i.zero, i.size, i.bytes)) = some (some (.slice none 0 0), 1, 24) := by kernel_rfl
end Go.Proofs.YtppgijgmhjfdfaaDoor
