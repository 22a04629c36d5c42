import Derived.Deep.CutRange
import Derived.Test.YtebklbijpdphaaaDoorQF1
import Derived.Test.YtebklbijpdphaaaDoorQP2
/-
  RecordFields: the law's walk.
-/
namespace Go.Proofs.YtebklbijpdphaaaDoor.Fld
open Go Go.RowKit

set_option maxRecDepth 100000 in
set_option maxHeartbeats 1000000 in
theorem sameI_any (l : List Int) (a b : Value) (w : World) (ha : SlI w a l) (hb : SlI w b l) (hl : l.length ≤ 1000) :
    Calls Tryd.prog 40 #[a, b] w fun e w' => e = .returned (.bool true) ∧ ∃ n, w' = w.drewN n := by
  obtain ⟨aa, ca, rfl, hca⟩ := ha
  obtain ⟨ab, cb, rfl, hcb⟩ := hb
  have HA : Hid (∀ j (h : j < l.length), ∃ g, aa = some ⟨g, 0, none⟩ ∧ w.cell? ⟨g, j, none⟩ = some (.int .i64 l[j])) := hca
  have HB : Hid (∀ j (h : j < l.length), ∃ g, ab = some ⟨g, 0, none⟩ ∧ w.cell? ⟨g, j, none⟩ = some (.int .i64 l[j])) := hcb
  clear hca hcb
  go_enter Tryd.func40, Tryd.ntmps40
  go_wp2
  go_loopw [5] (fun i wr => ∃ k : Nat, k ≤ l.length ∧ i = .int .i64 (k : Int) ∧ ∃ n, wr = w.drewN n) (fun i _ => l.length - (intOf i).toNat)
  case atStart => exact ⟨0, by omega, rfl, 0, rfl⟩
  case round =>
    obtain ⟨k, hk, rfl, n, hw⟩ := hrel
    have HW : Hid (wr = w.drewN n) := hw
    clear hw
    by_cases hlt : k < l.length
    · obtain ⟨ga, rfl, c1⟩ := HA.out k hlt
      obtain ⟨gb, rfl, c2⟩ := HB.out k hlt
      generalize l[k] = x at *
      have c3 : wr.cell? ⟨ga, k, none⟩ = some (.int .i64 x) := by rw [HW.out]; exact c1
      have c4 : wr.cell? ⟨gb, k, none⟩ = some (.int .i64 x) := by rw [HW.out]; exact c2
      clear c1 c2 HA HB
      go_wp2
      go_quiet (fail)
      go_wp2
      go_roundw
      case rel => exact ⟨k + 1, by omega, by go_num, _, by rw [HW.out]; exact World.drewN_drewN _ _ _⟩
      case measure => simp [intOf]; omega
    · obtain rfl : k = l.length := by omega
      go_wp2
      go_ret
      exact ⟨rfl, n, HW.out⟩
theorem fl17 : fl 1 7 = [1, 2] := by decide +kernel
theorem blwDrew {B : Nat} {a w : World} (h : Below B a w) (n : Nat) : Below B a (w.drewN n) := h.trans ⟨rfl, rfl, rfl, Nat.le_refl _, fun _ _ => rfl⟩
theorem sl_two (w : World) (t : TypeId) : SlI (w.alloc (.cells #[.int .i64 1, .int .i64 2] t)) (.slice (some ⟨w.heap.size, 0, none⟩) 2 2) [1, 2] := by
  refine ⟨_, 2, rfl, fun j hj => ⟨_, rfl, ?_⟩⟩
  rw [World.cell?_alloc_new]
  match j, hj with
  | 0, _ => rfl
  | 1, _ => rfl

end Go.Proofs.YtebklbijpdphaaaDoor.Fld

/-
  RecordOwn: fields2: rows of numbers that are written over and lengthened.
-/
namespace Go.Proofs.YtebklbijpdphaaaDoor
open Go Go.RowKit
open Wb

/-- rows of unlike kinds lie apart -/
theorem rows_apart {B B' : Nat} {w : World} {t t' : TypeId} {s s' n n' : Nat} {v v' : Value} {xs xs' : List Value} (h : w.ownsRow B t s v n xs) (h' : w.ownsRow B' t' s' v' n' xs') (ht : t ≠ t') : Ap v v' := fun g hg hg' => by
  rcases h.2 with ⟨rfl, _⟩ | ⟨g1, cap, cur, rfl, _, hh, _⟩
  · cases hg
  · rcases h'.2 with ⟨rfl, _⟩ | ⟨g2, cap', cur', rfl, _, hh', _⟩
    · cases hg'
    · obtain rfl : g1 = g := by simpa [Value.ownBlock] using hg
      obtain rfl : g2 = g1 := by simpa [Value.ownBlock] using hg'
      rw [hh] at hh'
      simp at hh'
      exact ht hh'.2
/-- append onto a row of values: what it makes, and that every shorter view stays -/
theorem append_viewsI {P : Program} (w : World) (B : Nat) (e t ty : TypeId) (hinfo : (P.info? e).map (fun i => (i.zero, i.size, i.bytes)) = some (some (.int .i64 0), 1, 8)) (ht : P.underlying t = some (.slice e))
    (v : Value) (xs : List Value) (h : w.ownsRow B e 1 v xs.length xs) (gx : Nat) (x : Value) (hx : w.cell? ⟨gx, 0, none⟩ = some x) (h1 : x.oneCell' = true) (hmax : xs.length ≤ 5000000000) (hB : B ≤ w.heap.size) :
    ∃ v' w', (Builtin.append_ #[t, t] ty #[v, .slice (some ⟨gx, 0, none⟩) 1 1]).run P w = .ok v' w' ∧ w'.ownsRow B e 1 v' (xs ++ [x]).length (xs ++ [x]) ∧ w.grownBy w' v.ownBlock ∧ (v'.ownBlock = v.ownBlock ∨ v'.ownBlock = some w.heap.size) ∧
      ∀ u (xs' : List Value), w.ownsRow B e 1 u xs'.length xs' → xs'.length ≤ xs.length → w'.ownsRow B e 1 u xs'.length xs' := by
  obtain ⟨i0, hi, hz0, hz1, hz2⟩ := Lft.info_parts3 hinfo
  have hnews : ∀ j u, ([x] : List Value)[j]? = some u → w.cell? ((⟨gx, 0, none⟩ : Addr).add j) = some u := fun j u hj => by
    match j, hj with
    | 0, hj => simp at hj; subst hj; simpa [Addr.add] using hx
  have hone : ∀ u ∈ [x], u.oneCell' = true := fun u hu => by
    obtain rfl := List.mem_singleton.1 hu
    exact h1
  obtain ⟨v', w', hr, h2, h3, _, h5⟩ := run_append_own_at (P := P) w B t ty e i0 (.int .i64 0) 1 8 ht hi hz0 hz1 hz2 rfl (by decide) v xs.length xs h ⟨gx, 0, none⟩ 1 1 [x] rfl hnews hone (by unfold maxLen; omega) (by omega) hB
  refine ⟨v', w', hr, by rw [List.length_append]; exact h2, h3, h5, fun u xs' hu hn' => ?_⟩
  by_cases hub : u.ownBlock = v.ownBlock
  · rcases hu.2 with ⟨rfl, h0⟩ | ⟨g, cap, cur, rfl, hbg, hg, hnc, hcm, hcs, htk⟩
    · exact ⟨hu.1, .inl ⟨rfl, h0⟩⟩
    · rcases h.2 with ⟨rfl, _⟩ | ⟨g', cap', cur', rfl, hbg', hg', hnc', hcm', hcs', htk'⟩
      · cases hub
      · obtain rfl : g = g' := by simpa [Value.ownBlock] using hub
        obtain rfl : cur = cur' := by
          have := hg.symm.trans hg'
          simpa using this
        have hcc : cap = cap' := by omega
        subst hcc
        by_cases hroom : xs.length + 1 ≤ cap
        · have hfit : xs.length * i0.size + [x].length ≤ cur.size := by rw [hz1, hcs]; simp; omega
          have hr2 := run_append_room (P := P) w t ty e i0 ht hi g xs.length cap cur hg ⟨gx, 0, none⟩ 1 1 [x] (by rw [hz1]; rfl) hnews hone hroom hfit
          rw [hr2] at hr
          injection hr with e1 e2
          subst e1 e2
          refine ⟨hu.1, .inr ⟨g, cap, _, rfl, hbg, setRow_heap w g cur _ e _ hg, hnc, hcm, ?_, ?_⟩⟩
          · simp only [List.size_toArray, List.length_append, List.length_take, List.length_drop, Array.length_toList, hz1, List.length_cons, List.length_nil]
            omega
          · have hl : (cur.toList.take (xs.length * i0.size)).length = xs.length := by
              have hcl : cur.toList.length = cur.size := Array.length_toList
              rw [hz1, List.length_take]
              omega
            have hmin : min (xs'.length * 1) (xs.length * i0.size) = xs'.length * 1 := by rw [hz1]; omega
            rw [List.append_assoc, List.take_append_of_le_length (by rw [hl]; omega), List.take_take, hmin]
            exact htk
        · have holds : ∀ j u, xs[j]? = some u → w.cell? ((⟨g, 0, none⟩ : Addr).add j) = some u := h.cells (g := g) rfl
          have hr2 := run_append_grow (P := P) w t ty e i0 (.int .i64 0) ht hi hz0 ⟨g, 0, none⟩ xs.length cap xs (by rw [hz1, Nat.mul_one]) holds ⟨gx, 0, none⟩ 1 1 [x] (by rw [hz1]; rfl) hnews (by omega) (by omega) (growslice_fits (by omega) (by rw [hz2]; omega))
          rw [hr2] at hr
          injection hr with e1 e2
          subst e1 e2
          refine ⟨hu.1, .inr ⟨g, cap, cur, rfl, hbg, ?_, hnc, hcm, hcs, htk⟩⟩
          rw [← hg]
          exact heap_old w.drew _ g (Array.getElem?_eq_some_iff.1 hg).1
  · exact owns_block hu fun g hg => h3.block g (World.ownsRow.lt hu g hg).2 fun e => hub (hg.trans e)
def RowIs (B : Nat) (e : TypeId) (w : World) (v : Value) (xs : List Value) : Prop := w.ownsRow B e 1 v xs.length xs
/-- every view that is no longer stays -/
def Views (B : Nat) (e : TypeId) (w w' : World) (n : Nat) : Prop := ∀ u (xs' : List Value), w.ownsRow B e 1 u xs'.length xs' → xs'.length ≤ n → w'.ownsRow B e 1 u xs'.length xs'
theorem wpList_append_viewsI {P : Program} (w : World) {ops : Array Oper} {rest : List Oper} {o : Oper} {a : Act} {Q : Exit → Act → World → Prop} (hgd : o.guard = none) (s x : Operand) (e t : TypeId)
    (ho : o.op = .call { callee := .builtin .append, args := #[s, x], argTypes := #[t, t] })
    (B : Nat) (hinfo : (P.info? e).map (fun i => (i.zero, i.size, i.bytes)) = some (some (.int .i64 0), 1, 8)) (ht : P.underlying t = some (.slice e))
    (v : Value) (xs : List Value) (hv : a.eval s = v) (h : w.ownsRow B e 1 v xs.length xs) (gx : Nat) (y : Value) (hxe : a.eval x = .slice (some ⟨gx, 0, none⟩) 1 1) (hx : w.cell? ⟨gx, 0, none⟩ = some y) (h1 : y.oneCell' = true) (hmax : xs.length ≤ 5000000000) (hB : B ≤ w.heap.size)
    (hK : ∀ v' w', RowIs B e w' v' (xs ++ [y]) → w.grownBy w' v.ownBlock → (v'.ownBlock = v.ownBlock ∨ v'.ownBlock = some w.heap.size) → Views B e w w' xs.length → wpList P ops Q rest (a.put o.dst v') w') : wpList P ops Q (o :: rest) a w := by
  refine wpList_plain hgd fun K hK2 => ?_
  obtain ⟨v', w', hr, h1, h2, h3, h4⟩ := append_viewsI (P := P) w B e t o.type hinfo ht v xs h gx y hx h1 hmax hB
  unfold Oper.wp execOp
  simp only [ho, resolve, invoke, builtin, Sem.run_bind, Sem.run_pure, Result.andThen_ok, List.map_toArray, List.map_cons, List.map_nil, hv, hxe, hr]
  exact hK2 _ _ (hK v' w' h1 h2 h3 h4)
theorem row_slice {B n s : Nat} {t : TypeId} {w : World} {v : Value} {xs : List Value} (h : w.ownsRow B t s v n xs) : ∃ a, ∃ c : Nat, v = .slice a n c ∧ n ≤ c ∧ c ≤ maxLen := by
  rcases h.2 with ⟨rfl, h1⟩ | ⟨g, cap, cur, rfl, _, _, h1, h2, _⟩
  · exact ⟨none, 0, by rw [h1], by omega, Nat.zero_le _⟩
  · exact ⟨some ⟨g, 0, none⟩, cap, rfl, h1, h2⟩
theorem row_cell {B : Nat} {t : TypeId} {w : World} {v : Value} {xs : List Value} (h : w.ownsRow B t 1 v xs.length xs) (h0 : 0 < xs.length) : ∃ g, ∃ c : Nat, v = .slice (some ⟨g, 0, none⟩) xs.length c ∧ xs.length ≤ c ∧ c ≤ maxLen ∧ g < w.heap.size ∧ ∀ (k : Nat) (x : Value), xs[k]? = some x → w.cell? ⟨g, k, none⟩ = some x := by
  have h9 := h
  rcases h.2 with ⟨rfl, h1⟩ | ⟨g, cap, cur, rfl, _, hg, h1, h2, _⟩
  · omega
  · refine ⟨g, cap, rfl, h1, h2, (Array.getElem?_eq_some_iff.1 hg).1, fun k x hx => ?_⟩
    have hk := (List.getElem?_eq_some_iff.1 hx).1
    rw [World.ownsRow.cellAt h9 k (by omega)]
    exact hx
theorem row_frozen {B n s cap g : Nat} {t : TypeId} {w : World} {xs : List Value} (h : w.ownsRow B t s (.slice (some ⟨g, 0, none⟩) n cap) n xs) (i : Nat) : w.frozen? ⟨g, i, none⟩ = false := by
  rcases h.2 with ⟨h1, _⟩ | ⟨g', cap', cur, h1, _, hg, _⟩
  · cases h1
  · simp only [Value.slice.injEq, Option.some.injEq, Addr.mk.injEq, and_true, true_and] at h1
    obtain ⟨rfl, rfl⟩ := h1
    unfold World.frozen?
    rw [hg]
    simp
theorem row_get {B i : Nat} {t : TypeId} {w : World} {v : Value} {xs : List Value} (h : w.ownsRow B t 1 v xs.length xs) (hi : i < xs.length) : ∃ g, ∃ c : Nat, ∃ x, v = .slice (some ⟨g, 0, none⟩) xs.length c ∧ xs.length ≤ c ∧ c ≤ maxLen ∧ xs[i]? = some x ∧ w.cell? ⟨g, i, none⟩ = some x := by
  obtain ⟨g, c, e, h1, h2, _, h4⟩ := row_cell h (by omega)
  exact ⟨g, c, xs[i], e, h1, h2, List.getElem?_eq_getElem hi, h4 i _ (List.getElem?_eq_getElem hi)⟩
theorem set_size (w : World) (p : Addr) (u : Value) : (w.setCell p u).heap.size = w.heap.size := by simp [World.setCell]
theorem infoTI8 : (Tryd.prog.info? 3).map (fun i => (i.zero, i.size, i.bytes)) = some (some (.int .i64 0), 1, 8) := by kernel_rfl
theorem infoTIS24 : (Tryd.prog.info? 72).map (fun i => (i.zero, i.size, i.bytes)) = some (some (.slice none 0 0), 1, 24) := by kernel_rfl
/-- the lists: the first k written over, and i places of the next -/
structure SI (B : Nat) (wA w : World) (vs : List Value) (X : Nat → List Value) (n : Nat → Nat) (k i : Nat) : Prop where
  base : ∀ (j : Nat) (v : Value), vs[j]? = some v → w.ownsRow B 3 1 v (X j).length (X j)
  apart : ∀ (i j : Nat) (v u : Value), vs[i]? = some v → vs[j]? = some u → i ≠ j → Ap v u
  mark : ∀ (j p : Nat) (x : Value), (j < k ∨ j = k ∧ p < i) → (X j)[p]? = some x → x = .int .i64 ((100 + j : Nat) : Int)
  lens : ∀ j, (X j).length = n j
  frm : Frm vs wA w
  bel : Below B wA w
  hB : B ≤ w.heap.size
theorem Frm.below {ds : List Value} {w w1 w2 : World} (h : Frm ds w w1) (hb : Below w1.heap.size w1 w2) : Frm ds w w2 := ⟨Nat.le_trans h.size hb.size, fun g hg hne => (hb.block g (Nat.lt_of_lt_of_le hg h.size)).trans (h.same g hg hne)⟩
theorem SI.kept {B : Nat} {wA w w' : World} {vs : List Value} {X : Nat → List Value} {n : Nat → Nat} {k i : Nat} (h : SI B wA w vs X n k i) (hb : Below w.heap.size w w') : SI B wA w' vs X n k i :=
  ⟨fun j v hv => owns_kept (h.base j v hv) hb, h.apart, h.mark, h.lens, h.frm.below hb, h.bel.trans (hb.mono h.hB), Nat.le_trans h.hB hb.size⟩
theorem SI.next {B : Nat} {wA w : World} {vs : List Value} {X : Nat → List Value} {n : Nat → Nat} {k : Nat} (h : SI B wA w vs X n k (n k)) : SI B wA w vs X n (k + 1) 0 :=
  ⟨h.base, h.apart, fun j p x hj hx => by
    refine h.mark j p x ?_ hx
    have hp := (List.getElem?_eq_some_iff.1 hx).1
    have hl := h.lens j
    rcases hj with hj | hj
    · by_cases hjk : j = k
      · subst hjk
        exact .inr ⟨rfl, by omega⟩
      · exact .inl (by omega)
    · omega, h.lens, h.frm, h.bel, h.hB⟩
theorem SI.put {B : Nat} {wA w : World} {vs : List Value} {X : Nat → List Value} {n : Nat → Nat} {k i g cap : Nat} (h : SI B wA w vs X n k i) (hk : vs[k]? = some (.slice (some ⟨g, 0, none⟩) (n k) cap)) :
    SI B wA (w.setCell ⟨g, i, none⟩ (.int .i64 ((100 + k : Nat) : Int))) vs (fun j => if j = k then (X k).set i (.int .i64 ((100 + k : Nat) : Int)) else X j) n k (i + 1) := by
  have hbk := h.base k _ hk
  have hbk' : w.ownsRow B 3 1 (.slice (some ⟨g, 0, none⟩) (n k) cap) (n k) (X k) := by rw [h.lens k] at hbk; exact hbk
  have hst := World.ownsRow.stored hbk' i (.int .i64 ((100 + k : Nat) : Int))
  have hgB : B ≤ g := (World.ownsRow.lt hbk g rfl).1
  refine ⟨fun j v hv => ?_, h.apart, fun j p y hj hy => ?_, fun j => ?_, ⟨by rw [set_size]; exact h.frm.size, fun g' hg' hne => ?_⟩, h.bel.setCell (p := ⟨g, i, none⟩) hgB _, by rw [set_size]; exact h.hB⟩
  · by_cases hj : j = k
    · subst hj
      rw [hk] at hv
      obtain rfl := Option.some.inj hv
      simp only [if_true, List.length_set]
      rw [h.lens j]
      exact hst.1
    · simp only [if_neg hj]
      exact owns_block (h.base j v hv) fun g' hg' => set_other w _ _ g' fun e => h.apart j k v _ hv hk hj g' hg' (by show some g = some g'; exact congrArg some e.symm)
  · by_cases hjk : j = k
    · subst hjk
      simp only [if_true] at hy
      by_cases hpi : p = i
      · subst hpi
        rw [List.getElem?_set_self (by have := (List.getElem?_eq_some_iff.1 hy).1; simpa using this)] at hy
        exact (Option.some.inj hy).symm
      · rw [List.getElem?_set_ne (Ne.symm hpi)] at hy
        refine h.mark j p y ?_ hy
        rcases hj with hj | hj
        · omega
        · exact .inr ⟨rfl, by omega⟩
    · simp only [if_neg hjk] at hy
      refine h.mark j p y ?_ hy
      rcases hj with hj | hj
      · exact .inl hj
      · omega
  · by_cases hj : j = k
    · subst hj
      simp only [if_true, List.length_set]
      exact h.lens j
    · simp only [if_neg hj]
      exact h.lens j
  · rw [set_other w _ _ g' (fun e => hne _ (List.mem_of_getElem? hk) (by show some g = some g'; exact congrArg some e.symm))]
    exact h.frm.same g' hg' hne
/-- the lists and the longer ones -/
structure GI (B : Nat) (wA w : World) (vs : List Value) (X : Nat → List Value) (n : Nat → Nat) (gs : List Value) (Y : Nat → List Value) (m : Value) : Prop where
  more : w.ownsRow wA.heap.size 72 1 m gs.length gs
  si : SI B wA w vs X n 42 0
  view : ∀ (k : Nat) (g : Value), gs[k]? = some g → w.ownsRow B 3 1 g (Y k).length (Y k) ∧ (Y k).length = n k + 20 ∧ ∀ x ∈ Y k, x = .int .i64 ((100 + k : Nat) : Int)
  ap : ∀ (i j : Nat) (g u : Value), gs[i]? = some g → vs[j]? = some u → i ≠ j → Ap g u
theorem GI.kept {B : Nat} {wA w w' : World} {vs : List Value} {X : Nat → List Value} {n : Nat → Nat} {gs : List Value} {Y : Nat → List Value} {m : Value} (h : GI B wA w vs X n gs Y m) (hb : Below w.heap.size w w') : GI B wA w' vs X n gs Y m :=
  ⟨owns_kept h.more hb, h.si.kept hb, fun k g hg => ⟨owns_kept (h.view k g hg).1 hb, (h.view k g hg).2.1, (h.view k g hg).2.2⟩, h.ap⟩
theorem GI.start {B : Nat} {wA w : World} {vs : List Value} {X : Nat → List Value} {n : Nat → Nat} {Y : Nat → List Value} (h : SI B wA w vs X n 42 0) : GI B wA w vs X n [] Y (.slice none 0 0) :=
  ⟨World.ownsRow_nil _ _ _ _, h, (fun k g hg => by simp at hg), (fun i j g u hg => by simp at hg)⟩
/-- one list at work -/
structure GJ (B : Nat) (wA ws w : World) (vs : List Value) (X : Nat → List Value) (n : Nat → Nat) (gs : List Value) (Y : Nat → List Value) (m : Value) (k : Nat) (g : Value) (ys : List Value) : Prop where
  gg : GI B wA w vs X n gs Y m
  own : w.ownsRow B 3 1 g (X k ++ ys).length (X k ++ ys)
  mark : ∀ y ∈ ys, y = .int .i64 ((100 + k : Nat) : Int)
  blk : ∀ b, g.ownBlock = some b → (∃ v, vs[k]? = some v ∧ v.ownBlock = some b) ∨ ws.heap.size ≤ b
  olds : ∀ (i : Nat) (u : Value), gs[i]? = some u → ∀ b, u.ownBlock = some b → b < ws.heap.size
  oldv : ∀ (i : Nat) (u : Value), vs[i]? = some u → ∀ b, u.ownBlock = some b → b < ws.heap.size
  sz : ws.heap.size ≤ w.heap.size
  sA : wA.heap.size ≤ ws.heap.size
theorem GJ.start {B : Nat} {wA w : World} {vs : List Value} {X : Nat → List Value} {n : Nat → Nat} {gs : List Value} {Y : Nat → List Value} {m : Value} {k : Nat} {g : Value} (h : GI B wA w vs X n gs Y m) (hk : vs[k]? = some g) : GJ B wA w w vs X n gs Y m k g [] :=
  ⟨h, by rw [List.append_nil]; exact h.si.base k g hk, (fun y hy => nomatch hy), fun b hb => .inl ⟨g, hk, hb⟩, fun i u hu b hb => (World.ownsRow.lt (h.view i u hu).1 b hb).2, fun i u hu b hb => (World.ownsRow.lt (h.si.base i u hu) b hb).2, Nat.le_refl _, h.si.frm.size⟩
theorem GJ.kept {B : Nat} {wA ws w w' : World} {vs : List Value} {X : Nat → List Value} {n : Nat → Nat} {gs : List Value} {Y : Nat → List Value} {m : Value} {k : Nat} {g : Value} {ys : List Value} (h : GJ B wA ws w vs X n gs Y m k g ys) (hb : Below w.heap.size w w') : GJ B wA ws w' vs X n gs Y m k g ys :=
  ⟨h.gg.kept hb, owns_kept h.own hb, h.mark, h.blk, h.olds, h.oldv, Nat.le_trans h.sz hb.size, h.sA⟩
theorem GJ.push {B : Nat} {wA ws w w' : World} {vs : List Value} {X : Nat → List Value} {n : Nat → Nat} {gs : List Value} {Y : Nat → List Value} {m : Value} {k : Nat} {g g' : Value} {ys : List Value} (h : GJ B wA ws w vs X n gs Y m k g ys) (hkl : gs.length ≤ k)
    (hr : RowIs B 3 w' g' (X k ++ (ys ++ [.int .i64 ((100 + k : Nat) : Int)]))) (hg : w.grownBy w' g.ownBlock) (hat : g'.ownBlock = g.ownBlock ∨ g'.ownBlock = some w.heap.size)
    {N : Nat} (hv : Views B 3 w w' N) (hN : (X k).length ≤ N) : GJ B wA ws w' vs X n gs Y m k g' (ys ++ [.int .i64 ((100 + k : Nat) : Int)]) := by
  have hrow : ∀ u (b0 : Nat) (t : TypeId) mm (xs : List Value), w.ownsRow b0 t 1 u mm xs → Ap g u → w'.ownsRow b0 t 1 u mm xs := fun u b0 t mm xs hu ha => owns_block hu fun b hb => hg.block b (World.ownsRow.lt hu b hb).2 fun e => ha b e.symm hb
  have hbase : ∀ (j : Nat) (v : Value), vs[j]? = some v → w'.ownsRow B 3 1 v (X j).length (X j) := fun j v hvj => by
    by_cases hjk : j = k
    · subst hjk
      exact hv v (X j) (h.gg.si.base j v hvj) hN
    · refine hrow v _ _ _ _ (h.gg.si.base j v hvj) fun b hb hb' => ?_
      rcases h.blk b hb with ⟨v', hv', hvb⟩ | hb2
      · exact h.gg.si.apart k j v' v hv' hvj (Ne.symm hjk) b hvb hb'
      · have := h.oldv j v hvj b hb'
        omega
  refine ⟨⟨hrow m _ _ _ _ h.gg.more (rows_apart h.own h.gg.more (by decide)), ⟨hbase, h.gg.si.apart, h.gg.si.mark, h.gg.si.lens, ⟨Nat.le_trans h.gg.si.frm.size hg.size, fun b hb hne => ?_⟩, h.gg.si.bel.trans (grown_below h.own hg h.gg.si.hB), Nat.le_trans h.gg.si.hB hg.size⟩, fun i u hu => ?_, h.gg.ap⟩, hr, fun z hz => ?_, fun b hb => ?_, h.olds, h.oldv, Nat.le_trans h.sz hg.size, h.sA⟩
  · have hs := h.gg.si.frm.size
    rw [hg.block b (by omega) (fun e => ?_)]
    · exact h.gg.si.frm.same b hb hne
    · rcases h.blk b e.symm with ⟨v', hv', hvb⟩ | hb2
      · exact hne v' (List.mem_of_getElem? hv') hvb
      · have := h.sA
        omega
  · refine ⟨hrow u _ _ _ _ (h.gg.view i u hu).1 fun b hb hb' => ?_, (h.gg.view i u hu).2.1, (h.gg.view i u hu).2.2⟩
    rcases h.blk b hb with ⟨v', hv', hvb⟩ | hb2
    · have hik : i ≠ k := by have := (List.getElem?_eq_some_iff.1 hu).1; omega
      exact h.gg.ap i k u v' hu hv' hik b hb' hvb
    · have := h.olds i u hu b hb'
      omega
  · rcases List.mem_append.1 hz with hz | hz
    · exact h.mark z hz
    · exact List.mem_singleton.1 hz
  · rcases hat with e | e
    · exact h.blk b (e ▸ hb)
    · rw [e] at hb
      have := Option.some.inj hb
      have := h.sz
      exact .inr (by omega)
/-- the longer list is put by -/
theorem GJ.done {B : Nat} {wA ws w w' : World} {m m' : Value} {vs : List Value} {X : Nat → List Value} {n : Nat → Nat} {gs : List Value} {Y : Nat → List Value} {k : Nat} {g : Value} {ys : List Value} (h : GJ B wA ws w vs X n gs Y m k g ys) (hBA : B ≤ wA.heap.size) (hkl : gs.length = k) (hk6 : k < 42) (hl : ys.length = 20)
    (hr : w'.ownsRow wA.heap.size 72 1 m' (gs.length + 1) (gs ++ [g])) (hg : w.grownBy w' m.ownBlock) : GI B wA w' vs X n (gs ++ [g]) (fun i => if i = k then X k ++ ys else Y i) m' := by
  have hts : ∀ u (xs : List Value), w.ownsRow B 3 1 u xs.length xs → w'.ownsRow B 3 1 u xs.length xs := fun u xs hu => owns_block hu fun b hb => hg.block b (World.ownsRow.lt hu b hb).2 fun e => rows_apart h.gg.more hu (by decide) b e.symm hb
  have hcase : ∀ (i : Nat) (u : Value), (gs ++ [g])[i]? = some u → (i ≠ k ∧ gs[i]? = some u) ∨ (i = k ∧ u = g) := fun i u hi => by
    by_cases hlt : i < gs.length
    · rw [List.getElem?_append_left hlt] at hi
      exact .inl ⟨by omega, hi⟩
    · rw [List.getElem?_append_right (by omega)] at hi
      have h0 : i - gs.length = 0 := by
        have := (List.getElem?_eq_some_iff.1 hi).1
        simp at this
        omega
      rw [h0] at hi
      exact .inr ⟨by omega, by simpa using hi.symm⟩
  have hmA : ∀ b, m.ownBlock = some b → wA.heap.size ≤ b := fun b hb => (World.ownsRow.lt h.gg.more b hb).1
  refine ⟨by rw [List.length_append]; exact hr, ⟨fun j v hv => hts v (X j) (h.gg.si.base j v hv), h.gg.si.apart, h.gg.si.mark, h.gg.si.lens, ⟨Nat.le_trans h.gg.si.frm.size hg.size, fun b hb hne => ?_⟩, h.gg.si.bel.trans ((Below.refl B w).grown hg h.gg.si.hB (fun b hb => Nat.le_trans hBA (hmA b hb))), Nat.le_trans h.gg.si.hB hg.size⟩, fun i u hu => ?_, fun i j u t hu ht hij => ?_⟩
  · have hs := h.gg.si.frm.size
    rw [hg.block b (by omega) (fun e => by have := hmA b e.symm; omega)]
    exact h.gg.si.frm.same b hb hne
  · rcases hcase i u hu with ⟨hi, hu2⟩ | ⟨hi, hu2⟩
    · simp only [if_neg hi]
      exact ⟨hts u (Y i) (h.gg.view i u hu2).1, (h.gg.view i u hu2).2.1, (h.gg.view i u hu2).2.2⟩
    · subst hi hu2
      simp only [if_true]
      refine ⟨hts _ _ h.own, by rw [List.length_append, h.gg.si.lens, hl], fun x hx => ?_⟩
      rcases List.mem_append.1 hx with hx | hx
      · obtain ⟨p, hp⟩ := List.mem_iff_getElem?.1 hx
        exact h.gg.si.mark _ p x (.inl hk6) hp
      · exact h.mark x hx
  · rcases hcase i u hu with ⟨hi, hu2⟩ | ⟨hi, hu2⟩
    · exact h.gg.ap i j u t hu2 ht hij
    · intro b hb hb'
      rw [hu2] at hb
      rcases h.blk b hb with ⟨v', hv', hvb⟩ | hb2
      · exact h.gg.si.apart k j v' t hv' ht (by omega) b hvb hb'
      · have := h.oldv j t ht b hb'
        omega
end Go.Proofs.YtebklbijpdphaaaDoor

/-
  RecordOwn: fields2: the lists that Fields hands out.
-/
namespace Go.Proofs.YtebklbijpdphaaaDoor
open Go Go.RowKit
open Wb

/-- the i-th list of tags -/
def F2 (i : Nat) : List Int := Fld.fl (((1 + i / 2 % 3 : Nat) : Int)) (((1 + i / 6 : Nat) : Int))
theorem F2_len : ∀ i, i < 42 → 2 ≤ (F2 i).length ∧ (F2 i).length ≤ 7 := fun i hi => ⟨by
  have h : ∀ i : Fin 42, 2 ≤ (F2 i.val).length := by decide +kernel
  exact h ⟨i, hi⟩, Fld.fl_len _ _⟩
theorem F2_odd (i : Nat) (h : i % 2 = 1) : F2 i = F2 (i - 1) := by
  unfold F2
  rw [show i / 2 = (i - 1) / 2 by omega, show i / 6 = (i - 1) / 6 by omega]
structure LI (B : Nat) (w : World) (o vw : Value) (vs cs : List Value) : Prop where
  row : w.ownsRow B 72 1 o vs.length vs
  wrow : w.ownsRow B 72 1 vw cs.length cs
  two : Ap o vw
  each : ∀ (i : Nat) (v : Value), vs[i]? = some v → Fld.RoI B w v (F2 i)
  weach : ∀ (i : Nat) (c : Value), cs[i]? = some c → Fld.RoI B w c (F2 i)
  apart : ∀ (i j : Nat) (v u : Value), vs[i]? = some v → vs[j]? = some u → i ≠ j → Ap v u
  cross : ∀ (i j : Nat) (v c : Value), vs[i]? = some v → cs[j]? = some c → Ap v c
theorem LI.nil (B : Nat) (w : World) : LI B w (.slice none 0 0) (.slice none 0 0) [] [] := ⟨World.ownsRow_nil _ _ _ _, World.ownsRow_nil _ _ _ _, (fun g h => nomatch h), (fun i v h => by simp at h), (fun i v h => by simp at h), (fun i j v u h => by simp at h), (fun i j v u h => by simp at h)⟩
theorem LI.kept {B : Nat} {w w' : World} {o vw : Value} {vs cs : List Value} (h : LI B w o vw vs cs) (hb : Below w.heap.size w w') : LI B w' o vw vs cs := ⟨owns_kept h.row hb, owns_kept h.wrow hb, h.two, fun i v hv => (h.each i v hv).kept hb, fun i v hv => (h.weach i v hv).kept hb, h.apart, h.cross⟩
theorem snoc_case {vs : List Value} {v : Value} {k : Nat} {u : Value} (hk : (vs ++ [v])[k]? = some u) : (k ≠ vs.length ∧ vs[k]? = some u) ∨ (k = vs.length ∧ u = v) := by
  by_cases hlt : k < vs.length
  · rw [List.getElem?_append_left hlt] at hk
    exact .inl ⟨by omega, hk⟩
  · rw [List.getElem?_append_right (by omega)] at hk
    have h0 : k - vs.length = 0 := by
      have := (List.getElem?_eq_some_iff.1 hk).1
      simp at this
      omega
    rw [h0] at hk
    exact .inr ⟨by omega, by simpa using hk.symm⟩
theorem roI_grown {B B' n : Nat} {w w' : World} {v o : Value} {l : List Int} {xs : List Value} (h : Fld.RoI B w v l) (ho : w.ownsRow B' 72 1 o n xs) (hg : w.grownBy w' o.ownBlock) : Fld.RoI B w' v l := owns_block h fun g e => hg.block g (World.ownsRow.lt h g e).2 fun e' => rows_apart ho h (by decide) g e'.symm e
theorem roI_weak {B B2 : Nat} {w : World} {v : Value} {l : List Int} (h : Fld.RoI B2 w v l) (hB : B ≤ B2) : Fld.RoI B w v l := ⟨h.1, by
  rcases h.2 with h1 | ⟨g, cap, cur, e, hb, rest⟩
  · exact .inl h1
  · exact .inr ⟨g, cap, cur, e, Nat.le_trans hB hb, rest⟩⟩
theorem LI.moreW {B : Nat} {w w' : World} {o vw vw' c : Value} {vs cs : List Value} (h : LI B w o vw vs cs) (hc : Fld.RoI B w c (F2 cs.length)) (hx : ∀ (i : Nat) (v : Value), vs[i]? = some v → Ap v c)
    (hr : w'.ownsRow B 72 1 vw' (cs.length + 1) (cs ++ [c])) (hg : w.grownBy w' vw.ownBlock) (hat : vw'.ownBlock = vw.ownBlock ∨ vw'.ownBlock = some w.heap.size) : LI B w' o vw' vs (cs ++ [c]) := by
  refine ⟨owns_block h.row fun g e => hg.block g (World.ownsRow.lt h.row g e).2 fun e' => h.two g e e'.symm, by rw [List.length_append]; exact hr, fun g e e' => ?_, fun i v hv => roI_grown (h.each i v hv) h.wrow hg, fun i u hu => ?_, h.apart, fun i j v u hv hu => ?_⟩
  · rcases hat with e1 | e1
    · exact h.two g e (e1 ▸ e')
    · rw [e1] at e'
      have h1 := Option.some.inj e'
      have h2 := (World.ownsRow.lt h.row g e).2
      omega
  · rcases snoc_case hu with ⟨_, hu2⟩ | ⟨hi, hu2⟩
    · exact roI_grown (h.weach i u hu2) h.wrow hg
    · subst hi hu2
      exact roI_grown hc h.wrow hg
  · rcases snoc_case hu with ⟨_, hu2⟩ | ⟨_, hu2⟩
    · exact h.cross i j v u hv hu2
    · rw [hu2]; exact hx i v hv
theorem LI.moreL {B : Nat} {w w' : World} {o o' vw f : Value} {vs cs : List Value} (h : LI B w o vw vs cs) (hf : Fld.RoI B w f (F2 vs.length)) (hx : ∀ (i : Nat) (v : Value), vs[i]? = some v → Ap v f) (hy : ∀ (i : Nat) (c : Value), cs[i]? = some c → Ap f c)
    (hr : w'.ownsRow B 72 1 o' (vs.length + 1) (vs ++ [f])) (hg : w.grownBy w' o.ownBlock) (hat : o'.ownBlock = o.ownBlock ∨ o'.ownBlock = some w.heap.size) : LI B w' o' vw (vs ++ [f]) cs := by
  refine ⟨by rw [List.length_append]; exact hr, owns_block h.wrow fun g e => hg.block g (World.ownsRow.lt h.wrow g e).2 fun e' => h.two g e'.symm e, fun g e e' => ?_, fun i u hu => ?_, fun i c hc => roI_grown (h.weach i c hc) h.row hg, fun i j v u hv hu hij => ?_, fun i j v c hv hc => ?_⟩
  · rcases hat with e1 | e1
    · exact h.two g (e1 ▸ e) e'
    · rw [e1] at e
      have h1 := Option.some.inj e
      have h2 := (World.ownsRow.lt h.wrow g e').2
      omega
  · rcases snoc_case hu with ⟨_, hu2⟩ | ⟨hi, hu2⟩
    · exact roI_grown (h.each i u hu2) h.row hg
    · subst hi hu2
      exact roI_grown hf h.row hg
  · rcases snoc_case hv with ⟨_, hv2⟩ | ⟨hi, hv2⟩
    · rcases snoc_case hu with ⟨_, hu2⟩ | ⟨hj, hu2⟩
      · exact h.apart i j v u hv2 hu2 hij
      · rw [hu2]; exact hx i v hv2
    · rcases snoc_case hu with ⟨_, hu2⟩ | ⟨hj, hu2⟩
      · rw [hv2]; exact fun g e e' => hx j u hu2 g e' e
      · omega
  · rcases snoc_case hv with ⟨_, hv2⟩ | ⟨_, hv2⟩
    · exact h.cross i j v c hv2 hc
    · rw [hv2]; exact hy j c hc
/-- append(nil, f...) of numbers -/
theorem wpList_append_nums {P : Program} (w : World) {ops : Array Oper} {rest : List Oper} {o : Oper} {a : Act} {Q : Exit → Act → World → Prop} (hgd : o.guard = none) (s x : Operand) (t : TypeId)
    (ho : o.op = .call { callee := .builtin .append, args := #[s, x], argTypes := #[t, t] })
    (hinfo : (P.info? 3).map (fun i => (i.zero, i.size, i.bytes)) = some (some (.int .i64 0), 1, 8)) (ht : P.underlying t = some (.slice 3))
    (hv : a.eval s = .slice none 0 0) (B : Nat) (f : Value) (l : List Int) (hf : Fld.RoI B w f l) (hx : a.eval x = f) (hl : 0 < l.length) (hl7 : l.length ≤ 7)
    (hK : ∀ v' w', Fld.RoI w.heap.size w' v' l → Below w.heap.size w w' → wpList P ops Q rest (a.put o.dst v') w') : wpList P ops Q (o :: rest) a w := by
  obtain ⟨i0, hi, hz0, hz1, hz2⟩ := Lft.info_parts3 hinfo
  have hf0 : w.ownsRow B 3 1 f l.length (Fld.ic l) := hf
  have hil : (Fld.ic l).length = l.length := by simp [Fld.ic]
  rcases hf0.2 with ⟨_, h1⟩ | ⟨g, cap, cur, e, _, _, _⟩
  · omega
  · subst e
    refine wpList_append_own_at w hgd s x t ho w.heap.size 3 i0 _ 1 8 ht hi hz0 hz1 hz2 rfl (by decide) (.slice none 0 0) 0 [] hv (World.ownsRow_nil _ _ _ _) ⟨g, 0, none⟩ l.length cap (Fld.ic l) hx (by rw [hil, Nat.mul_one]) ?_ ?_ (by unfold maxLen; omega) (by omega) (Nat.le_refl _) (fun v' w' a1 a2 _ _ => hK v' w' ?_ ((Below.refl _ w).grown a2 (Nat.le_refl _) (fun k hk => nomatch hk)))
    · intro j u hj
      have hjl := (List.getElem?_eq_some_iff.1 hj).1
      rw [Addr.add_lit, Nat.zero_add, ← hj]
      exact World.ownsRow.cellAt hf0 j (by omega)
    · intro u hu
      simp only [Fld.ic, List.mem_map] at hu
      obtain ⟨z, _, rfl⟩ := hu
      rfl
    · show w'.ownsRow w.heap.size 3 1 v' l.length (Fld.ic l)
      rw [Nat.zero_add, List.nil_append] at a1
      exact a1
theorem wpList_append_lst {P : Program} (w : World) {ops : Array Oper} {rest : List Oper} {o : Oper} {a : Act} {Q : Exit → Act → World → Prop} (hgd : o.guard = none) (s x : Operand) (t : TypeId)
    (ho : o.op = .call { callee := .builtin .append, args := #[s, x], argTypes := #[t, t] })
    (B : Nat) (hinfo : (P.info? 72).map (fun i => (i.zero, i.size, i.bytes)) = some (some (.slice none 0 0), 1, 24)) (ht : P.underlying t = some (.slice 72))
    (v : Value) (xs : List Value) (hv : a.eval s = v) (h : w.ownsRow B 72 1 v xs.length xs) (g : Nat) (y : Value) (hx : a.eval x = .slice (some ⟨g, 0, none⟩) 1 1)
    (hc : w.cell? ⟨g, 0, none⟩ = some y) (h1 : y.oneCell' = true) (hmax : xs.length ≤ 5000000000) (hB : B ≤ w.heap.size)
    (hK : ∀ v' w', RowIs B 72 w' v' (xs ++ [y]) → w.grownBy w' v.ownBlock → (v'.ownBlock = v.ownBlock ∨ v'.ownBlock = some w.heap.size) → wpList P ops Q rest (a.put o.dst v') w') : wpList P ops Q (o :: rest) a w := by
  obtain ⟨i0, hi, hz0, hz1, hz2⟩ := Lft.info_parts3 hinfo
  refine wpList_append_own_at w hgd s x t ho B 72 i0 _ 1 24 ht hi hz0 hz1 hz2 rfl (by decide) v xs.length xs hv h ⟨g, 0, none⟩ 1 1 [y] hx rfl ?_ ?_ (by unfold maxLen; omega) (by omega) hB (fun v' w' a1 a2 _ a4 => hK v' w' (by unfold RowIs; rw [List.length_append]; exact a1) a2 a4)
  · intro j u hj
    match j, hj with
    | 0, hj => simp at hj; subst hj; simpa [Addr.add] using hc
  · intro u hu
    obtain rfl := List.mem_singleton.1 hu
    exact h1
end Go.Proofs.YtebklbijpdphaaaDoor
