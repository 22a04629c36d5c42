import Derived.Maps.RangeWalk
import Derived.Test.YtceokpklcfmadaaQI4
import Derived.Test.YtceokpklcfmadaaQH1
/-
  Package index: entries in a row, sorted by their keys.
-/
namespace Go.Proofs.Ytceokpklcfmadaa
open Go Go.RowKit Go.ChangeShapes Go.Shelf Go.Lib Go.Sort
open Wb

/-- an entry: its key, its list's slice -/
abbrev Ent := Int × (Option Addr × Nat × Nat)
def lsE (x : Ent) : Value := .slice x.2.1 x.2.2.1 x.2.2.2
def enE (x : Ent) : List Value := [.int .i64 x.1, lsE x]
theorem fmE_len (xs : List Ent) : (xs.flatMap enE).length = xs.length * 2 := by
  induction xs with
  | nil => rfl
  | cons x r ih => rw [List.flatMap_cons, List.length_append, ih, List.length_cons]; simp [enE]; omega
theorem fmE_get : ∀ (xs : List Ent) (t : Nat), (xs.flatMap enE)[t]? = (xs[t / 2]?).bind fun x => (enE x)[t % 2]?
  | [], t => by simp
  | x :: r, t => by
    rw [List.flatMap_cons]
    by_cases h : t < 2
    · rw [List.getElem?_append_left (by simpa [enE] using h), Nat.div_eq_of_lt h, Nat.mod_eq_of_lt h]
      rfl
    · rw [List.getElem?_append_right (by simp [enE]; omega), fmE_get r]
      have e1 : (enE x).length = 2 := rfl
      rw [e1, show t / 2 = (t - 2) / 2 + 1 by omega, show t % 2 = (t - 2) % 2 by omega]
      rfl
theorem flatE (d : Array Ent) : (flatK enE 2 d).toList = d.toList.flatMap enE := by
  refine List.ext_getElem? fun t => ?_
  rw [fmE_get]
  by_cases h : t < d.size * 2
  · rw [Array.getElem?_toList, Array.getElem?_eq_getElem (by rw [size_flatK]; exact h)]
    have e := get_flatK enE 2 d t h
    rw [getElem!_pos _ t (by rw [size_flatK]; exact h)] at e
    rw [e]
    have h2 : t / 2 < d.size := by omega
    rw [Array.getElem?_toList, Array.getElem?_eq_getElem h2, getElem!_pos d (t / 2) h2]
    have h3 : t % 2 < (enE d[t / 2]).length := by show t % 2 < 2; omega
    rw [Option.bind_some, List.getElem?_eq_getElem h3, getElem!_pos (enE d[t / 2]) (t % 2) h3]
  · rw [List.getElem?_eq_none (by rw [Array.length_toList, size_flatK]; omega), List.getElem?_eq_none (by rw [Array.length_toList]; omega)]
    rfl
section
variable {w : World} {B g cap : Nat} {xs : List Ent}
theorem holdsE (h : w.ownsRow B 122 2 (.slice (some ⟨g, 0, none⟩) xs.length cap) xs.length (xs.flatMap enE)) : HoldsK enE 2 w g 0 xs.toArray := by
  intro j hj
  rw [size_flatK] at hj
  have hj2 : j < xs.length * 2 := by simpa using hj
  refine ⟨?_, by rw [Nat.zero_add]; exact World.ownsRow.frozenAt h j⟩
  have e := World.ownsRow.cellAt h j (by omega)
  rw [Nat.zero_add, e]
  have e2 := flatE xs.toArray
  rw [List.toList_toArray] at e2
  rw [← e2, Array.getElem?_toList, Array.getElem?_eq_getElem (by rw [size_flatK]; exact hj), getElem!_pos _ j (by rw [size_flatK]; exact hj)]
  rfl
theorem grownE (n : Nat) (os : Array Obj) (d : Array Ent) : w.grownBy (sortWorldK enE 2 w g 0 n d os) (some g) := by
  refine ⟨rfl, rfl, rfl, by simp [sortWorldK, putRowK], fun k hk hne => ?_⟩
  unfold sortWorldK putRowK
  rw [heap_grow_old _ _ (by simpa using hk)]
  have : g ≠ k := fun e => hne (by rw [e])
  simp [putRow, mapBlock, Array.getElem?_modify, this]
theorem sortedE (h : w.ownsRow B 122 2 (.slice (some ⟨g, 0, none⟩) xs.length cap) xs.length (xs.flatMap enE)) (n : Nat) (os : Array Obj) (d : Array Ent) (hd : d.size = xs.length) : (sortWorldK enE 2 w g 0 n d os).ownsRow B 122 2 (.slice (some ⟨g, 0, none⟩) xs.length cap) xs.length (d.toList.flatMap enE) := by
  rcases h.2 with ⟨e, -⟩ | ⟨g', cap', cur, e, hb, hh, h1, h2, h3, h4⟩
  · cases e
  · simp only [Value.slice.injEq, Option.some.injEq, Addr.mk.injEq, and_true, true_and] at e
    obtain ⟨rfl, rfl⟩ := e
    refine ⟨by rw [fmE_len, Array.length_toList, hd], .inr ⟨g, cap, putCells id 0 (flatK enE 2 d) cur, rfl, hb, ?_, h1, h2, by simp [putCells, h3], ?_⟩⟩
    · have hg : g < w.heap.size := (Array.getElem?_eq_some_iff.1 hh).1
      unfold sortWorldK putRowK
      rw [heap_grow_old _ _ (by simpa using hg)]
      simp [putRow, mapBlock, Array.getElem?_modify, hh, onCells]
    · rw [← flatE]
      have hs : (flatK enE 2 d).size = xs.length * 2 := by rw [size_flatK, hd]
      have hcs : xs.length * 2 ≤ cur.size := by rw [h3]; exact Nat.mul_le_mul_right 2 h1
      refine List.ext_getElem? fun j => ?_
      by_cases hj : j < xs.length * 2
      · rw [List.getElem?_take_of_lt hj, Array.getElem?_toList, Array.getElem?_toList]
        simp [putCells, hs, hj, show j < cur.size by omega]
      · rw [List.getElem?_take_eq_none (by omega), List.getElem?_eq_none (by rw [Array.length_toList]; omega)]
end
theorem ltE (x y : Ent) : ltOf (fun x y : Ent => Lib.compareInt x.1 y.1) x y = decide (x.1 < y.1) := by
  unfold ltOf Lib.compareInt
  by_cases h1 : x.1 < y.1
  · simp [h1]
  · by_cases h2 : y.1 < x.1 <;> simp [h1, h2]
theorem swoE : SWO (ltOf fun x y : Ent => Lib.compareInt x.1 y.1) where
  irrefl x := by rw [ltE]; simp
  trans x y z h1 h2 := by rw [ltE] at *; simp at *; omega
  ntrans x y z h1 h2 := by rw [ltE] at *; simp at *; omega
set_option maxRecDepth 100000 in
set_option maxHeartbeats 1000000 in
theorem closeE (x y : Ent) (W : World) : Calls Try.prog 68 #[.agg (enE x).toArray, .agg (enE y).toArray] W fun e w' => e = .returned (.int .i64 (Lib.compareInt x.1 y.1)) ∧ ∃ q os', w' = grow (W.drewN q) os' := by
  have hcon := fun W' => AnyG.cmp_Compare_int laysCmp x.1 y.1 W'
  change ∀ W', Calls Try.prog 69 _ _ _ at hcon
  unfold enE lsE
  generalize Lib.compareInt x.1 y.1 = r at hcon ⊢
  go_enter Try.func68, Try.ntmps68
  go_wp2_with (go_at_call 69; refine (hcon _).mono ?_; rintro e w' ⟨rfl, rfl⟩)
  go_ret
  exact ⟨rfl, 0, _, by rw [alloc_eq_grow, alloc_eq_grow, grow_grow]; rfl⟩
theorem isAggE (w : World) : (isAgg 122).run Try.prog w = .ok true w := by kernel_rfl
theorem sizeOfE (w : World) : (Go.sizeOf 122).run Try.prog w = .ok 2 w := by kernel_rfl
theorem pair_sorted (d : Array Ent) (n : Nat) (hn : d.size = n) (h : SortedIn (ltOf fun x y : Ent => Lib.compareInt x.1 y.1) 0 n d) (hd : (d.toList.map (·.1)).Nodup) : d.toList.Pairwise (fun a b => a.1 < b.1) := by
  subst hn
  rw [List.pairwise_iff_getElem]
  intro i j hi hj hij
  rw [Array.length_toList] at hi hj
  have e := h i j (Nat.zero_le _) hij hj
  rw [ltE, getElem!_pos d i hi, getElem!_pos d j hj] at e
  have e2 : ¬ d[j].1 < d[i].1 := of_decide_eq_false e
  have e3 : d[i].1 ≠ d[j].1 := fun e4 => by
    have h5 := List.pairwise_iff_getElem.1 hd i j (by simpa using hi) (by simpa using hj) hij
    apply h5
    simpa using e4
  rw [Array.getElem_toList, Array.getElem_toList]
  omega
theorem ixsort_any (B g cap : Nat) (xs : List Ent) (w : World) (h : w.ownsRow B 122 2 (.slice (some ⟨g, 0, none⟩) xs.length cap) xs.length (xs.flatMap enE)) (hn : xs.length < 1000000000) (hd : (xs.map (·.1)).Nodup) :
    Calls Try.prog 67 #[.slice (some ⟨g, 0, none⟩) xs.length cap, .func (.func 68) #[] #[]] w fun e w' => e = .returned (.tuple #[]) ∧ ∃ ys : List Ent, ys.Perm xs ∧ ys.Pairwise (fun a b => a.1 < b.1) ∧ w'.ownsRow B 122 2 (.slice (some ⟨g, 0, none⟩) xs.length cap) xs.length (ys.flatMap enE) ∧ w.grownBy w' (some g) := by
  have eg : ∀ args w, (callFunc 68 args).run Try.prog w = .ok (.enter 68 args) w := enters_of Try.func68 (by kernel_rfl) rfl
  have hg : g < w.heap.size := by
    rcases h.2 with ⟨e, -⟩ | ⟨g', cap', cur, e, -, hh, -⟩
    · cases e
    · simp only [Value.slice.injEq, Option.some.injEq, Addr.mk.injEq, and_true, true_and] at e
      rw [e.1]
      exact (Array.getElem?_eq_some_iff.1 hh).1
  have hcon := AnyQ.slices_SortFunc laysSortF 2 isAggE sizeOfE enE (fun _ => rfl) (fun x v hv => by simp [enE, lsE] at hv; rcases hv with rfl | rfl <;> rfl) (fun x y => Lib.compareInt x.1 y.1) swoE 68 #[] g 0 cap xs.toArray w eg (fun _ _ _ _ x y => closeE x y _) (holdsE h) hg (by simp; omega)
  change Calls Try.prog 67 _ _ _ at hcon
  rw [List.size_toArray] at hcon
  refine hcon.mono fun e w' ⟨he, d', n, os, hp, hs, hw⟩ => ⟨he, d'.toList, ?_, ?_, ?_, ?_⟩
  · have h3 := hp.2.2
    have e1 : d'.size = xs.length := by rw [hp.1]; simp
    rw [Array.toList_extract, Array.toList_extract, List.extract_eq_take_drop, List.extract_eq_take_drop, List.drop_zero, List.drop_zero, Nat.sub_zero, List.take_of_length_le (by rw [Array.length_toList]; omega), List.take_of_length_le (by simp)] at h3
    exact h3
  · have e1 : d'.size = xs.length := by rw [hp.1]; simp
    refine pair_sorted d' xs.length e1 hs ?_
    have h3 := hp.2.2
    rw [Array.toList_extract, Array.toList_extract, List.extract_eq_take_drop, List.extract_eq_take_drop, List.drop_zero, List.drop_zero, Nat.sub_zero, List.take_of_length_le (by rw [Array.length_toList]; omega), List.take_of_length_le (by simp)] at h3
    exact (h3.map (·.1)).nodup_iff.2 hd
  · rw [hw]
    exact sortedE h n os d' (by rw [hp.1]; simp)
  · rw [hw]
    exact grownE n os d'
end Go.Proofs.Ytceokpklcfmadaa

/-
  Package index: held.
-/
namespace Go.Proofs.Ytceokpklcfmadaa
open Go Go.RowKit Go.ChangeShapes
open Wb

theorem rise_eq : ∀ (a b : List Int), a.Pairwise (· < ·) → b.Pairwise (· < ·) → (∀ k, k ∈ a ↔ k ∈ b) → a = b
  | [], [], _, _, _ => rfl
  | [], y :: b, _, _, h => absurd ((h y).2 (List.mem_cons_self ..)) (by simp)
  | x :: a, [], _, _, h => absurd ((h x).1 (List.mem_cons_self ..)) (by simp)
  | x :: a, y :: b, ha, hb, h => by
    rw [List.pairwise_cons] at ha hb
    have e : x = y := by
      rcases List.mem_cons.1 ((h x).1 (List.mem_cons_self ..)) with e | e
      · exact e
      · rcases List.mem_cons.1 ((h y).2 (List.mem_cons_self ..)) with e2 | e2
        · exact e2.symm
        · have := hb.1 x e
          have := ha.1 y e2
          omega
    subst e
    rw [rise_eq a b ha.2 hb.2 fun k => ?_]
    constructor
    · intro hk
      rcases List.mem_cons.1 ((h k).1 (List.mem_cons_of_mem _ hk)) with e | e
      · have := ha.1 k hk
        omega
      · exact e
    · intro hk
      rcases List.mem_cons.1 ((h k).2 (List.mem_cons_of_mem _ hk)) with e | e
      · have := hb.1 k hk
        omega
      · exact e
theorem infoE : (Try.prog.info? 122).map (fun i => (i.zero, i.size, i.bytes)) = some (some (.agg #[.int .i64 0, .slice none 0 0]), 2, 32) := by kernel_rfl
/-- append of one entry to a row of the call's own -/
theorem wpList_appE {P : Program} (w : World) {ops : Array Oper} {rest : List Oper} {o : Oper} {a : Act} {Q : Exit → Act → World → Prop} (hgd : o.guard = none) (s x : Operand) (t : TypeId)
    (ho : o.op = .call { callee := .builtin .append, args := #[s, x], argTypes := #[t, t] })
    (B : Nat) (hinfo : (P.info? 122).map (fun i => (i.zero, i.size, i.bytes)) = some (some (.agg #[.int .i64 0, .slice none 0 0]), 2, 32)) (ht : P.underlying t = some (.slice 122))
    (v : Value) (n : Nat) (cs : List Value) (hv : a.eval s = v) (h : w.ownsRow B 122 2 v n cs) (g m c : Nat) (D : List Value) (hx : a.eval x = .slice (some ⟨g, 0, none⟩) m c)
    (hc : w.rangeAt g 0 D) (hD : D.length = m * 2) (h1 : ∀ u ∈ D, u.oneCell' = true) (hmax : n + m ≤ 100000000) (hB : B ≤ w.heap.size)
    (hK : ∀ v' w', w'.ownsRow B 122 2 v' (n + m) (cs ++ D) → w.grownBy w' v.ownBlock → wpList P ops Q rest (a.put o.dst v') w') : wpList P ops Q (o :: rest) a w := by
  obtain ⟨i0, hi, hq⟩ := Option.map_eq_some_iff.1 hinfo
  simp only [Prod.mk.injEq] at hq
  obtain ⟨v', w', hrun, h2, h3, _⟩ := run_append_own (P := P) w B t o.type 122 i0 _ 2 32 ht hi hq.1 hq.2.1 hq.2.2 rfl (by decide) v n cs h ⟨g, 0, none⟩ m c D hD (fun j u hj => by
    have := hc j u hj
    rw [Addr.add_lit]
    exact this) h1 (by unfold maxLen; omega) (by omega) hB
  refine wpList_plain hgd fun _ hK' => ?_
  unfold Oper.wp
  simp [execOp, ho, resolve, invoke, builtin, hv, hx, hrun, Result.andThen]
  exact hK' _ _ (hK v' w' h2 h3)
theorem ints_shape {w : World} {base : Nat} {e : TypeId} {q : IntKind} {v : Value} {zs : List Int} (h : w.ownsInts base e q v zs) : ∃ c : Option Addr × Nat × Nat, v = .slice c.1 c.2.1 c.2.2 := by
  rcases h.1.2 with ⟨rfl, _⟩ | ⟨g, cap, cur, rfl, _⟩
  · exact ⟨(none, 0, 0), rfl⟩
  · exact ⟨(_, _, _), rfl⟩
open Classical in
/-- what an entry of the map reads as: its row is one of the map's -/
noncomputable def rowE (w : World) (base b : Nat) (v : Value) : Option (DataW Unit × List MemPlace) := if ∀ q, v.ownBlock = some q → Mrow w b q then rowElem (H := Unit) w base 3 .i64 v else none
theorem rowE_inv {w : World} {base b : Nat} {v : Value} {y : DataW Unit × List MemPlace} (h : rowE w base b v = some y) : rowElem (H := Unit) w base 3 .i64 v = some y ∧ ∀ q, v.ownBlock = some q → Mrow w b q := by
  unfold rowE at h
  split at h
  · rename_i h1
    exact ⟨h, h1⟩
  · cases h
theorem MI.ownsE {w : World} {g b base n : Nat} {kvs : Ix.Gm} (h : MI w g b base n kvs) : w.ownsMap Try.prog 3 (rowE w base b) b n (Ix.dm kvs) := by
  obtain ⟨es, clock, hb, F, hs, hD, -⟩ := h.map
  obtain ⟨F1, hmap, _⟩ := F.stay (R' := rowE w base b) (fun x hx z hz => by
    unfold rowE
    rw [if_pos (fun q hq => ⟨es, clock, hb, x, hx, hq⟩)]
    exact hz)
  exact ⟨es, clock, hb, F1, hs, by rw [hmap]; exact hD⟩
/-- what held has gathered -/
structure HL (w : World) (base b n : Nat) (kvs : Ix.Gm) (lo hi : Int) (left : Lit → Bool) (cnt : Nat) (xs : List Ent) (o : Value) (wr : World) : Prop where
  rg : wr.ranges Try.prog 3 (rowE w base b) b w.heap.size n (Ix.dm kvs) left cnt
  row : wr.ownsRow (w.heap.size + 1) 122 2 o xs.length (xs.flatMap enE)
  keys : ∀ k : Int, k ∈ xs.map (·.1) ↔ ((∃ l, (k, l) ∈ kvs) ∧ left (.int .i64 k) = false ∧ lo ≤ k ∧ k ≤ hi)
  nd : (xs.map (·.1)).Nodup
  ent : ∀ x ∈ xs, w.ownsInts base 3 .i64 (lsE x) (Ix.get kvs x.1) ∧ ∀ q, (lsE x).ownBlock = some q → Mrow w b q
  kw : ∀ x ∈ xs, (Lit.int .i64 x.1).wf = true
  cn : xs.length + cnt ≤ kvs.length
  bel : Below w.heap.size w wr
  sz : w.heap.size + 1 ≤ wr.heap.size
section
variable {w : World} {base b n : Nat} {kvs : Ix.Gm} {lo hi : Int} {left : Lit → Bool} {cnt : Nat} {xs : List Ent} {o : Value} {wr : World}
theorem has_dm (k : Int) : Maps.has (Ix.dm kvs) (.int .i64 k) = true ↔ ∃ l, (k, l) ∈ kvs := by
  unfold Ix.dm
  rw [Maps.has_eq, List.any_eq_true]
  constructor
  · rintro ⟨p, hp, h⟩
    obtain ⟨q, hq, rfl⟩ := List.mem_map.1 hp
    unfold Ix.en Lit.sameKey at h
    have : q.1 = k := by simpa using h
    exact ⟨q.2, by rw [← this]; exact hq⟩
  · rintro ⟨l, hl⟩
    exact ⟨Ix.en (k, l), List.mem_map.2 ⟨_, hl, rfl⟩, by unfold Ix.en Lit.sameKey; simp⟩
/-- a key that comes -/
theorem key_at {x : Int} {v : Value} {y : DataW Unit × List MemPlace} (hR0 : rowE w base b v = some y) (hat : ∀ zd, (Ix.dm kvs).atKey (.int .i64 x) zd = y.1) : (∃ l, (x, l) ∈ kvs) ∧ w.ownsInts base 3 .i64 v (Ix.get kvs x) ∧ ∀ q, v.ownBlock = some q → Mrow w b q := by
  obtain ⟨hR, hmr⟩ := rowE_inv hR0
  obtain ⟨zs, ho, rfl⟩ := rowElem_inv hR
  have h1 := hat (.lit (.bool true))
  rcases Ix.dm_at kvs x (.lit (.bool true)) with ⟨l, hl, e1, e2⟩ | ⟨-, e1, -⟩
  · rw [e1] at h1
    refine ⟨⟨l, hl⟩, ?_⟩
    rcases ho.datum (H := Unit) with ⟨e3, -⟩ | e3
    · simp only at h1
      rw [e3] at h1
      cases h1
    · simp only at h1
      rw [e3] at h1
      simp only [DataW.slice.injEq, and_true] at h1
      rw [e2, Ix.lits_inj h1]
      exact ⟨ho, hmr⟩
  · rw [e1] at h1
    simp only at h1
    rcases ho.datum (H := Unit) with ⟨e3, -⟩ | e3 <;> rw [e3] at h1 <;> cases h1
theorem same_ii (k x : Int) : (Lit.int .i64 k).sameKey (.int .i64 x) = decide (k = x) := by
  unfold Lit.sameKey
  by_cases h : k = x <;> simp [h]
theorem HL.step (h : HL w base b n kvs lo hi left cnt xs o wr) {w1 : World} {cnt1 : Nat} {x : Int} (_hrg : w1.ranges Try.prog 3 (rowE w base b) b w.heap.size n (Ix.dm kvs) (fun z => left z && !z.sameKey (.int .i64 x)) cnt1) (hg : wr.grownBy w1 (some w.heap.size)) :
    w1.ownsRow (w.heap.size + 1) 122 2 o xs.length (xs.flatMap enE) ∧ Below w.heap.size w w1 ∧ w.heap.size + 1 ≤ w1.heap.size := by
  refine ⟨h.row.kept hg ?_, h.bel.grown hg h.bel.size fun k e => ?_, Nat.le_trans h.sz hg.size⟩
  · cases e : o.ownBlock with
    | none => exact .inl rfl
    | some g =>
      refine .inr fun e2 => ?_
      have := (World.ownsRow.lt h.row g e).1
      have := Option.some.inj e2
      omega
  · have := Option.some.inj e
    omega
theorem HL.skip (h : HL w base b n kvs lo hi left cnt xs o wr) {w1 : World} {cnt1 : Nat} {x : Int} (hlx : left (.int .i64 x) = true) (hrg : w1.ranges Try.prog 3 (rowE w base b) b w.heap.size n (Ix.dm kvs) (fun z => left z && !z.sameKey (.int .i64 x)) cnt1) (hlt : cnt1 < cnt) (hg : wr.grownBy w1 (some w.heap.size)) (hout : ¬ (lo ≤ x ∧ x ≤ hi)) :
    HL w base b n kvs lo hi (fun z => left z && !z.sameKey (.int .i64 x)) cnt1 xs o w1 := by
  obtain ⟨s1, s2, s3⟩ := h.step hrg hg
  refine ⟨hrg, s1, fun k => ?_, h.nd, h.ent, h.kw, by have := h.cn; omega, s2, s3⟩
  rw [h.keys k]
  simp only [same_ii]
  by_cases e : k = x
  · subst e
    rw [hlx]
    constructor
    · rintro ⟨-, h2, -⟩
      cases h2
    · rintro ⟨-, -, h3, h4⟩
      exact absurd ⟨h3, h4⟩ hout
  · simp [e]
theorem HL.push (h : HL w base b n kvs lo hi left cnt xs o wr) {w1 w2 : World} {cnt1 : Nat} {x : Int} {c : Option Addr × Nat × Nat} {o2 : Value} (hkv : ∃ l, (x, l) ∈ kvs) (hwx : (Lit.int .i64 x).wf = true) (ho : w.ownsInts base 3 .i64 (.slice c.1 c.2.1 c.2.2) (Ix.get kvs x) ∧ ∀ q, (Value.slice c.1 c.2.1 c.2.2).ownBlock = some q → Mrow w b q) (hlx : left (.int .i64 x) = true) (hrg : w1.ranges Try.prog 3 (rowE w base b) b w.heap.size n (Ix.dm kvs) (fun z => left z && !z.sameKey (.int .i64 x)) cnt1) (hlt : cnt1 < cnt) (hg : wr.grownBy w1 (some w.heap.size)) (hin : lo ≤ x ∧ x ≤ hi)
    (hbw : b < w.heap.size) (hg2 : w1.grownBy w2 o.ownBlock) (hrow : w2.ownsRow (w.heap.size + 1) 122 2 o2 (xs.length + 1) (xs.flatMap enE ++ enE (x, c))) :
    HL w base b n kvs lo hi (fun z => left z && !z.sameKey (.int .i64 x)) cnt1 (xs ++ [(x, c)]) o2 w2 := by
  obtain ⟨s1, s2, s3⟩ := h.step hrg hg
  have hob : ∀ g, o.ownBlock = some g → w.heap.size + 1 ≤ g := fun g e => (World.ownsRow.lt s1 g e).1
  have hnx : x ∉ xs.map (·.1) := fun hx => by
    have := ((h.keys x).1 hx).2.1
    rw [hlx] at this
    cases this
  refine ⟨hrg.kept hg2 (fun e => by have := hob b e.symm; omega) (fun e => by have := hob _ e.symm; omega), ?_, fun k => ?_, ?_, fun y hy => ?_, fun y hy => ?_, ?_, s2.grown hg2 s2.size fun k e => by have := hob k e; omega, Nat.le_trans s3 hg2.size⟩
  · rw [List.length_append, List.flatMap_append, List.flatMap_singleton]
    exact hrow
  · rw [List.map_append, List.mem_append, h.keys k]
    simp only [same_ii, List.map_cons, List.map_nil, List.mem_singleton]
    by_cases e : k = x
    · subst e
      rw [hlx]
      simp [hkv, hin]
    · simp [e]
  · rw [List.map_append, List.nodup_append]
    refine ⟨h.nd, by simp, fun a ha b hb => ?_⟩
    simp only [List.map_cons, List.map_nil, List.mem_singleton] at hb
    rw [hb]
    rintro rfl
    exact hnx ha
  · rcases List.mem_append.1 hy with hy | hy
    · exact h.ent y hy
    · rw [List.mem_singleton.1 hy]
      exact ho
  · rcases List.mem_append.1 hy with hy | hy
    · exact h.kw y hy
    · rw [List.mem_singleton.1 hy]
      exact hwx
  · rw [List.length_append, List.length_singleton]
    have := h.cn
    omega
end
/-- the keys within bounds -/
def within (kvs : Ix.Gm) (lo hi : Int) : Ix.Gm := kvs.filter fun p => decide (lo ≤ p.1 ∧ p.1 ≤ hi)
theorem within_rising {kvs : Ix.Gm} (h : Ix.rising kvs) (lo hi : Int) : Ix.rising (within kvs lo hi) := List.Pairwise.filter _ h
def HdPost (kvs : Ix.Gm) (base b : Nat) (lo hi : Int) (w : World) (e : Ending) (w' : World) : Prop := ∃ (es : List Ent) (v : Value), e = .returned v ∧ w'.ownsRow (w.heap.size + 1) 122 2 v es.length (es.flatMap enE) ∧ es.map (·.1) = (within kvs lo hi).map (·.1) ∧ (∀ x ∈ es, (w.ownsInts base 3 .i64 (lsE x) (Ix.get kvs x.1) ∧ ∀ q, (lsE x).ownBlock = some q → Mrow w b q) ∧ (Lit.int .i64 x.1).wf = true) ∧ Below w.heap.size w w'
theorem HL.ends {w : World} {base b n : Nat} {kvs : Ix.Gm} {lo hi : Int} {left : Lit → Bool} {cnt : Nat} {xs : List Ent} {o : Value} {wr : World} (h : HL w base b n kvs lo hi left cnt xs o wr) (hr : Ix.rising kvs) (hl : ∀ kl, left kl = false) (ys : List Ent) (hp : ys.Perm xs) (hs : ys.Pairwise (fun a b => a.1 < b.1)) : ys.map (·.1) = (within kvs lo hi).map (·.1) ∧ ∀ x ∈ ys, (w.ownsInts base 3 .i64 (lsE x) (Ix.get kvs x.1) ∧ ∀ q, (lsE x).ownBlock = some q → Mrow w b q) ∧ (Lit.int .i64 x.1).wf = true := by
  refine ⟨rise_eq _ _ ?_ ?_ fun k => ?_, fun x hx => ⟨h.ent x (hp.mem_iff.1 hx), h.kw x (hp.mem_iff.1 hx)⟩⟩
  · rw [List.pairwise_map]
    exact hs
  · rw [List.pairwise_map]
    exact within_rising hr lo hi
  · rw [(hp.map (·.1)).mem_iff, h.keys k, hl]
    unfold within
    constructor
    · rintro ⟨⟨l, hl⟩, -, h3⟩
      exact List.mem_map.2 ⟨(k, l), List.mem_filter.2 ⟨hl, by simpa using h3⟩, rfl⟩
    · intro hk
      obtain ⟨p, hp, rfl⟩ := List.mem_map.1 hk
      obtain ⟨h1, h2⟩ := List.mem_filter.1 hp
      exact ⟨⟨p.2, h1⟩, rfl, by simpa using h2⟩
end Go.Proofs.Ytceokpklcfmadaa
