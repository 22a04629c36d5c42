/-
  A struct of rows, each lengthened by appends; lists of marked lists.
-/
import Derived.Test.YtggenlnknnhjgaaCb
import Derived.Test.YtggenlnknnhjgaaSb7
namespace Go.Proofs.Ytggenlnknnhjgaa
open Go Go.RowKit
open Wb
namespace Cb
/-- only these blocks change -/
structure Fr (w w' : World) (F : Nat → Prop) : Prop where
  os : w'.os = w.os
  tape : w'.tape = w.tape
  output : w'.output = w.output
  size : w.heap.size ≤ w'.heap.size
  block : ∀ k, k < w.heap.size → ¬ F k → w'.heap[k]? = w.heap[k]?
section
variable {w w' w2 : World} {F F2 : Nat → Prop} {B g : Nat}
theorem Fr.refl (w : World) (F : Nat → Prop) : Fr w w F := ⟨rfl, rfl, rfl, Nat.le_refl _, fun _ _ _ => rfl⟩
theorem Fr.trans (h : Fr w w' F) (h2 : Fr w' w2 F2) (hF : ∀ k, k < w.heap.size → F2 k → F k) : Fr w w2 F :=
  ⟨h2.os.trans h.os, h2.tape.trans h.tape, h2.output.trans h.output, Nat.le_trans h.size h2.size, fun k hk hn => (h2.block k (Nat.lt_of_lt_of_le hk h.size) fun e => hn (hF k hk e)).trans (h.block k hk hn)⟩
theorem Fr.mono (h : Fr w w' F) (hF : ∀ k, F k → F2 k) : Fr w w' F2 := ⟨h.os, h.tape, h.output, h.size, fun k hk hn => h.block k hk fun e => hn (hF k e)⟩
theorem Fr.kept (h : Below w.heap.size w w') : Fr w w' F := ⟨h.os, h.tape, h.output, h.size, fun k hk _ => h.block k hk⟩
theorem Fr.grown {b : Option Nat} (h : w.grownBy w' b) (hb : ∀ k, b = some k → F k) : Fr w w' F := ⟨h.os, h.tape, h.output, h.size, fun k hk hn => h.block k hk fun e => hn (hb k e.symm)⟩
theorem Fr.below (h : Fr w w' F) (hB : B ≤ w.heap.size) (hF : ∀ k, F k → B ≤ k) : Below B w w' :=
  ⟨h.os, h.tape, h.output, h.size, fun k hk => h.block k (Nat.lt_of_lt_of_le hk hB) fun e => by have := hF k e; omega⟩
theorem fr_set (w : World) (g j : Nat) (v : Value) : Fr w (w.setCell ⟨g, j, none⟩ v) (· = g) := ⟨rfl, rfl, rfl, by simp [World.setCell], fun _ _ hn => set_other _ _ _ _ hn⟩
theorem App.fr {C C' : Nat → Option Cl} {e : TypeId} {c n : Nat} {ok : List Value → Prop} {v' : Value} (h : App C w w' e c ok v' n C') : Fr w w' fun q => C q ≠ Option.none := ⟨h.os, h.tape, h.output, h.size, fun k hk hn => h.block k hk (Classical.not_not.1 hn)⟩
/-- rows that one struct holds -/
structure Bm (B : Nat) (tb : TypeId) (w : World) (g : Nat) (V : List Value) (D : List (TypeId × List Value)) : Prop where
  box : LB w g tb V
  rows : ∀ (i : Nat) (v : Value) (d : TypeId × List Value), V[i]? = some v → D[i]? = some d → w.ownsRow B d.1 1 v d.2.length d.2
  len : V.length = D.length
  apt : ∀ (i j : Nat) (u v : Value), V[i]? = some u → V[j]? = some v → i ≠ j → ∀ q, u.ownBlock = some q → v.ownBlock ≠ some q
  gB : B ≤ g
  tne : ∀ d ∈ D, d.1 ≠ tb
/-- its blocks -/
def Bo (g : Nat) (V : List Value) (q : Nat) : Prop := q = g ∨ ∃ v ∈ V, v.ownBlock = some q
variable {tb : TypeId} {V : List Value} {D : List (TypeId × List Value)}
theorem Bm.row (h : Bm B tb w g V D) {v : Value} (hv : v ∈ V) : ∃ d ∈ D, w.ownsRow B d.1 1 v d.2.length d.2 := by
  obtain ⟨i, hi, e⟩ := List.getElem_of_mem hv
  have hd : i < D.length := by rw [← h.len]; exact hi
  exact ⟨D[i], List.getElem_mem hd, h.rows i v D[i] (by rw [← e]; exact List.getElem?_eq_getElem hi) (List.getElem?_eq_getElem hd)⟩
theorem Bm.lt (h : Bm B tb w g V D) {q : Nat} (hq : Bo g V q) : B ≤ q ∧ q < w.heap.size := by
  rcases hq with rfl | ⟨v, hv, e⟩
  · exact ⟨h.gB, h.box.lt⟩
  · obtain ⟨d, -, hr⟩ := h.row hv
    exact World.ownsRow.lt hr q e
theorem Bm.gne (h : Bm B tb w g V D) {v : Value} (hv : v ∈ V) : v.ownBlock ≠ some g := fun e => by
  obtain ⟨d, hd, hr⟩ := h.row hv
  obtain ⟨cur, hc⟩ := Mg.row_type hr g e
  have h2 : w.heap[g]? = some (.cells V.toArray tb) := h.box
  rw [hc] at h2
  simp at h2
  exact h.tne d hd h2.2
theorem Bm.blk (h : Bm B tb w g V D) (hb : ∀ q, Bo g V q → w'.heap[q]? = w.heap[q]?) : Bm B tb w' g V D :=
  ⟨(hb g (.inl rfl)).trans h.box, fun i v d hv hd => Mg.row_block (h.rows i v d hv hd) fun q e => hb q (.inr ⟨v, List.mem_of_getElem? hv, e⟩), h.len, h.apt, h.gB, h.tne⟩
theorem Bm.kept (h : Bm B tb w g V D) (hb : Below w.heap.size w w') : Bm B tb w' g V D := h.blk fun q hq => hb.block q (h.lt hq).2
theorem Bm.cell (h : Bm B tb w g V D) (i : Nat) (v : Value) (hv : V[i]? = some v) : w.cell? ⟨g, i, none⟩ = some v := h.box.cell i v hv
/-- the shape of a row, and what stands in it -/
theorem Bm.at_ (h : Bm B tb w g V D) (i : Nat) (v : Value) (t : TypeId) (xs : List Value) (hv : V[i]? = some v) (hd : D[i]? = some (t, xs)) : ∃ a c, v = .slice a xs.length c ∧ xs.length ≤ c ∧ c ≤ maxLen ∧ ∀ j x, xs[j]? = some x → ∃ b, a = some ⟨b, 0, none⟩ ∧ w.cell? ⟨b, j, none⟩ = some x := by
  have hr := h.rows i v (t, xs) hv hd
  rcases hr.2 with ⟨e, h0⟩ | ⟨b, c, cur, e, -, -, h1, h2, -⟩
  · have hx : xs = [] := List.eq_nil_of_length_eq_zero h0
    refine ⟨Option.none, 0, by rw [e, hx]; rfl, by rw [hx]; exact Nat.le_refl _, Nat.zero_le _, fun j x hj => ?_⟩
    rw [hx] at hj
    simp at hj
  · refine ⟨_, c, e, h1, h2, fun j x hj => ⟨b, rfl, ?_⟩⟩
    have hjl := (List.getElem?_eq_some_iff.1 hj).1
    rw [e] at hr
    rw [hr.cellAt j (by rw [hr.1] at hjl; exact hjl)]
    exact hj
theorem Bm.app {P : Program} (h : Bm B tb w g V D) (i : Nat) (v : Value) (t : TypeId) (xs : List Value) (hv : V[i]? = some v) (hd : D[i]? = some (t, xs)) (st ty : TypeId) (z : Value) (by_ : Nat) (hinfo : (P.info? t).map (fun i => (i.zero, i.size, i.bytes)) = some (some z, 1, by_)) (hz : z.cells.size = 1) (ht : P.underlying st = some (.slice t)) (x : Value) (hx : x.oneCell' = true) (gx k : Nat) (hcell : w.cell? ⟨gx, 0, none⟩ = some x) (hmax : xs.length ≤ 100000000) (hby : by_ ≤ 1000) (hB : B ≤ w.heap.size) :
    ∃ v' W, (Builtin.append_ #[st, st] ty #[v, .slice (some ⟨gx, 0, none⟩) 1 k]).run P w = .ok v' W ∧ LB W g tb V ∧ Bm B tb (W.setCell ⟨g, i, none⟩ v') g (V.set i v') (D.set i (t, xs ++ [x])) ∧ Fr w (W.setCell ⟨g, i, none⟩ v') (Bo g V) ∧ (∀ q, Bo g (V.set i v') q → Bo g V q ∨ w.heap.size ≤ q) ∧ ∃ a c, v' = .slice a (xs.length + 1) c := by
  obtain ⟨i0, hi, hq⟩ := Option.map_eq_some_iff.1 hinfo
  simp only [Prod.mk.injEq] at hq
  obtain ⟨hz0, hs0, hb0⟩ := hq
  have hr0 := h.rows i v (t, xs) hv hd
  have hbound : (xs.length + 1) * by_ ≤ 140737488355328 := by
    have h1 : (xs.length + 1) * by_ ≤ 100000001 * 1000 := Nat.mul_le_mul (by omega) hby
    omega
  obtain ⟨v', W, hr, h1, h2, -, h3⟩ := run_append_own_at (P := P) w B st ty t i0 z 1 by_ ht hi hz0 hs0 hb0 hz (by omega) v xs.length xs hr0 ⟨gx, 0, none⟩ 1 k [x] rfl (fun j u hj => by
    have hj0 : j = 0 := by
      have := (List.getElem?_eq_some_iff.1 hj).1
      simp at this
      omega
    subst hj0
    rw [Addr.add_lit, Nat.zero_add]
    rw [hcell]
    exact hj) (fun u hu => by rw [List.mem_singleton.1 hu]; exact hx) (by unfold maxLen; omega) hbound hB
  have hvm := List.mem_of_getElem? hv
  have hgv := h.gne hvm
  have hbg : LB W g tb V := (h2.block g h.box.lt fun e => hgv e.symm).trans h.box
  have hlen : i < V.length := (List.getElem?_eq_some_iff.1 hv).1
  have hnew : ∀ q, v'.ownBlock = some q → v.ownBlock = some q ∨ q = w.heap.size := fun q e => by
    rcases h3 with e2 | e2
    · exact .inl (e2.symm.trans e)
    · rw [e2] at e
      exact .inr (by injection e with e; exact e.symm)
  have hg' : v'.ownBlock ≠ some g := fun e => by
    rcases hnew g e with e2 | e2
    · exact hgv e2
    · have := h.box.lt
      omega
  have hother : ∀ (u : Value), u ∈ V → u.ownBlock ≠ v.ownBlock ∨ u.ownBlock = Option.none → ∀ q, u.ownBlock = some q → (W.setCell ⟨g, i, none⟩ v').heap[q]? = w.heap[q]? := fun u hu hne q e => by
    have hqg : q ≠ g := fun e2 => h.gne hu (by rw [e, e2])
    rw [set_other _ _ _ _ hqg]
    refine h2.block q (h.lt (.inr ⟨u, hu, e⟩)).2 fun e2 => ?_
    rcases hne with h9 | h9
    · exact h9 (by rw [e, e2])
    · rw [h9] at e
      cases e
  refine ⟨v', W, hr, hbg, ⟨hbg.set i v', fun j u d hu hj => ?_, by rw [List.length_set, List.length_set]; exact h.len, fun j m u u' hu hu' hjm q e => ?_, h.gB, fun d hd2 => ?_⟩, ?_, fun q hq => ?_, ?_⟩
  · by_cases hji : j = i
    · subst hji
      rw [List.getElem?_set_self hlen] at hu
      rw [List.getElem?_set_self (by rw [← h.len]; exact hlen)] at hj
      cases hu
      cases hj
      rw [List.length_append]
      refine Mg.row_block h1 fun q e => set_other _ _ _ _ fun e2 => hg' ?_
      rw [e, show q = g from e2]
    · rw [List.getElem?_set_ne (Ne.symm hji)] at hu hj
      refine Mg.row_block (h.rows j u d hu hj) fun q e => hother u (List.mem_of_getElem? hu) ?_ q e
      refine .inl fun e2 => h.apt j i u v hu hv hji q e ?_
      rw [← e2, e]
  · by_cases hji : j = i
    · subst hji
      rw [List.getElem?_set_self hlen] at hu
      cases hu
      rw [List.getElem?_set_ne hjm] at hu'
      intro e2
      rcases hnew q e with e3 | e3
      · exact h.apt j m v u' hv hu' hjm q e3 e2
      · have := (h.lt (.inr ⟨u', List.mem_of_getElem? hu', e2⟩)).2
        omega
    · rw [List.getElem?_set_ne (Ne.symm hji)] at hu
      by_cases hmi : m = i
      · subst hmi
        rw [List.getElem?_set_self hlen] at hu'
        cases hu'
        intro e2
        rcases hnew q e2 with e3 | e3
        · exact h.apt j m u v hu hv hji q e e3
        · have := (h.lt (.inr ⟨u, List.mem_of_getElem? hu, e⟩)).2
          omega
      · rw [List.getElem?_set_ne (Ne.symm hmi)] at hu'
        exact h.apt j m u u' hu hu' hjm q e
  · rcases List.mem_or_eq_of_mem_set hd2 with e | e
    · exact h.tne d e
    · rw [e]
      exact h.tne (t, xs) (List.mem_of_getElem? hd)
  · refine (Fr.grown (F := Bo g V) h2 fun k e => .inr ⟨v, hvm, e⟩).trans (fr_set W g i v') fun k _ e => .inl e
  · rcases hq with rfl | ⟨u, hu, e⟩
    · exact .inl (.inl rfl)
    · rcases List.mem_or_eq_of_mem_set hu with e2 | e2
      · exact .inl (.inr ⟨u, e2, e⟩)
      · rw [e2] at e
        rcases hnew q e with e3 | e3
        · exact .inl (.inr ⟨v, hvm, e3⟩)
        · exact .inr (by omega)
  · obtain ⟨a, c, e, -⟩ := Mg.row_shape h1
    exact ⟨a, c, e⟩
/-- a kind of marked lists: the elements' type, their cells, what a mark's element is -/
structure Kd where
  e : TypeId
  c : Nat
  ok : Value → List Value → Prop
/-- lists, each with its length and its mark -/
abbrev En := Value × Nat × Value
def Vs (C : Nat → Option Cl) (K : Kd) (es : List En) : Prop := ∀ x ∈ es, Vw C K.e K.c (K.ok x.2.2) x.1 x.2.1
/-- the longer ones -/
def Hs (C : Nat → Option Cl) (K : Kd) (es : List En) (hs : List (Value × Nat)) : Prop := hs.length ≤ es.length ∧ ∀ (i : Nat) (x : En) (h : Value × Nat), es[i]? = some x → hs[i]? = some h → Vw C K.e K.c (K.ok x.2.2) h.1 h.2
variable {C C' : Nat → Option Cl} {K : Kd} {es : List En} {hs : List (Value × Nat)}
theorem Vs.ext (h : Vs C K es) (hx : Ext C C') : Vs C' K es := fun x hm => (h x hm).ext hx
theorem Hs.ext (h : Hs C K es hs) (hx : Ext C C') : Hs C' K es hs := ⟨h.1, fun i x y h1 h2 => (h.2 i x y h1 h2).ext hx⟩
theorem Vs.nil (C : Nat → Option Cl) (K : Kd) : Vs C K [] := fun x hx => by cases hx
theorem Hs.nil (C : Nat → Option Cl) (K : Kd) (es : List En) : Hs C K es [] := ⟨Nat.zero_le _, fun i x h _ h2 => by simp at h2⟩
theorem Vs.snoc (h : Vs C K es) {x : En} (hx : Vw C K.e K.c (K.ok x.2.2) x.1 x.2.1) : Vs C K (es ++ [x]) := fun y hy => by
  rcases List.mem_append.1 hy with e | e
  · exact h y e
  · rw [List.mem_singleton.1 e]
    exact hx
theorem Hs.more (h : Hs C K es hs) (x : En) : Hs C K (es ++ [x]) hs := ⟨by rw [List.length_append]; exact Nat.le_trans h.1 (Nat.le_add_right _ _), fun i y z h1 h2 => by
  have hi := (List.getElem?_eq_some_iff.1 h2).1
  rw [List.getElem?_append_left (Nat.lt_of_lt_of_le hi h.1)] at h1
  exact h.2 i y z h1 h2⟩
theorem Hs.snoc (h : Hs C K es hs) {x : En} {y : Value × Nat} (hx : es[hs.length]? = some x) (hy : Vw C K.e K.c (K.ok x.2.2) y.1 y.2) : Hs C K es (hs ++ [y]) := by
  refine ⟨by rw [List.length_append]; exact (List.getElem?_eq_some_iff.1 hx).1, fun i u z h1 h2 => ?_⟩
  by_cases hi : i < hs.length
  · rw [List.getElem?_append_left hi] at h2
    exact h.2 i u z h1 h2
  · have hl := (List.getElem?_eq_some_iff.1 h2).1
    rw [List.length_append, List.length_singleton] at hl
    obtain rfl : i = hs.length := by omega
    rw [List.getElem?_append_right (Nat.le_refl _), Nat.sub_self] at h2
    simp at h2
    rw [hx] at h1
    cases h1
    rw [← h2]
    exact hy
end
end Cb
end Go.Proofs.Ytggenlnknnhjgaa
