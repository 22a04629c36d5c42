/-
  Package manifest: parse.
-/
import Derived.Test.YtfccimacloagiaaDoorMp6
namespace Go.Proofs.YtfccimacloagiaaDoor
open Go Go.RowKit
open Wb

/-- segments in a row of the call's own -/
def SgR (B : Nat) (w : World) (v : Value) (l : List Sg) : Prop := w.ownsRow B 46 3 v l.length (l.flatMap sgc)
theorem infoSg3 : (Tryd.prog.info? 46).map (fun i => (i.zero, i.size, i.bytes)) = some (some (.agg #[.int .i64 0, .int .i64 0, .int .i64 0]), 3, 24) := by kernel_rfl
theorem info_partsM {P : Program} {t : TypeId} {z : Value} {s b : Nat} (h : (P.info? t).map (fun i => (i.zero, i.size, i.bytes)) = some (some z, s, b)) : ∃ i, P.info? t = some i ∧ i.zero = some z ∧ i.size = s ∧ i.bytes = b := by
  cases hi : P.info? t with
  | none => rw [hi] at h; simp at h
  | some i =>
    rw [hi] at h
    simp only [Option.map_some, Option.some.injEq, Prod.mk.injEq] at h
    exact ⟨i, rfl, h.1, h.2.1, h.2.2⟩
theorem SgR.nil (B : Nat) (w : World) : SgR B w (.slice none 0 0) [] := World.ownsRow_nil _ _ _ _
theorem SgR.block {B : Nat} {w w' : World} {v : Value} {l : List Sg} (h : SgR B w v l) (hg : ∀ g, v.ownBlock = some g → w'.heap[g]? = w.heap[g]?) : SgR B w' v l := by
  unfold SgR at h ⊢
  refine ⟨h.1, ?_⟩
  rcases h.2 with h1 | ⟨g, cap, cur, e, hb, hh, rest⟩
  · exact .inl h1
  · exact .inr ⟨g, cap, cur, e, hb, (hg g (by rw [e]; rfl)).trans hh, rest⟩
theorem SgR.kept {B : Nat} {w w' : World} {v : Value} {l : List Sg} (h : SgR B w v l) (hb : Below w.heap.size w w') : SgR B w' v l := h.block fun g hg => hb.block g (World.ownsRow.lt h g hg).2
theorem SgR.weak {B B2 : Nat} {w : World} {v : Value} {l : List Sg} (h : SgR B2 w v l) (hB : B ≤ B2) : SgR B w v l := by
  unfold SgR at h ⊢
  refine ⟨h.1, ?_⟩
  rcases h.2 with h1 | ⟨g, cap, cur, e, hb, rest⟩
  · exact .inl h1
  · exact .inr ⟨g, cap, cur, e, Nat.le_trans hB hb, rest⟩
theorem flat_sgc_get : ∀ (l : List Sg) (k : Nat) (s : Sg) (j : Nat) (u : Value), l[k]? = some s → (sgc s)[j]? = some u → (l.flatMap sgc)[k * 3 + j]? = some u
  | [], k, s, j, u, h, _ => by simp at h
  | x :: r, 0, s, j, u, h, hj => by
    simp at h
    subst h
    rw [List.flatMap_cons, Nat.zero_mul, Nat.zero_add, List.getElem?_append_left (List.getElem?_eq_some_iff.1 hj).1]
    exact hj
  | x :: r, k + 1, s, j, u, h, hj => by
    rw [List.flatMap_cons, List.getElem?_append_right (by show 3 ≤ _; omega)]
    show (r.flatMap sgc)[(k + 1) * 3 + j - 3]? = _
    rw [show (k + 1) * 3 + j - 3 = k * 3 + j by omega]
    exact flat_sgc_get r k s j u (by simpa using h) hj
theorem flat_sgc_len (l : List Sg) : (l.flatMap sgc).length = l.length * 3 := by
  induction l with
  | nil => rfl
  | cons s r ih => rw [List.flatMap_cons, List.length_append, ih]; simp [sgc]; omega
theorem SgR.at {B : Nat} {w : World} {v : Value} {l : List Sg} (h : SgR B w v l) : SgsAt w v l := by
  have h0 := h
  unfold SgR at h
  rcases h.2 with ⟨rfl, h1⟩ | ⟨g, cap, cur, rfl, _, hh, h1, h2, h3, h4⟩
  · obtain rfl : l = [] := List.eq_nil_of_length_eq_zero h1
    exact ⟨none, 0, rfl, Nat.le_refl _, Nat.zero_le _, fun k s hs => by simp at hs⟩
  · refine ⟨some ⟨g, 0, none⟩, cap, rfl, h1, h2, fun k s hs => ⟨g, 0, rfl, fun j u hj => ?_⟩⟩
    have hk := (List.getElem?_eq_some_iff.1 hs).1
    have hj3 : j < 3 := by have := (List.getElem?_eq_some_iff.1 hj).1; simpa [sgc] using this
    have := World.ownsRow.cellAt h0 (k * 3 + j) (by omega)
    rw [Nat.zero_add]
    rw [this]
    exact flat_sgc_get l k s j u hs hj
theorem wpList_append_seg {P : Program} (w : World) {ops : Array Oper} {rest : List Oper} {o : Oper} {a : Act} {Q : Exit → Act → World → Prop} (hgd : o.guard = none) (s x : Operand) (t : TypeId)
    (ho : o.op = .call { callee := .builtin .append, args := #[s, x], argTypes := #[t, t] })
    (B : Nat) (hinfo : (P.info? 46).map (fun i => (i.zero, i.size, i.bytes)) = some (some (.agg #[.int .i64 0, .int .i64 0, .int .i64 0]), 3, 24)) (ht : P.underlying t = some (.slice 46))
    (v : Value) (l : List Sg) (q : Sg) (hv : a.eval s = v) (h : SgR B w v l) (g : Nat) (hx : a.eval x = .slice (some ⟨g, 0, none⟩) 1 1)
    (hc : w.rangeAt g 0 (sgc q)) (hmax : (l.length + 1) * 24 ≤ 140737488355328) (hB : B ≤ w.heap.size)
    (hK : ∀ v' w', SgR B w' v' (l ++ [q]) → w.grownBy w' v.ownBlock → (v'.ownBlock = v.ownBlock ∨ v'.ownBlock = some w.heap.size) → wpList P ops Q rest (a.put o.dst v') w') : wpList P ops Q (o :: rest) a w := by
  obtain ⟨i0, hi, hz0, hz1, hz2⟩ := info_partsM hinfo
  refine wpList_append_own_at w hgd s x t ho B 46 i0 _ 3 24 ht hi hz0 hz1 hz2 rfl (by decide) v l.length (l.flatMap sgc) hv h ⟨g, 0, none⟩ 1 1 (sgc q) hx rfl ?_ ?_ (by unfold maxLen; omega) (by omega) hB ?_
  · intro j u hj
    have := hc j u hj
    rw [Addr.add_lit]
    exact this
  · intro u hu
    simp only [sgc, List.mem_cons, List.not_mem_nil, or_false] at hu
    rcases hu with rfl | rfl | rfl <;> rfl
  · intro v' w' h2 h3 _ h5
    refine hK v' w' ?_ h3 h5
    unfold SgR
    rw [List.length_append, List.flatMap_append]
    simpa using h2
/-- a manifest in a block -/
def Mb (w : World) (A : Nat) (m : Mf) (v : Value) : Prop := ∃ t, w.heap[A]? = some (.cells #[.int .i64 m.g, .int .i64 m.v, .int .i64 m.x, .int .i64 m.t, v] t)
theorem Mb.cells {w : World} {A : Nat} {m : Mf} {v : Value} (h : Mb w A m v) : w.cell? ⟨A, 0, none⟩ = some (.int .i64 m.g) ∧ w.cell? ⟨A, 1, none⟩ = some (.int .i64 m.v) ∧ w.cell? ⟨A, 2, none⟩ = some (.int .i64 m.x) ∧ w.cell? ⟨A, 3, none⟩ = some (.int .i64 m.t) ∧ w.cell? ⟨A, 4, none⟩ = some v := by
  obtain ⟨t, h⟩ := h
  unfold World.cell?
  rw [h]
  exact ⟨rfl, rfl, rfl, rfl, rfl⟩
theorem Mb.frozen {w : World} {A : Nat} {m : Mf} {v : Value} (h : Mb w A m v) (j : Nat) : w.frozen? ⟨A, j, none⟩ = false := by
  obtain ⟨t, h⟩ := h
  unfold World.frozen?
  rw [h]
  simp
theorem Mb.put4 {w : World} {A : Nat} {m : Mf} {v : Value} (h : Mb w A m v) (u : Value) : Mb (w.setCell ⟨A, 4, none⟩ u) A m u := by
  obtain ⟨t, h⟩ := h
  refine ⟨t, ?_⟩
  simp only [World.setCell]
  rw [Array.getElem?_modify, if_pos rfl, h]
  rfl
theorem Mb.block {w w' : World} {A : Nat} {m : Mf} {v : Value} (h : Mb w A m v) (e : w'.heap[A]? = w.heap[A]?) : Mb w' A m v := by
  obtain ⟨t, h⟩ := h
  exact ⟨t, e.trans h⟩
theorem Rd.block {w w' : World} {R : Nat} {v : Value} {a : Int} {f : Nat} (h : Rd w R v a f) (e : w'.heap[R]? = w.heap[R]?) : Rd w' R v a f := by
  obtain ⟨t, h⟩ := h
  exact ⟨t, e.trans h⟩
theorem Only.below {R B : Nat} {w w' : World} (h : Only R w w') (hB : B ≤ R) : Below B w w' := ⟨h.os, h.tape, h.output, Nat.le_of_eq h.size.symm, fun g hg => h.block g (by omega)⟩
end Go.Proofs.YtfccimacloagiaaDoor
