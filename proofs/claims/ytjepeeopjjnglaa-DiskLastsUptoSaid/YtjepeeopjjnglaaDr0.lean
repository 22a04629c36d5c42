/-
  Rows of any kind in memory.
-/
import Derived.Test.YtjepeeopjjnglaaDkx
namespace Go.Proofs.Ytjepeeopjjnglaa
open Go Go.RowKit Go.ChangeShapes
open Wb
namespace Rd
section
variable {α : Type} {en : α → List Value} {c : Nat}
theorem flat_len (hen : ∀ x, (en x).length = c) : ∀ xs : List α, (xs.flatMap en).length = xs.length * c
  | [] => by simp
  | x :: r => by
    rw [List.flatMap_cons, List.length_append, flat_len hen r, hen, List.length_cons, Nat.add_mul]
    omega
theorem flat_at (hen : ∀ x, (en x).length = c) : ∀ (xs : List α) (j i : Nat) (h : j < xs.length), i < c → (xs.flatMap en)[j * c + i]? = (en xs[j])[i]?
  | [], j, _, h, _ => by simp at h
  | x :: r, 0, i, _, hi => by
    rw [List.flatMap_cons, Nat.zero_mul, Nat.zero_add, List.getElem?_append_left (by rw [hen]; exact hi)]
    rfl
  | x :: r, j + 1, i, h, hi => by
    have hj : j < r.length := by simpa using h
    have h9 := flat_at hen r j i hj hi
    rw [List.flatMap_cons, show (j + 1) * c + i = (en x).length + (j * c + i) by rw [hen, Nat.add_mul]; omega, List.getElem?_append_right (by omega), Nat.add_sub_cancel_left, h9]
    rfl
/-- rows of this type -/
structure TI (e st : TypeId) (c : Nat) : Prop where
  u : Try.prog.underlying st = some (.slice e)
  i : ∃ i z k, Try.prog.info? e = some i ∧ i.zero = some z ∧ i.size = c ∧ i.bytes = k ∧ z.cells.size = c ∧ k ≤ 1000
  c0 : 0 < c
theorem ti_of {e st : TypeId} {c k : Nat} {z : Value} (hu : Try.prog.underlying st = some (.slice e)) (h : (Try.prog.info? e).map (fun i => (i.zero, i.size, i.bytes)) = some (some z, c, k)) (hz : z.cells.size = c) (hk : k ≤ 1000) (h0 : 0 < c) : TI e st c := by
  obtain ⟨i0, hi, hq⟩ := Option.map_eq_some_iff.1 h
  simp only [Prod.mk.injEq] at hq
  exact ⟨hu, ⟨i0, z, k, hi, hq.1, hq.2.1, hq.2.2, hz, hk⟩, h0⟩
/-- a row to be read; its block is as told -/
structure Rw (ok : Nat → Prop) (w : World) (t : TypeId) (c : Nat) (en : α → List Value) (v : Value) (xs : List α) : Prop where
  row : w.ownsRow 0 t c v xs.length (xs.flatMap en)
  ok : ∀ q, v.ownBlock = some q → ok q
section
variable {ok : Nat → Prop} {w w' : World} {t : TypeId} {v : Value} {xs ys : List α} {B : Nat}
theorem Rw.blk (h : Rw ok w t c en v xs) (hb : ∀ q, ok q → q < w.heap.size → w'.heap[q]? = w.heap[q]?) : Rw ok w' t c en v xs := ⟨Mg.row_block h.row fun g hg => hb g (h.ok g hg) (World.ownsRow.lt h.row g hg).2, h.ok⟩
theorem Rw.kept (h : Rw ok w t c en v xs) (hb : Below w.heap.size w w') : Rw ok w' t c en v xs := ⟨Mg.row_kept h.row hb, h.ok⟩
theorem Rw.mono {ok2 : Nat → Prop} (h : Rw ok w t c en v xs) (hm : ∀ q, ok q → ok2 q) : Rw ok2 w t c en v xs := ⟨h.row, fun q e => hm q (h.ok q e)⟩
theorem Rw.of (h : w.ownsRow B t c v xs.length (xs.flatMap en)) : Rw (B ≤ ·) w t c en v xs := ⟨row_low h (Nat.zero_le _), fun q e => (World.ownsRow.lt h q e).1⟩
theorem Rw.nil (ok : Nat → Prop) (w : World) (t : TypeId) (c : Nat) (en : α → List Value) : Rw ok w t c en (.slice none 0 0) [] := ⟨World.ownsRow_nil _ _ _ _, fun q e => by cases e⟩
theorem row_at (h : w.ownsRow B t c v xs.length (xs.flatMap en)) : ∃ a k, v = .slice a xs.length k ∧ xs.length ≤ k ∧ k ≤ maxLen ∧ (xs ≠ [] → ∃ b, a = some ⟨b, 0, none⟩) := by
  rcases h.2 with ⟨e, h0⟩ | ⟨g, k, cur, e, -, -, h1, h2, -⟩
  · exact ⟨none, 0, by rw [e, h0], by omega, Nat.zero_le _, fun hne => absurd (List.eq_nil_of_length_eq_zero h0) hne⟩
  · exact ⟨_, k, e, h1, h2, fun _ => ⟨g, rfl⟩⟩
theorem row_cell (hen : ∀ x, (en x).length = c) {b k : Nat} (h : w.ownsRow B t c (.slice (some ⟨b, 0, none⟩) xs.length k) xs.length (xs.flatMap en)) (j : Nat) (hj : j < xs.length) (i : Nat) (hi : i < c) : w.cell? ⟨b, j * c + i, none⟩ = (en xs[j])[i]? := by
  have hl : j * c + i < xs.length * c := by
    have h2 : (j + 1) * c ≤ xs.length * c := Nat.mul_le_mul_right c hj
    rw [Nat.add_mul] at h2
    omega
  rw [World.ownsRow.cellAt h (j * c + i) hl]
  exact flat_at hen xs j i hj hi
/-- append of elements that lie somewhere, its run -/
theorem row_app {e st : TypeId} (T : TI e st c) (hen : ∀ x, (en x).length = c) (h : w.ownsRow B e c v xs.length (xs.flatMap en)) (a : Addr) (k : Nat) (hone : ∀ x ∈ ys, ∀ u ∈ en x, u.oneCell' = true) (hcell : ∀ j u, (ys.flatMap en)[j]? = some u → w.cell? (a.add j) = some u) (hmax : xs.length + ys.length ≤ 1000000000) (hB : B ≤ w.heap.size) (ty : TypeId) : ∃ v' w', (Builtin.append_ #[st, st] ty #[v, .slice (some a) ys.length k]).run Try.prog w = .ok v' w' ∧ w'.ownsRow B e c v' (xs ++ ys).length ((xs ++ ys).flatMap en) ∧ w.grownBy w' v.ownBlock ∧ Below B w w' := by
  obtain ⟨i0, z, k0, h1, h2, h3, h4, h5, h6⟩ := T.i
  have hb : (xs.length + ys.length) * k0 ≤ 140737488355328 := by
    have := Nat.mul_le_mul hmax h6
    omega
  obtain ⟨v', w', hr, h7, h8, -, -⟩ := run_append_own_at (P := Try.prog) w B st ty e i0 z c k0 T.u h1 h2 h3 h4 h5 T.c0 v xs.length _ h a ys.length k (ys.flatMap en) (flat_len hen ys) hcell (fun u hu => by
    obtain ⟨x, hx, hu2⟩ := List.mem_flatMap.1 hu
    exact hone x hx u hu2) (by unfold maxLen; omega) hb hB
  refine ⟨v', w', hr, ?_, h8, (Below.refl B w).grown h8 hB fun q e => (World.ownsRow.lt h q e).1⟩
  rw [List.length_append, List.flatMap_append]
  exact h7
/-- append of one element -/
theorem row_app1 {e st : TypeId} (T : TI e st c) (hen : ∀ x, (en x).length = c) (h : w.ownsRow B e c v xs.length (xs.flatMap en)) (x : α) (g k : Nat) (hone : ∀ u ∈ en x, u.oneCell' = true) (hc : LB w g e (en x)) (hmax : xs.length ≤ 900000000) (hB : B ≤ w.heap.size) (ty : TypeId) : ∃ v' w', (Builtin.append_ #[st, st] ty #[v, .slice (some ⟨g, 0, none⟩) 1 k]).run Try.prog w = .ok v' w' ∧ w'.ownsRow B e c v' (xs ++ [x]).length ((xs ++ [x]).flatMap en) ∧ w.grownBy w' v.ownBlock ∧ Below B w w' := row_app (ys := [x]) T hen h ⟨g, 0, none⟩ k (fun y hy => by rw [List.mem_singleton.1 hy]; exact hone) (fun j u hj => by
    rw [Addr.add_lit, Nat.zero_add]
    rw [List.flatMap_cons, List.flatMap_nil, List.append_nil] at hj
    exact hc.cell j u hj) (by simp; omega) hB ty
/-- append of a whole row -/
theorem row_appR {e st : TypeId} (T : TI e st c) (hen : ∀ x, (en x).length = c) (h : w.ownsRow B e c v xs.length (xs.flatMap en)) {yv : Value} (hy : w.ownsRow 0 e c yv ys.length (ys.flatMap en)) (hone : ∀ x ∈ ys, ∀ u ∈ en x, u.oneCell' = true) (hmax : xs.length + ys.length ≤ 1000000000) (hB : B ≤ w.heap.size) (ty : TypeId) : ∃ v' w', (Builtin.append_ #[st, st] ty #[v, yv]).run Try.prog w = .ok v' w' ∧ w'.ownsRow B e c v' (xs ++ ys).length ((xs ++ ys).flatMap en) ∧ w.grownBy w' v.ownBlock ∧ Below B w w' := by
  rcases hy.2 with ⟨e1, h0⟩ | ⟨g, k, cur, e1, hrest⟩
  · obtain ⟨i0, z, k0, h1, -⟩ := T.i
    have h9 : ys = [] := List.eq_nil_of_length_eq_zero h0
    subst h9
    obtain ⟨a1, c1, e2, hc1, -⟩ := row_at h
    refine ⟨v, w, ?_, by simpa using h, World.grownBy.refl _ _, Below.refl _ _⟩
    rw [e1, e2]
    cases a1 <;> simp [Builtin.append_, run_underlying T.u, sizeOf, typeInfo, h1, Builtin.lenOf, Builtin.firstCells, hc1, storeCells]
  · subst e1
    refine row_app T hen h ⟨g, 0, none⟩ k hone (fun j u hj => ?_) hmax hB ty
    rw [Addr.add_lit, Nat.zero_add]
    have hjl : j < ys.length * c := by
      rw [← flat_len hen ys]
      exact (List.getElem?_eq_some_iff.1 hj).1
    rw [World.ownsRow.cellAt hy j hjl]
    exact hj
end
end
end Rd
end Go.Proofs.Ytjepeeopjjnglaa
