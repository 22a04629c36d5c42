import Derived.BigQuiet
import Derived.Test.YtppabcihbpbfpaaGreatDoorQK14
/-
  The document's disk: with, changed.
-/
namespace Go.Proofs.YtppabcihbpbfpaaGreatDoor
open Go Go.RowKit Go.ChangeShapes
open Wb
open Rd
end Go.Proofs.YtppabcihbpbfpaaGreatDoor

/-
  The document's disk: a state in memory; named, set.
-/
namespace Go.Proofs.YtppabcihbpbfpaaGreatDoor
open Go Go.RowKit Go.ChangeShapes
open Wb
open Rd
namespace Rd
section
variable {ok ok2 : Nat → Prop} {w w' : World} {xs : List (Value × Th)} {nm la : Dk.Nm} {ch : List RCh} {tv nv lv cv : Value}
theorem own_blk {B : Nat} {v : Value} {l : List Nat} (h : Own B w v l) (hb : ∀ q, v.ownBlock = some q → w'.heap[q]? = w.heap[q]?) : Own B w' v l := ⟨Mg.row_block h.row hb, h.good⟩
/-- three boxes, one behind the other -/
theorem box3 (w : World) (A B C : List Value) (t1 t2 t3 : TypeId) : LB (((w.alloc (.cells A.toArray t1)).alloc (.cells B.toArray t2)).alloc (.cells C.toArray t3)) w.heap.size t1 A ∧ LB (((w.alloc (.cells A.toArray t1)).alloc (.cells B.toArray t2)).alloc (.cells C.toArray t3)) (w.heap.size + 1) t2 B ∧ LB (((w.alloc (.cells A.toArray t1)).alloc (.cells B.toArray t2)).alloc (.cells C.toArray t3)) (w.heap.size + 1 + 1) t3 C ∧ Below w.heap.size w (((w.alloc (.cells A.toArray t1)).alloc (.cells B.toArray t2)).alloc (.cells C.toArray t3)) := by
  obtain ⟨h1, h2, h3⟩ := lb_new2 w A B t1 t2
  have h4 := lb_new ((w.alloc (.cells A.toArray t1)).alloc (.cells B.toArray t2)) C t3
  rw [heap_one, heap_one] at h4
  exact ⟨h1.kept (up0 _ _), h2.kept (up0 _ _), h4, andThen h3 (up0 _ _)⟩
theorem os_set (w : World) (p : Addr) (v : Value) : (w.setCell p v).os = w.os := rfl
theorem tape_set (w : World) (p : Addr) (v : Value) : (w.setCell p v).tape = w.tape := rfl
theorem output_set (w : World) (p : Addr) (v : Value) : (w.setCell p v).output = w.output := rfl
/-- two boxes of the call's own are written -/
theorem below_fin {w W Wz : World} {p0 p2 : Nat} (far : ∀ q, q ≠ p0 → q ≠ p2 → Wz.heap[q]? = W.heap[q]?) (h : Wz.os = W.os ∧ Wz.tape = W.tape ∧ Wz.output = W.output ∧ Wz.heap.size = W.heap.size) (b : Below w.heap.size w W) (k1 : w.heap.size ≤ p0) (k2 : w.heap.size ≤ p2) : Below w.heap.size w Wz :=
  ⟨h.1.trans b.os, h.2.1.trans b.tape, h.2.2.1.trans b.output, by rw [h.2.2.2]; exact b.size, fun q hq => (far q (by omega) (by omega)).trans (b.block q hq)⟩
theorem rw_fin {α : Type} {c : Nat} {t : TypeId} {en : α → List Value} {v : Value} {ys : List α} {W Wz : World} {p0 p2 K B : Nat} (far : ∀ q, q ≠ p0 → q ≠ p2 → Wz.heap[q]? = W.heap[q]?) (h : Rw (K ≤ ·) W t c en v ys) (k0 : p0 < K) (k2 : p2 < K) (hB : B ≤ K) : Rw (B ≤ ·) Wz t c en v ys := (h.blk fun q hq _ => far q (by omega) (by omega)).mono fun q hq => Nat.le_trans hB hq
theorem results_cell_mid {P : Program} {fn : Func} {p : Tmp} {ty : TypeId} (h : fn.results = #[.cell p ty]) (tmps : Array Value) (w : World) (g : Nat) (cs : List Value) (d : TypeDesc)
    (hp : tmps.getD p undef = .pointer (some ⟨g, 0, none⟩)) (hc : w.rangeAt g 0 cs) (hu : P.underlying ty = some d) (hd : d.isRow = true) (hi : (P.info? ty).map (·.size) = some cs.length) :
    (results fn tmps).run P w = .ok (.agg cs.toArray) w := by
  have hp' : tmps[p]?.getD undef = .pointer (some ⟨g, 0, none⟩) := by simpa using hp
  simp [results, h, hp', asAddr, run_loadVar_mid w g 0 ty cs d hc hu hd hi]
theorem rw_slice {α : Type} {c : Nat} {t : TypeId} {en : α → List Value} {v : Value} {ys : List α} (h : Rw ok w t c en v ys) : ∃ a k, v = .slice a ys.length k := by
  obtain ⟨a, k, e, -⟩ := row_at h.row
  exact ⟨a, k, e⟩
end
end Rd
end Go.Proofs.YtppabcihbpbfpaaGreatDoor

/-
  The document's disk: set, into, path, taken.
-/
namespace Go.Proofs.YtppabcihbpbfpaaGreatDoor
open Go Go.RowKit Go.ChangeShapes
open Wb
open Rd
namespace Rd
theorem set3 (y : Value × Th) (r : List Value) (a b c : Value) : (((enT y ++ r).set 0 a).set 1 b).set 2 c = [a, b, c] ++ r := by
  simp [enT]
theorem flat_set3 (x : Value × Th) : ∀ (xs : List (Value × Th)) (f : Nat), f < xs.length → (((xs.flatMap enT).set (f * 3) x.1).set (f * 3 + 1) (.int .i64 (x.2.syn : Int))).set (f * 3 + 2) (.bool x.2.there) = (xs.set f x).flatMap enT
  | [], f, h => by simp at h
  | y :: r, 0, _ => by
    rw [List.flatMap_cons, Nat.zero_mul, Nat.zero_add, set3]
    rfl
  | y :: r, f + 1, h => by
    have h9 := flat_set3 x r f (by simpa using h)
    rw [List.flatMap_cons, List.set_cons_succ, List.flatMap_cons, ← h9]
    have hl : (enT y).length = 3 := rfl
    rw [List.set_append_right _ _ (by omega), List.set_append_right _ _ (by omega), List.set_append_right _ _ (by omega), hl, show (f + 1) * 3 - 3 = f * 3 by omega, show (f + 1) * 3 + 1 - 3 = f * 3 + 1 by omega, show (f + 1) * 3 + 2 - 3 = f * 3 + 2 by omega]
theorem enT_one {x : Value × Th} (h : ∃ a n c, x.1 = .slice a n c) : ∀ u ∈ enT x, u.oneCell' = true := fun u hu => by
  obtain ⟨a, n, c, e⟩ := h
  simp [enT] at hu
  rcases hu with rfl | rfl | rfl
  · rw [e]
    rfl
  · rfl
  · rfl
end Rd
theorem Rd.into_wth (n hi : Int) (h : 0 ≤ hi) : (if n < 0 then 0 else if n > hi then hi else n) = Dk.wth n hi := by
  unfold Dk.wth
  by_cases h1 : n < 0
  · rw [if_pos h1]
    omega
  · rw [if_neg h1]
    by_cases h2 : n > hi
    · rw [if_pos h2]
      omega
    · rw [if_neg h2]
      omega
theorem Rd.tkn_take (th : List Th) (k : Nat) (h : k < th.length) : tkn (th.take (k + 1)) = tkn (th.take k) + if th[k].there = true then th[k].data.length else 0 := by
  unfold tkn
  rw [List.take_succ_eq_append_getElem h, List.map_append, List.sum_append]
  simp
theorem Rd.tkn_le (th : List Th) (k : Nat) : tkn (th.take k) ≤ tkn th := by
  unfold tkn
  rw [List.map_take]
  exact sum_take _ _
end Go.Proofs.YtppabcihbpbfpaaGreatDoor

/-
  The document's disk: lasting.
-/
namespace Go.Proofs.YtppabcihbpbfpaaGreatDoor
open Go Go.RowKit Go.ChangeShapes
open Wb
open Rd
namespace Rd
/-- the things behind a SyncDir -/
def lsx (xs : List (Value × Th)) (nm : Dk.Nm) : List (Value × Th) := xs.mapIdx fun k x => if (nm.any fun p => p.2 == k) = true then (x.1, ⟨x.2.data, x.2.syn, true⟩) else (.slice none 0 0, ⟨[], 0, false⟩)
theorem lsx_len (xs : List (Value × Th)) (nm : Dk.Nm) : (lsx xs nm).length = xs.length := by unfold lsx; rw [List.length_mapIdx]
theorem lsx_take (xs : List (Value × Th)) (nm : Dk.Nm) (k : Nat) (h : k < xs.length) : (lsx xs nm).take (k + 1) = (lsx xs nm).take k ++ [if (nm.any fun p => p.2 == k) = true then (xs[k].1, ⟨xs[k].2.data, xs[k].2.syn, true⟩) else (.slice none 0 0, ⟨[], 0, false⟩)] := by
  rw [List.take_succ_eq_append_getElem (by rw [lsx_len]; exact h)]
  unfold lsx
  rw [List.getElem_mapIdx]
theorem lsx_th (xs : List (Value × Th)) (nm : Dk.Nm) : (lsx xs nm).map (·.2) = (xs.map (·.2)).mapIdx (fun k t => if (nm.any fun p => p.2 == k) = true then (⟨t.data, t.syn, true⟩ : Th) else ⟨[], 0, false⟩) := by
  refine List.ext_getElem (by simp [lsx]) fun i h1 h2 => ?_
  rw [List.getElem_map, List.getElem_mapIdx, List.getElem_map]
  simp only [lsx, List.getElem_mapIdx]
  split <;> rfl
theorem any_take (nm : Dk.Nm) (k j : Nat) (h : j < nm.length) : ((nm.take (j + 1)).any fun p => p.2 == k) = (((nm.take j).any fun p => p.2 == k) || nm[j].2 == k) := by
  rw [List.take_succ_eq_append_getElem h, List.any_append]
  simp
end Rd
end Go.Proofs.YtppabcihbpbfpaaGreatDoor

/-
  The document's disk: act.
-/
namespace Go.Proofs.YtppabcihbpbfpaaGreatDoor
open Go Go.RowKit Go.ChangeShapes
open Wb
open Rd
namespace Rd
section
variable {ok ok2 : Nat → Prop} {w w' : World} {xs : List (Value × Th)} {nm la : Dk.Nm} {ch : List RCh} {tv nv lv cv : Value}
theorem Rw.lo {α : Type} {c : Nat} {t : TypeId} {en : α → List Value} {v : Value} {ys : List α} (h : Rw ok w t c en v ys) : Rw (fun q => ok q ∧ q < w.heap.size) w t c en v ys := ⟨h.row, fun q e => ⟨h.ok q e, (World.ownsRow.lt h.row q e).2⟩⟩
theorem od_snoc (h : ∀ x ∈ xs, Own 0 w x.1 x.2.data ∧ ∀ q, x.1.ownBlock = some q → ok q) (v : Value) (t : Th) (h1 : Own 0 w v t.data) (h2 : ∀ q, v.ownBlock = some q → ok q) : ∀ x ∈ xs ++ [(v, t)], Own 0 w x.1 x.2.data ∧ ∀ q, x.1.ownBlock = some q → ok q := fun x hx => by
  rcases List.mem_append.1 hx with e | e
  · exact h x e
  · rw [List.mem_singleton.1 e]
    exact ⟨h1, h2⟩
theorem od_set (h : ∀ x ∈ xs, Own 0 w x.1 x.2.data ∧ ∀ q, x.1.ownBlock = some q → ok q) (i : Nat) (v : Value) (t : Th) (h1 : Own 0 w v t.data) (h2 : ∀ q, v.ownBlock = some q → ok q) : ∀ x ∈ xs.set i (v, t), Own 0 w x.1 x.2.data ∧ ∀ q, x.1.ownBlock = some q → ok q := fun x hx => by
  rcases List.mem_or_eq_of_mem_set hx with e | e
  · exact h x e
  · rw [e]
    exact ⟨h1, h2⟩
theorem lsx_od (h : ∀ x ∈ xs, Own 0 w x.1 x.2.data ∧ ∀ q, x.1.ownBlock = some q → ok q) : ∀ x ∈ lsx xs nm, Own 0 w x.1 x.2.data ∧ ∀ q, x.1.ownBlock = some q → ok q := fun x hx => by
  unfold lsx at hx
  obtain ⟨i, hi, e⟩ := List.mem_mapIdx.1 hx
  have h9 := h _ (List.getElem_mem hi)
  rw [← e]
  split
  · exact h9
  · exact ⟨Own.nil _ _, fun q e => by cases e⟩
end
theorem row_cellx {α : Type} {en : α → List Value} {c B : Nat} {w : World} {t : TypeId} {xs : List α} (hen : ∀ x, (en x).length = c) {b k : Nat} (h : w.ownsRow B t c (.slice (some ⟨b, 0, none⟩) xs.length k) xs.length (xs.flatMap en)) (j : Nat) (x : α) (hx : xs[j]? = some x) (i : Nat) (u : Value) (hu : (en x)[i]? = some u) : w.cell? ⟨b, j * c + i, none⟩ = some u := by
  obtain ⟨hj, e⟩ := List.getElem?_eq_some_iff.1 hx
  have hi : i < c := by
    rw [← hen x]
    exact (List.getElem?_eq_some_iff.1 hu).1
  rw [row_cell hen h j hj i hi, e, hu]
theorem into_min (ts m : Nat) : (if (ts : Int) < 0 then 0 else if (ts : Int) > (m : Int) then (m : Int) else (ts : Int)) = ((min ts m : Nat) : Int) := by
  rw [if_neg (by omega)]
  split <;> omega
theorem ract_k (R : RS) (o : Rop) : (o.k = 1 → ract R o = nmd { R with th := R.th ++ [⟨[], 0, true⟩] } ⟨1, o.a.data.toList, [], R.th.length⟩) ∧ (o.k = 2 → ract R o = { R with th := R.th.set (thn R o) ⟨(tha R o).data ++ o.data, (tha R o).syn, (tha R o).there⟩ }) ∧ (o.k = 3 → ract R o = { R with th := R.th.set (thn R o) ⟨(tha R o).data, (tha R o).data.length, (tha R o).there⟩ }) ∧ (o.k = 4 → ract R o = { R with th := R.th.set (thn R o) ⟨(tha R o).data.take o.n.toNat, min (tha R o).syn o.n.toNat, (tha R o).there⟩ }) ∧ (o.k = 5 → ract R o = nmd R ⟨2, o.a.data.toList, o.b.data.toList, 0⟩) ∧ (o.k = 6 → ract R o = nmd R ⟨3, o.a.data.toList, [], 0⟩) ∧ (o.k = 7 → ract R o = lsg R) := by
  unfold ract
  refine ⟨fun k => ?_, fun k => ?_, fun k => ?_, fun k => ?_, fun k => ?_, fun k => ?_, fun k => ?_⟩ <;> rw [k] <;> rfl
end Rd
end Go.Proofs.YtppabcihbpbfpaaGreatDoor

/-
  The document's disk: refused.
-/
namespace Go.Proofs.YtppabcihbpbfpaaGreatDoor
open Go Go.RowKit Go.ChangeShapes
open Wb
open Rd
namespace Rd
end Rd
end Go.Proofs.YtppabcihbpbfpaaGreatDoor

/-
  The document's disk: Do, Arm.
-/
namespace Go.Proofs.YtppabcihbpbfpaaGreatDoor
open Go Go.RowKit Go.ChangeShapes
open Wb
open Rd
theorem results_cell_slot {P : Program} {fn : Func} {p s : Tmp} {ty : TypeId} (h : fn.results = #[.cell p ty, .tmp s]) (tmps : Array Value) (w : World) (g : Nat) (cs : List Value) (d : TypeDesc)
    (hp : tmps.getD p undef = .pointer (some ⟨g, 0, none⟩)) (hc : w.rangeAt g 0 cs) (hu : P.underlying ty = some d) (hd : d.isRow = true) (hi : (P.info? ty).map (·.size) = some cs.length) :
    (results fn tmps).run P w = .ok (.tuple #[.agg cs.toArray, tmps.getD s undef]) w := by
  have hp' : tmps[p]?.getD undef = .pointer (some ⟨g, 0, none⟩) := by simpa using hp
  simp [results, h, hp', asAddr, run_loadVar_mid w g 0 ty cs d hc hu hd hi]
namespace Rd
end Rd
end Go.Proofs.YtppabcihbpbfpaaGreatDoor

/-
  The document's disk: Arm, Read, List, Free.
-/
namespace Go.Proofs.YtppabcihbpbfpaaGreatDoor
open Go Go.RowKit Go.ChangeShapes
open Wb
open Rd
end Go.Proofs.YtppabcihbpbfpaaGreatDoor
