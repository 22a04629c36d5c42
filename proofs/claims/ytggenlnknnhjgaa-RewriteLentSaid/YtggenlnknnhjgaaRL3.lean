/-
  Package record: Clone; the reference's Clone.
-/
import Derived.Test.YtggenlnknnhjgaaRL2
import Derived.Deep.MidRow
namespace Go.Proofs.Ytggenlnknnhjgaa
open Go Go.RowKit
open Wb

/-- a record lies in block g -/
def Box (w : World) (g : Nat) (x : Nums) (nm : ByteArray) (d : Value) : Prop := w.heap[g]? = some (.cells #[.int .i64 x.v, .int .i64 x.k, .int .i64 x.s, .int .i64 x.p, .int .i64 x.t, .int .i64 x.a, .int .i64 x.l, .int .i64 x.c, .int .i64 x.n, .int .i64 x.i, .string nm, d] 25)
theorem Box.kept {w w' : World} {g : Nat} {x : Nums} {nm : ByteArray} {d : Value} (h : Box w g x nm d) (hb : Below w.heap.size w w') : Box w' g x nm d := (hb.block g (Array.getElem?_eq_some_iff.1 h).1).trans h
theorem Box.lt {w : World} {g : Nat} {x : Nums} {nm : ByteArray} {d : Value} (h : Box w g x nm d) : g < w.heap.size := (Array.getElem?_eq_some_iff.1 h).1
theorem Box.cells {w : World} {g : Nat} {x : Nums} {nm : ByteArray} {d : Value} (h : Box w g x nm d) : w.cell? ⟨g, 0, none⟩ = some (.int .i64 x.v) ∧ w.cell? ⟨g, 1, none⟩ = some (.int .i64 x.k) ∧ w.cell? ⟨g, 2, none⟩ = some (.int .i64 x.s) ∧ w.cell? ⟨g, 3, none⟩ = some (.int .i64 x.p) ∧ w.cell? ⟨g, 4, none⟩ = some (.int .i64 x.t) ∧ w.cell? ⟨g, 5, none⟩ = some (.int .i64 x.a) ∧ w.cell? ⟨g, 6, none⟩ = some (.int .i64 x.l) ∧ w.cell? ⟨g, 7, none⟩ = some (.int .i64 x.c) ∧ w.cell? ⟨g, 8, none⟩ = some (.int .i64 x.n) ∧ w.cell? ⟨g, 9, none⟩ = some (.int .i64 x.i) ∧ w.cell? ⟨g, 10, none⟩ = some (.string nm) ∧ w.cell? ⟨g, 11, none⟩ = some (d) := by
  unfold Box at h
  refine ⟨?_, ?_, ?_, ?_, ?_, ?_, ?_, ?_, ?_, ?_, ?_, ?_⟩ <;> simp [World.cell?, h]
theorem Box.free {w : World} {g : Nat} {x : Nums} {nm : ByteArray} {d : Value} (h : Box w g x nm d) : w.frozen? ⟨g, 0, none⟩ = false ∧ w.frozen? ⟨g, 1, none⟩ = false ∧ w.frozen? ⟨g, 2, none⟩ = false ∧ w.frozen? ⟨g, 3, none⟩ = false ∧ w.frozen? ⟨g, 4, none⟩ = false ∧ w.frozen? ⟨g, 5, none⟩ = false ∧ w.frozen? ⟨g, 6, none⟩ = false ∧ w.frozen? ⟨g, 7, none⟩ = false ∧ w.frozen? ⟨g, 8, none⟩ = false ∧ w.frozen? ⟨g, 9, none⟩ = false ∧ w.frozen? ⟨g, 10, none⟩ = false ∧ w.frozen? ⟨g, 11, none⟩ = false := by
  unfold Box at h
  refine ⟨?_, ?_, ?_, ?_, ?_, ?_, ?_, ?_, ?_, ?_, ?_, ?_⟩ <;> (unfold World.frozen?; rw [h]; rfl)
theorem heap_new (w : World) (o : Obj) : (w.alloc o).heap[w.heap.size]? = some o := by
  show (w.heap.push o)[w.heap.size]? = _
  exact Array.getElem?_push_size
theorem heap_old (w : World) (o : Obj) (g : Nat) (h : g < w.heap.size) : (w.alloc o).heap[g]? = w.heap[g]? := by
  show (w.heap.push o)[g]? = _
  rw [Array.getElem?_push, if_neg (by omega)]
theorem heap_one (w : World) (o : Obj) : (w.alloc o).heap.size = w.heap.size + 1 := by
  show (w.heap.push o).size = _
  rw [Array.size_push]
theorem set_other (w : World) (p : Addr) (u : Value) (g : Nat) (h : g ≠ p.block) : (w.setCell p u).heap[g]? = w.heap[g]? := by
  simp only [World.setCell, Array.getElem?_modify]
  rw [if_neg (Ne.symm h)]
theorem Own.set {B : Nat} {w : World} {v : Value} {l : List Nat} (h : Own B w v l) (p : Addr) (u : Value) (hp : p.block < B) : Own B (w.setCell p u) v l := by
  refine ⟨⟨h.row.1, ?_⟩, h.good⟩
  rcases h.row.2 with h1 | ⟨g, cap, cur, rfl, h1, hg, rest⟩
  · exact .inl h1
  · exact .inr ⟨g, cap, cur, rfl, h1, (set_other w p u g (by omega)).trans hg, rest⟩
def zeroNums : Nums := ⟨0, 0, 0, 0, 0, 0, 0, 0, 0, 0⟩

theorem cells_other (g : Nat) : ∀ (vs : List Value) (o : Nat) (w : World) (i : Nat), i ≠ g → (w.setCells g o vs).heap[i]? = w.heap[i]?
  | [], _, _, _, _ => rfl
  | v :: r, o, w, i, h => by
    show ((w.setCell ⟨g, o, none⟩ v).setCells g (o + 1) r).heap[i]? = _
    rw [cells_other g r (o + 1) _ i h, set_other w ⟨g, o, none⟩ v i h]
theorem below_cells {B g : Nat} {a : World} (hg : B ≤ g) : ∀ (vs : List Value) (o : Nat) (w : World), Below B a w → Below B a (w.setCells g o vs)
  | [], _, _, h => h
  | v :: r, o, _, h => below_cells hg r (o + 1) _ (Below.setCell h hg v)
theorem Own.cells {B : Nat} {w : World} {v : Value} {l : List Nat} (h : Own B w v l) (g o : Nat) (vs : List Value) (hp : g < B) : Own B (w.setCells g o vs) v l := by
  refine ⟨⟨h.row.1, ?_⟩, h.good⟩
  rcases h.row.2 with h1 | ⟨g', cap, cur, rfl, h1, hg, rest⟩
  · exact .inl h1
  · exact .inr ⟨g', cap, cur, rfl, h1, (cells_other g vs o w g' (by omega)).trans hg, rest⟩
theorem results_cell_mid {P : Program} {fn : Func} {p : Tmp} {ty : TypeId} (h : fn.results = #[.cell p ty]) (tmps : Array Value) (w : World) (g : Nat) (cs : List Value) (d : TypeDesc)
    (hp : tmps.getD p undef = .pointer (some ⟨g, 0, none⟩)) (hc : w.rangeAt g 0 cs) (hu : P.underlying ty = some d) (hd : d.isRow = true) (hi : (P.info? ty).map (·.size) = some cs.length) :
    (results fn tmps).run P w = .ok (.agg cs.toArray) w := by
  have hp' : tmps[p]?.getD undef = .pointer (some ⟨g, 0, none⟩) := by simpa using hp
  simp [results, h, hp', asAddr, run_loadVar_mid w g 0 ty cs d hc hu hd hi]
/-- twelve cells are there -/
theorem Box.there {w : World} {g : Nat} {x : Nums} {nm : ByteArray} {d : Value} (h : Box w g x nm d) : w.there g 0 12 := by
  intro j hj
  rw [Nat.zero_add]
  obtain ⟨c0, c1, c2, c3, c4, c5, c6, c7, c8, c9, c10, c11⟩ := h.cells
  obtain ⟨f0, f1, f2, f3, f4, f5, f6, f7, f8, f9, f10, f11⟩ := h.free
  match j, hj with
  | 0, _ => exact ⟨by rw [c0]; rfl, f0⟩
  | 1, _ => exact ⟨by rw [c1]; rfl, f1⟩
  | 2, _ => exact ⟨by rw [c2]; rfl, f2⟩
  | 3, _ => exact ⟨by rw [c3]; rfl, f3⟩
  | 4, _ => exact ⟨by rw [c4]; rfl, f4⟩
  | 5, _ => exact ⟨by rw [c5]; rfl, f5⟩
  | 6, _ => exact ⟨by rw [c6]; rfl, f6⟩
  | 7, _ => exact ⟨by rw [c7]; rfl, f7⟩
  | 8, _ => exact ⟨by rw [c8]; rfl, f8⟩
  | 9, _ => exact ⟨by rw [c9]; rfl, f9⟩
  | 10, _ => exact ⟨by rw [c10]; rfl, f10⟩
  | 11, _ => exact ⟨by rw [c11]; rfl, f11⟩
theorem Box.set {w : World} {g : Nat} {x : Nums} {nm : ByteArray} {d : Value} (h : Box w g x nm d) (p : Addr) (u : Value) (hp : g ≠ p.block) : Box (w.setCell p u) g x nm d := (set_other w p u g hp).trans h
set_option maxRecDepth 100000 in
set_option maxHeartbeats 1000000 in
theorem rclone_any (x : Nums) (nm : ByteArray) (d : Value) (l : List Nat) (w : World) (h : Bs w d l) (hlen : l.length ≤ 140737488355000) :
    Calls Try.prog 19 #[rv x nm d] w fun e w' => ∃ d', e = .returned (rv x nm d') ∧ Own w.heap.size w' d' l ∧ Below w.heap.size w w' := by
  have HB : Hid (∀ w', Below w.heap.size w w' → Bs w' d l) := fun w' hb => h.kept hb
  obtain ⟨ao, cap, rfl, _⟩ := h.shape
  clear h
  unfold rv
  go_enter Try.func19, Try.ntmps19
  go_wp2_with fail
  refine (bclone_any _ l _ (HB.out _ (by go_grown)) hlen).mono ?_
  rintro e w3 ⟨d3, rfl, ho3, b3⟩
  have hx1 : Box w3 w.heap.size x nm (.slice ao l.length cap) := (b3.block _ (by rw [heap_one, heap_one]; omega)).trans (by rw [heap_old _ _ _ (by rw [heap_one]; omega)]; exact heap_new _ _)
  have hx2 : Box w3 (w.heap.size + 1) zeroNums ⟨#[]⟩ (.slice none 0 0) := (b3.block _ (by rw [heap_one, heap_one]; omega)).trans (by rw [← heap_one w]; exact heap_new _ _)
  have B3 : Hid (Below w.heap.size w w3) := (show Below w.heap.size w _ by go_grown).trans (b3.mono (by rw [heap_one, heap_one]; omega))
  have hs3 : w.heap.size + 2 ≤ w3.heap.size := by have := b3.size; rw [heap_one, heap_one] at this; exact this
  obtain ⟨c0, c1, c2, c3, c4, c5, c6, c7, c8, c9, c10, c11⟩ := hx1.cells
  obtain ⟨e0, e1, e2, e3, e4, e5, e6, e7, e8, e9, e10, e11⟩ := hx2.cells
  obtain ⟨_, _, _, _, _, _, _, _, _, _, _, f11⟩ := hx1.free
  obtain ⟨g0, g1, g2, g3, g4, g5, g6, g7, g8, g9, g10, g11⟩ := hx2.free
  obtain ⟨ao3, cap3, rfl, _⟩ := ho3.bs.shape
  have HO3 : Hid (Own (w.heap.size + 2) w3 (.slice ao3 l.length cap3) l) := ho3.mono (by rw [heap_one, heap_one]; omega)
  have HTH : Hid (∀ u, (w3.setCell ⟨w.heap.size, 11, none⟩ u).there (w.heap.size + 1) 0 12) := fun u => (hx2.set ⟨w.heap.size, 11, none⟩ u (show w.heap.size + 1 ≠ w.heap.size by omega)).there
  have HIR : Hid ((Try.prog.info? 25).map (·.size) = some 12) := infoRec
  clear b3 hx1 hx2 ho3
  go_wp2
  refine bodyPost_ret (results_cell_mid rfl _ ((w3.setCell ⟨w.heap.size, 11, none⟩ (.slice ao3 l.length cap3)).setCells (w.heap.size + 1) 0 [.int .i64 x.v, .int .i64 x.k, .int .i64 x.s, .int .i64 x.p, .int .i64 x.t, .int .i64 x.a, .int .i64 x.l, .int .i64 x.c, .int .i64 x.n, .int .i64 x.i, .string nm, .slice ao3 l.length cap3]) (w.heap.size + 1) [.int .i64 x.v, .int .i64 x.k, .int .i64 x.s, .int .i64 x.p, .int .i64 x.t, .int .i64 x.a, .int .i64 x.l, .int .i64 x.c, .int .i64 x.n, .int .i64 x.i, .string nm, .slice ao3 l.length cap3] _ rfl (World.rangeAt_setCells_same _ _ _ _ (HTH.out _)) Try.underlying25 rfl HIR.out) rfl ?_
  have FO : Own w.heap.size ((w3.setCell ⟨w.heap.size, 11, none⟩ (.slice ao3 l.length cap3)).setCells (w.heap.size + 1) 0 [.int .i64 x.v, .int .i64 x.k, .int .i64 x.s, .int .i64 x.p, .int .i64 x.t, .int .i64 x.a, .int .i64 x.l, .int .i64 x.c, .int .i64 x.n, .int .i64 x.i, .string nm, .slice ao3 l.length cap3]) (.slice ao3 l.length cap3) l := Own.mono (B := w.heap.size + 2) (Own.cells (Own.set HO3.out ⟨w.heap.size, 11, none⟩ (.slice ao3 l.length cap3) (show w.heap.size < w.heap.size + 2 by omega)) (w.heap.size + 1) 0 [.int .i64 x.v, .int .i64 x.k, .int .i64 x.s, .int .i64 x.p, .int .i64 x.t, .int .i64 x.a, .int .i64 x.l, .int .i64 x.c, .int .i64 x.n, .int .i64 x.i, .string nm, .slice ao3 l.length cap3] (by omega)) (by omega)
  have FB : Below w.heap.size w ((w3.setCell ⟨w.heap.size, 11, none⟩ (.slice ao3 l.length cap3)).setCells (w.heap.size + 1) 0 [.int .i64 x.v, .int .i64 x.k, .int .i64 x.s, .int .i64 x.p, .int .i64 x.t, .int .i64 x.a, .int .i64 x.l, .int .i64 x.c, .int .i64 x.n, .int .i64 x.i, .string nm, .slice ao3 l.length cap3]) := below_cells (by omega) [.int .i64 x.v, .int .i64 x.k, .int .i64 x.s, .int .i64 x.p, .int .i64 x.t, .int .i64 x.a, .int .i64 x.l, .int .i64 x.c, .int .i64 x.n, .int .i64 x.i, .string nm, .slice ao3 l.length cap3] 0 _ (Below.setCell B3.out (show w.heap.size ≤ w.heap.size by omega) _)
  exact ⟨.slice ao3 l.length cap3, rfl, FO, FB⟩
set_option maxRecDepth 100000 in
set_option maxHeartbeats 1000000 in
theorem refclone_any (x : Nums) (nm : ByteArray) (d : Value) (l : List Nat) (w : World) (h : Bs w d l) (hlen : l.length ≤ 140737488355000) :
    Calls Try.prog 17 #[rv x nm d] w fun e w' => ∃ d', e = .returned (rv x nm d') ∧ Own w.heap.size w' d' l ∧ Below w.heap.size w w' := by
  have HB : Hid (∀ w', Below w.heap.size w w' → Bs w' d l) := fun w' hb => h.kept hb
  obtain ⟨ao, cap, rfl, _⟩ := h.shape
  clear h
  unfold rv
  go_enter Try.func17, Try.ntmps17
  go_wp2_with fail
  refine (part_any _ l _ (HB.out _ (by go_grown)) hlen).mono ?_
  rintro e w3 ⟨d3, rfl, ho3, b3⟩
  have hx1 : Box w3 w.heap.size x nm (.slice ao l.length cap) := (b3.block _ (by rw [heap_one, heap_one]; omega)).trans (by rw [heap_old _ _ _ (by rw [heap_one]; omega)]; exact heap_new _ _)
  have hx2 : Box w3 (w.heap.size + 1) zeroNums ⟨#[]⟩ (.slice none 0 0) := (b3.block _ (by rw [heap_one, heap_one]; omega)).trans (by rw [← heap_one w]; exact heap_new _ _)
  have B3 : Hid (Below w.heap.size w w3) := (show Below w.heap.size w _ by go_grown).trans (b3.mono (by rw [heap_one, heap_one]; omega))
  have hs3 : w.heap.size + 2 ≤ w3.heap.size := by have := b3.size; rw [heap_one, heap_one] at this; exact this
  obtain ⟨c0, c1, c2, c3, c4, c5, c6, c7, c8, c9, c10, c11⟩ := hx1.cells
  obtain ⟨e0, e1, e2, e3, e4, e5, e6, e7, e8, e9, e10, e11⟩ := hx2.cells
  obtain ⟨_, _, _, _, _, _, _, _, _, _, _, f11⟩ := hx1.free
  obtain ⟨g0, g1, g2, g3, g4, g5, g6, g7, g8, g9, g10, g11⟩ := hx2.free
  obtain ⟨ao3, cap3, rfl, _⟩ := ho3.bs.shape
  have HO3 : Hid (Own (w.heap.size + 2) w3 (.slice ao3 l.length cap3) l) := ho3.mono (by rw [heap_one, heap_one]; omega)
  have HTH : Hid (∀ u, (w3.setCell ⟨w.heap.size, 11, none⟩ u).there (w.heap.size + 1) 0 12) := fun u => (hx2.set ⟨w.heap.size, 11, none⟩ u (show w.heap.size + 1 ≠ w.heap.size by omega)).there
  have HIR : Hid ((Try.prog.info? 25).map (·.size) = some 12) := infoRec
  clear b3 hx1 hx2 ho3
  go_wp2
  refine bodyPost_ret (results_cell_mid rfl _ ((w3.setCell ⟨w.heap.size, 11, none⟩ (.slice ao3 l.length cap3)).setCells (w.heap.size + 1) 0 [.int .i64 x.v, .int .i64 x.k, .int .i64 x.s, .int .i64 x.p, .int .i64 x.t, .int .i64 x.a, .int .i64 x.l, .int .i64 x.c, .int .i64 x.n, .int .i64 x.i, .string nm, .slice ao3 l.length cap3]) (w.heap.size + 1) [.int .i64 x.v, .int .i64 x.k, .int .i64 x.s, .int .i64 x.p, .int .i64 x.t, .int .i64 x.a, .int .i64 x.l, .int .i64 x.c, .int .i64 x.n, .int .i64 x.i, .string nm, .slice ao3 l.length cap3] _ rfl (World.rangeAt_setCells_same _ _ _ _ (HTH.out _)) Try.underlying25 rfl HIR.out) rfl ?_
  have FO : Own w.heap.size ((w3.setCell ⟨w.heap.size, 11, none⟩ (.slice ao3 l.length cap3)).setCells (w.heap.size + 1) 0 [.int .i64 x.v, .int .i64 x.k, .int .i64 x.s, .int .i64 x.p, .int .i64 x.t, .int .i64 x.a, .int .i64 x.l, .int .i64 x.c, .int .i64 x.n, .int .i64 x.i, .string nm, .slice ao3 l.length cap3]) (.slice ao3 l.length cap3) l := Own.mono (B := w.heap.size + 2) (Own.cells (Own.set HO3.out ⟨w.heap.size, 11, none⟩ (.slice ao3 l.length cap3) (show w.heap.size < w.heap.size + 2 by omega)) (w.heap.size + 1) 0 [.int .i64 x.v, .int .i64 x.k, .int .i64 x.s, .int .i64 x.p, .int .i64 x.t, .int .i64 x.a, .int .i64 x.l, .int .i64 x.c, .int .i64 x.n, .int .i64 x.i, .string nm, .slice ao3 l.length cap3] (by omega)) (by omega)
  have FB : Below w.heap.size w ((w3.setCell ⟨w.heap.size, 11, none⟩ (.slice ao3 l.length cap3)).setCells (w.heap.size + 1) 0 [.int .i64 x.v, .int .i64 x.k, .int .i64 x.s, .int .i64 x.p, .int .i64 x.t, .int .i64 x.a, .int .i64 x.l, .int .i64 x.c, .int .i64 x.n, .int .i64 x.i, .string nm, .slice ao3 l.length cap3]) := below_cells (by omega) [.int .i64 x.v, .int .i64 x.k, .int .i64 x.s, .int .i64 x.p, .int .i64 x.t, .int .i64 x.a, .int .i64 x.l, .int .i64 x.c, .int .i64 x.n, .int .i64 x.i, .string nm, .slice ao3 l.length cap3] 0 _ (Below.setCell B3.out (show w.heap.size ≤ w.heap.size by omega) _)
  exact ⟨.slice ao3 l.length cap3, rfl, FO, FB⟩
end Go.Proofs.Ytggenlnknnhjgaa
