import Derived.Deep.MidRow
import Derived.Deep.RegionHeld
import Derived.Test.YtenhaogheilmoaaDoorRows
import Derived.Test.YtenhaogheilmoaaDoorQR2
import Derived.Test.YtenhaogheilmoaaDoorQW3
import Derived.Test.YtenhaogheilmoaaDoorQK1
import Derived.Test.YtenhaogheilmoaaDoorQR3
import Derived.Test.YtenhaogheilmoaaDoorQR4
import Derived.Test.YtenhaogheilmoaaDoorQF1
/-
  Package record: Clone; the reference's Clone.
-/
namespace Go.Proofs.YtenhaogheilmoaaDoor
open Go Go.RowKit
open Wb

theorem heap_new (w : World) (o : Obj) : (w.alloc o).heap[w.heap.size]? = some o := by
  show (w.heap.push o)[w.heap.size]? = _
  exact Array.getElem?_push_size
theorem heap_old (w : World) (o : Obj) (g : Nat) (h : g < w.heap.size) : (w.alloc o).heap[g]? = w.heap[g]? := by
  show (w.heap.push o)[g]? = _
  rw [Array.getElem?_push, if_neg (by omega)]
theorem heap_one (w : World) (o : Obj) : (w.alloc o).heap.size = w.heap.size + 1 := by
  show (w.heap.push o).size = _
  rw [Array.size_push]
theorem Box.set {w : World} {g : Nat} {x : Nums} {nm : ByteArray} {d : Value} (h : Box w g x nm d) (p : Addr) (u : Value) (hp : g ≠ p.block) : Box (w.setCell p u) g x nm d := (set_other w p u g hp).trans h
theorem results_cell_mid {P : Program} {fn : Func} {p : Tmp} {ty : TypeId} (h : fn.results = #[.cell p ty]) (tmps : Array Value) (w : World) (g : Nat) (cs : List Value) (d : TypeDesc)
    (hp : tmps.getD p undef = .pointer (some ⟨g, 0, none⟩)) (hc : w.rangeAt g 0 cs) (hu : P.underlying ty = some d) (hd : d.isRow = true) (hi : (P.info? ty).map (·.size) = some cs.length) :
    (results fn tmps).run P w = .ok (.agg cs.toArray) w := by
  have hp' : tmps[p]?.getD undef = .pointer (some ⟨g, 0, none⟩) := by simpa using hp
  simp [results, h, hp', asAddr, run_loadVar_mid w g 0 ty cs d hc hu hd hi]
set_option maxRecDepth 100000 in
set_option maxHeartbeats 1000000 in
theorem refclone_any (x : Nums) (nm : ByteArray) (d : Value) (l : List Nat) (w : World) (h : Bs w d l) (hlen : l.length ≤ 140737488355000) :
    Calls Tryd.prog 27 #[rv x nm d] w fun e w' => ∃ d', e = .returned (rv x nm d') ∧ Own w.heap.size w' d' l ∧ Below w.heap.size w w' := by
  have HB : Hid (∀ w', Below w.heap.size w w' → Bs w' d l) := fun w' hb => h.kept hb
  obtain ⟨ao, cap, rfl, _⟩ := h.shape
  clear h
  unfold rv
  go_enter Tryd.func27, Tryd.ntmps27
  go_wp2_with fail
  refine (rpart_any _ l 0 l.length _ (HB.out _ (by go_grown)) (by omega) (Nat.zero_le _) (Nat.le_refl _)).mono ?_
  rw [List.drop_zero, List.take_length]
  rintro e w3 ⟨d3, rfl, ho3, b3⟩
  have hx1 : Box w3 w.heap.size x nm (.slice ao l.length cap) := (b3.block _ (by rw [heap_one, heap_one]; omega)).trans (by rw [heap_old _ _ _ (by rw [heap_one]; omega)]; exact heap_new _ _)
  have hx2 : Box w3 (w.heap.size + 1) zeroNums ⟨#[]⟩ (.slice none 0 0) := (b3.block _ (by rw [heap_one, heap_one]; omega)).trans (by rw [← heap_one w]; exact heap_new _ _)
  have B3 : Hid (Below w.heap.size w w3) := (show Below w.heap.size w _ by go_grown).trans (b3.mono (by rw [heap_one, heap_one]; omega))
  have hs3 : w.heap.size + 2 ≤ w3.heap.size := by have := b3.size; rw [heap_one, heap_one] at this; exact this
  obtain ⟨c0, c1, c2, c3, c4, c5, c6, c7, c8, c9, c10, c11⟩ := hx1.cells
  obtain ⟨e0, e1, e2, e3, e4, e5, e6, e7, e8, e9, e10, e11⟩ := hx2.cells
  have f11 := hx1.free' 11
  have g0 := hx2.free' 0
  have g1 := hx2.free' 1
  have g2 := hx2.free' 2
  have g3 := hx2.free' 3
  have g4 := hx2.free' 4
  have g5 := hx2.free' 5
  have g6 := hx2.free' 6
  have g7 := hx2.free' 7
  have g8 := hx2.free' 8
  have g9 := hx2.free' 9
  have g10 := hx2.free' 10
  have g11 := hx2.free' 11
  obtain ⟨ao3, cap3, rfl, _⟩ := ho3.bs.shape
  have HO3 : Hid (Own (w.heap.size + 2) w3 (.slice ao3 l.length cap3) l) := ho3.mono (by rw [heap_one, heap_one]; omega)
  have HTH : Hid (∀ u, (w3.setCell ⟨w.heap.size, 11, none⟩ u).there (w.heap.size + 1) 0 12) := fun u => (hx2.set ⟨w.heap.size, 11, none⟩ u (show w.heap.size + 1 ≠ w.heap.size by omega)).there
  have HIR : Hid ((Tryd.prog.info? 44).map (·.size) = some 12) := infoRec
  clear b3 hx1 hx2 ho3
  go_wp2
  refine bodyPost_ret (results_cell_mid rfl _ ((w3.setCell ⟨w.heap.size, 11, none⟩ (.slice ao3 l.length cap3)).setCells (w.heap.size + 1) 0 [.int .i64 x.v, .int .i64 x.k, .int .i64 x.s, .int .i64 x.p, .int .i64 x.t, .int .i64 x.a, .int .i64 x.l, .int .i64 x.c, .int .i64 x.n, .int .i64 x.i, .string nm, .slice ao3 l.length cap3]) (w.heap.size + 1) [.int .i64 x.v, .int .i64 x.k, .int .i64 x.s, .int .i64 x.p, .int .i64 x.t, .int .i64 x.a, .int .i64 x.l, .int .i64 x.c, .int .i64 x.n, .int .i64 x.i, .string nm, .slice ao3 l.length cap3] _ rfl (World.rangeAt_setCells_same _ _ _ _ (HTH.out _)) Tryd.underlying44 rfl HIR.out) rfl ?_
  have FO : Own w.heap.size ((w3.setCell ⟨w.heap.size, 11, none⟩ (.slice ao3 l.length cap3)).setCells (w.heap.size + 1) 0 [.int .i64 x.v, .int .i64 x.k, .int .i64 x.s, .int .i64 x.p, .int .i64 x.t, .int .i64 x.a, .int .i64 x.l, .int .i64 x.c, .int .i64 x.n, .int .i64 x.i, .string nm, .slice ao3 l.length cap3]) (.slice ao3 l.length cap3) l := Own.mono (B := w.heap.size + 2) (Own.cells (Own.set HO3.out ⟨w.heap.size, 11, none⟩ (.slice ao3 l.length cap3) (show w.heap.size < w.heap.size + 2 by omega)) (w.heap.size + 1) 0 [.int .i64 x.v, .int .i64 x.k, .int .i64 x.s, .int .i64 x.p, .int .i64 x.t, .int .i64 x.a, .int .i64 x.l, .int .i64 x.c, .int .i64 x.n, .int .i64 x.i, .string nm, .slice ao3 l.length cap3] (by omega)) (by omega)
  have FB : Below w.heap.size w ((w3.setCell ⟨w.heap.size, 11, none⟩ (.slice ao3 l.length cap3)).setCells (w.heap.size + 1) 0 [.int .i64 x.v, .int .i64 x.k, .int .i64 x.s, .int .i64 x.p, .int .i64 x.t, .int .i64 x.a, .int .i64 x.l, .int .i64 x.c, .int .i64 x.n, .int .i64 x.i, .string nm, .slice ao3 l.length cap3]) := below_cells (by omega) [.int .i64 x.v, .int .i64 x.k, .int .i64 x.s, .int .i64 x.p, .int .i64 x.t, .int .i64 x.a, .int .i64 x.l, .int .i64 x.c, .int .i64 x.n, .int .i64 x.i, .string nm, .slice ao3 l.length cap3] 0 _ (Below.setCell B3.out (show w.heap.size ≤ w.heap.size by omega) _)
  exact ⟨.slice ao3 l.length cap3, rfl, FO, FB⟩
end Go.Proofs.YtenhaogheilmoaaDoor

/-
  RecordChecks: the law's walk.
-/
namespace Go.Proofs.YtenhaogheilmoaaDoor
open Go Go.RowKit
open Wb

theorem recEq_self (x : Nums) (nm : ByteArray) (l : List Nat) : recEq x x nm nm l l = true := by simp [recEq]
/-- all tables stand -/
structure Tabs (w : World) : Prop where
  lets : Text.TabP 3 .i32 Text.Tx.lets w
  rlets : Text.TabP 4 .i64 Text.Tx.lets w
  tags : TagsT w
  rows : Fld.RowsT w
theorem Tabs.kept {w w' : World} (h : Tabs w) (hb : Below w.heap.size w w') : Tabs w' := ⟨h.lets.kept hb, h.rlets.kept hb, h.tags.kept hb, h.rows.kept hb⟩
def Nums.fit (x : Nums) : Prop := ∀ t, 1 ≤ t → t ≤ 9 → -9223372036854775808 ≤ x.tag t ∧ x.tag t ≤ 9223372036854775807
theorem Nums.fit.c {x : Nums} (h : x.fit) : -9223372036854775808 ≤ x.c ∧ x.c ≤ 9223372036854775807 := h 7 (by decide) (by decide)
end Go.Proofs.YtenhaogheilmoaaDoor

/-
  A record among the arguments, in the second form; the tables of a law on records.
-/
namespace Go.Proofs.YtenhaogheilmoaaDoor
open Go Go.RowKit Go.ChangeShapes Go.WideShapes Go.ChangeAt
open Wb

theorem cellsTBSk : Tryd.prog.cellsOf 25 = 1 := by kernel_rfl
theorem cellsTIk : Tryd.prog.cellsOf 3 = 1 := by kernel_rfl
theorem cellsTSTRk : Tryd.prog.cellsOf 9 = 1 := by kernel_rfl
theorem cellsRECk : Tryd.prog.cellsOf 44 = 12 := by kernel_rfl
theorem i64_boundsk {n : Int} (h : (Lit.int .i64 n).wf = true) : -9223372036854775808 ≤ n ∧ n ≤ 9223372036854775807 := by
  have e : IntKind.i64.min = -9223372036854775808 := by decide
  simp [Lit.wf] at h
  omega
theorem bulk_one {H : Type} (d : DataW H) : 1 ≤ Rows.uptoBulk d := by
  cases d with
  | lit l => cases l <;> simp [Rows.uptoBulk]
  | nil => simp [Rows.uptoBulk]
  | ptr d => simp [Rows.uptoBulk]
  | slice elems spare => simp [Rows.uptoBulk]
  | agg parts => simp [Rows.uptoBulk]
  | iface t d => simp [Rows.uptoBulk]
  | map entries => simp [Rows.uptoBulk]
  | held h => simp [Rows.uptoBulk]
theorem bulk_length {H : Type} (l : List (DataW H)) : l.length ≤ Rows.uptoBulkAll l := by
  induction l with
  | nil => simp [Rows.uptoBulkAll]
  | cons x r ih => have := bulk_one x; simp only [Rows.uptoBulkAll, List.length_cons]; omega
set_option maxRecDepth 100000 in
theorem open_bsk {H : Type} {enc : TypeId × Value → H} {W : World} {fuel : Nat} {v : Value} {x : DataW H × List MemPlace}
    (h : DataW.trod enc Tryd.prog W 0 (fun _ => true) true fuel 25 [v] = some x) : ∃ l, Bs W v l ∧ l.length ≤ Rows.uptoBulk x.1 := by
  obtain ⟨d, p⟩ := x
  rcases open_ints Tryd.underlying25 Tryd.underlying5 cellsTB h with ⟨hcs, _⟩ | ⟨xx, l, c, zs, hcs, _, hl, hm, hz, hx, hcell, hwz⟩
  · simp at hcs
    subst hcs
    exact ⟨[], Bs.nil W, Nat.zero_le _⟩
  · simp at hcs
    subst hcs
    simp only [Prod.mk.injEq] at hx
    refine ⟨_, bs_of_row hl hm (by simpa using hz) hcell hwz, ?_⟩
    rw [hx.1]
    have h1 := bulk_length (lits (H := H) .u8 (zs.take l))
    simp only [Rows.uptoBulk]
    simp only [lits, List.length_map] at h1 ⊢
    omega
set_option maxRecDepth 100000 in
theorem open_reck {H : Type} {enc : TypeId × Value → H} {W : World} {base : Nat} {v : Value} {d : DataW H} {p : List MemPlace} (hv : Value.okWide Tryd.prog W .any base 44 v)
    (h : DataW.Trod enc Tryd.prog W 0 (fun _ => true) true 44 v d p) : ∃ x nm dv l, v = rv x nm dv ∧ Bs W dv l ∧ nm.size + l.length ≤ Rows.uptoBulk d ∧ x.fit ∧ -9223372036854775808 ≤ x.v ∧ x.v ≤ 9223372036854775807 := by
  obtain ⟨cs, rfl, hcs⟩ := okWide_struct Tryd.underlying44 hv
  rw [cellsRECk] at hcs
  obtain ⟨fuel, hf⟩ := h
  obtain ⟨xs, k', _, hxy, _, hxl, hfs⟩ := DataW.trod_struct Tryd.underlying44 hf
  have hlen : cs.toList.length = 12 := by simpa using hcs
  have hcells : Value.cells (.agg cs) = cs := rfl
  rw [hcells] at hfs
  obtain ⟨vs⟩ := cs
  simp only at hfs hlen
  match xs, hxl, vs, hlen with
  | [y0, y1, y2, y3, y4, y5, y6, y7, y8, y9, y10, y11], _, [v0, v1, v2, v3, v4, v5, v6, v7, v8, v9, v10, v11], _ =>
    have g0 := hfs 0 _ rfl
    have g1 := hfs 1 _ rfl
    have g2 := hfs 2 _ rfl
    have g3 := hfs 3 _ rfl
    have g4 := hfs 4 _ rfl
    have g5 := hfs 5 _ rfl
    have g6 := hfs 6 _ rfl
    have g7 := hfs 7 _ rfl
    have g8 := hfs 8 _ rfl
    have g9 := hfs 9 _ rfl
    have g10 := hfs 10 _ rfl
    have g11 := hfs 11 _ rfl
    simp [cellsTIk, cellsTSTRk, cellsTBSk] at g0 g1 g2 g3 g4 g5 g6 g7 g8 g9 g10 g11
    simp only [Prod.mk.injEq] at hxy
    obtain ⟨z0, e0, _, b0⟩ := DataW.trod_int Tryd.underlying3 g0
    obtain ⟨z1, e1, _, b1⟩ := DataW.trod_int Tryd.underlying3 g1
    obtain ⟨z2, e2, _, b2⟩ := DataW.trod_int Tryd.underlying3 g2
    obtain ⟨z3, e3, _, b3⟩ := DataW.trod_int Tryd.underlying3 g3
    obtain ⟨z4, e4, _, b4⟩ := DataW.trod_int Tryd.underlying3 g4
    obtain ⟨z5, e5, _, b5⟩ := DataW.trod_int Tryd.underlying3 g5
    obtain ⟨z6, e6, _, b6⟩ := DataW.trod_int Tryd.underlying3 g6
    obtain ⟨z7, e7, _, b7⟩ := DataW.trod_int Tryd.underlying3 g7
    obtain ⟨z8, e8, _, b8⟩ := DataW.trod_int Tryd.underlying3 g8
    obtain ⟨z9, e9, _, b9⟩ := DataW.trod_int Tryd.underlying3 g9
    obtain ⟨z10, e10, q10, _⟩ := DataW.trod_string Tryd.underlying9 g10
    obtain ⟨l, hb, hlb⟩ := open_bsk g11
    have hw10 : z10.size + l.length ≤ Rows.uptoBulk d := by
      have h10 : y10.1 = .lit (.string z10.data.toList) := congrArg Prod.fst q10
      rw [hxy.1]
      simp [Rows.uptoBulk, Rows.uptoBulkAll, h10] at hlb ⊢
      have : z10.data.size = z10.size := rfl
      omega
    simp only [List.cons.injEq, and_true] at e0 e1 e2 e3 e4 e5 e6 e7 e8 e9 e10
    subst e0 e1 e2 e3 e4 e5 e6 e7 e8 e9 e10
    refine ⟨⟨z0, z1, z2, z3, z4, z5, z6, z7, z8, z9⟩, z10, v11, l, rfl, hb, hw10, fun t h1 h9 => ?_, (i64_boundsk b0).1, (i64_boundsk b0).2⟩
    obtain rfl | rfl | rfl | rfl | rfl | rfl | rfl | rfl | rfl : t = 1 ∨ t = 2 ∨ t = 3 ∨ t = 4 ∨ t = 5 ∨ t = 6 ∨ t = 7 ∨ t = 8 ∨ t = 9 := by omega
    · exact i64_boundsk b1
    · exact i64_boundsk b2
    · exact i64_boundsk b3
    · exact i64_boundsk b4
    · exact i64_boundsk b5
    · exact i64_boundsk b6
    · exact i64_boundsk b7
    · exact i64_boundsk b8
    · exact i64_boundsk b9
end Go.Proofs.YtenhaogheilmoaaDoor
