import Derived.Deep.MidRow
import Derived.Deep.RegionHeld
import Derived.Test.YtdnackjakfiffaaGreatDoorQR2
import Derived.Test.YtdnackjakfiffaaGreatDoorQW2
import Derived.Test.YtdnackjakfiffaaGreatDoorQK1
import Derived.Test.YtdnackjakfiffaaGreatDoorQR3
/-
  Package record: Clone; the reference's Clone.
-/
namespace Go.Proofs.YtdnackjakfiffaaGreatDoor
open Go Go.RowKit
open Wb

theorem heap_new (w : World) (o : Obj) : (w.alloc o).heap[w.heap.size]? = some o := by
  show (w.heap.push o)[w.heap.size]? = _
  exact Array.getElem?_push_size
theorem heap_old (w : World) (o : Obj) (g : Nat) (h : g < w.heap.size) : (w.alloc o).heap[g]? = w.heap[g]? := by
  show (w.heap.push o)[g]? = _
  rw [Array.getElem?_push, if_neg (by omega)]
theorem heap_one (w : World) (o : Obj) : (w.alloc o).heap.size = w.heap.size + 1 := by
  show (w.heap.push o).size = _
  rw [Array.size_push]
theorem Box.set {w : World} {g : Nat} {x : Nums} {nm : ByteArray} {d : Value} (h : Box w g x nm d) (p : Addr) (u : Value) (hp : g ≠ p.block) : Box (w.setCell p u) g x nm d := (set_other w p u g hp).trans h
theorem results_cell_mid {P : Program} {fn : Func} {p : Tmp} {ty : TypeId} (h : fn.results = #[.cell p ty]) (tmps : Array Value) (w : World) (g : Nat) (cs : List Value) (d : TypeDesc)
    (hp : tmps.getD p undef = .pointer (some ⟨g, 0, none⟩)) (hc : w.rangeAt g 0 cs) (hu : P.underlying ty = some d) (hd : d.isRow = true) (hi : (P.info? ty).map (·.size) = some cs.length) :
    (results fn tmps).run P w = .ok (.agg cs.toArray) w := by
  have hp' : tmps[p]?.getD undef = .pointer (some ⟨g, 0, none⟩) := by simpa using hp
  simp [results, h, hp', asAddr, run_loadVar_mid w g 0 ty cs d hc hu hd hi]
set_option maxRecDepth 100000 in
theorem bclone_any (v : Value) (l : List Nat) (w : World) (h : Bs w v l) (hlen : l.length ≤ 140737488355000) :
    Calls Tryz.prog 50 #[v] w fun e w' => ∃ v', e = .returned v' ∧ Own w.heap.size w' v' l ∧ Below w.heap.size w w' := by
  have hin := info5
  obtain ⟨ao, cap, rfl, hl, hm, hn, hc⟩ := h.shape
  cases ao with
  | none =>
    have h0 : l = [] := List.eq_nil_of_length_eq_zero (by have := hn rfl; omega)
    subst h0
    clear h hc hl hm hn hlen
    have he : ∀ w' : World, (binOp .eql 30 (.slice none 0 cap) (.slice none 0 0)).run Tryz.prog w' = .ok (.bool true) w' := fun _ => rfl
    go_enter Tryz.func50, Tryz.ntmps50
    go_wp2
    go_ret
    exact ⟨_, rfl, Own.nil _ _, Below.refl _ _⟩
  | some ad =>
    have HB : Hid (∀ o, Bs (w.alloc o) (.slice (some ad) l.length cap) l) := fun o => h.alloc o
    have HO : Hid (Own w.heap.size (w.alloc (.cells #[] 5)) (.slice (some ⟨w.heap.size, 0, none⟩) 0 0) []) := Own.lit w [] ok_nil (Nat.le_refl _) (Nat.zero_le _) #[] rfl
    clear h hc hl hm hn
    have he : ∀ w' : World, (binOp .eql 30 (.slice (some ad) l.length cap) (.slice none 0 0)).run Tryz.prog w' = .ok (.bool false) w' := fun _ => rfl
    go_enter Tryz.func50, Tryz.ntmps50
    go_wp2_with (at_builtin; refine wpList_append _ rfl (.tmp 5) (.tmp 6) 30 rfl w.heap.size hin Tryz.underlying30 _ [] rfl HO.out _ l rfl (HB.out _) (by simp; omega) (by simp) ?_)
    intro v' w' ho' hb' _
    have R : Hid (Own w.heap.size w' v' l ∧ Below w.heap.size w w') := ⟨ho', ((Below.refl _ w).alloc (Nat.le_refl _) _).trans hb'⟩
    clear ho' hb'
    go_wp2
    go_ret
    exact ⟨_, rfl, R.out.1, R.out.2⟩
set_option maxRecDepth 100000 in
set_option maxHeartbeats 1000000 in
theorem rclone_any (x : Nums) (nm : ByteArray) (d : Value) (l : List Nat) (w : World) (h : Bs w d l) (hlen : l.length ≤ 140737488355000) :
    Calls Tryz.prog 26 #[rv x nm d] w fun e w' => ∃ d', e = .returned (rv x nm d') ∧ Own w.heap.size w' d' l ∧ Below w.heap.size w w' := by
  have HB : Hid (∀ w', Below w.heap.size w w' → Bs w' d l) := fun w' hb => h.kept hb
  obtain ⟨ao, cap, rfl, _⟩ := h.shape
  clear h
  unfold rv
  go_enter Tryz.func26, Tryz.ntmps26
  go_wp2_with fail
  refine (bclone_any _ l _ (HB.out _ (by go_grown)) hlen).mono ?_
  rintro e w3 ⟨d3, rfl, ho3, b3⟩
  have hx1 : Box w3 w.heap.size x nm (.slice ao l.length cap) := (b3.block _ (by rw [heap_one, heap_one]; omega)).trans (by rw [heap_old _ _ _ (by rw [heap_one]; omega)]; exact heap_new _ _)
  have hx2 : Box w3 (w.heap.size + 1) zeroNums ⟨#[]⟩ (.slice none 0 0) := (b3.block _ (by rw [heap_one, heap_one]; omega)).trans (by rw [← heap_one w]; exact heap_new _ _)
  have B3 : Hid (Below w.heap.size w w3) := (show Below w.heap.size w _ by go_grown).trans (b3.mono (by rw [heap_one, heap_one]; omega))
  have hs3 : w.heap.size + 2 ≤ w3.heap.size := by have := b3.size; rw [heap_one, heap_one] at this; exact this
  obtain ⟨c0, c1, c2, c3, c4, c5, c6, c7, c8, c9, c10, c11⟩ := hx1.cells
  obtain ⟨e0, e1, e2, e3, e4, e5, e6, e7, e8, e9, e10, e11⟩ := hx2.cells
  have f11 := hx1.free' 11
  have g0 := hx2.free' 0
  have g1 := hx2.free' 1
  have g2 := hx2.free' 2
  have g3 := hx2.free' 3
  have g4 := hx2.free' 4
  have g5 := hx2.free' 5
  have g6 := hx2.free' 6
  have g7 := hx2.free' 7
  have g8 := hx2.free' 8
  have g9 := hx2.free' 9
  have g10 := hx2.free' 10
  have g11 := hx2.free' 11
  obtain ⟨ao3, cap3, rfl, _⟩ := ho3.bs.shape
  have HO3 : Hid (Own (w.heap.size + 2) w3 (.slice ao3 l.length cap3) l) := ho3.mono (by rw [heap_one, heap_one]; omega)
  have HTH : Hid (∀ u, (w3.setCell ⟨w.heap.size, 11, none⟩ u).there (w.heap.size + 1) 0 12) := fun u => (hx2.set ⟨w.heap.size, 11, none⟩ u (show w.heap.size + 1 ≠ w.heap.size by omega)).there
  have HIR : Hid ((Tryz.prog.info? 32).map (·.size) = some 12) := infoRec
  clear b3 hx1 hx2 ho3
  go_wp2
  refine bodyPost_ret (results_cell_mid rfl _ ((w3.setCell ⟨w.heap.size, 11, none⟩ (.slice ao3 l.length cap3)).setCells (w.heap.size + 1) 0 [.int .i64 x.v, .int .i64 x.k, .int .i64 x.s, .int .i64 x.p, .int .i64 x.t, .int .i64 x.a, .int .i64 x.l, .int .i64 x.c, .int .i64 x.n, .int .i64 x.i, .string nm, .slice ao3 l.length cap3]) (w.heap.size + 1) [.int .i64 x.v, .int .i64 x.k, .int .i64 x.s, .int .i64 x.p, .int .i64 x.t, .int .i64 x.a, .int .i64 x.l, .int .i64 x.c, .int .i64 x.n, .int .i64 x.i, .string nm, .slice ao3 l.length cap3] _ rfl (World.rangeAt_setCells_same _ _ _ _ (HTH.out _)) Tryz.underlying32 rfl HIR.out) rfl ?_
  have FO : Own w.heap.size ((w3.setCell ⟨w.heap.size, 11, none⟩ (.slice ao3 l.length cap3)).setCells (w.heap.size + 1) 0 [.int .i64 x.v, .int .i64 x.k, .int .i64 x.s, .int .i64 x.p, .int .i64 x.t, .int .i64 x.a, .int .i64 x.l, .int .i64 x.c, .int .i64 x.n, .int .i64 x.i, .string nm, .slice ao3 l.length cap3]) (.slice ao3 l.length cap3) l := Own.mono (B := w.heap.size + 2) (Own.cells (Own.set HO3.out ⟨w.heap.size, 11, none⟩ (.slice ao3 l.length cap3) (show w.heap.size < w.heap.size + 2 by omega)) (w.heap.size + 1) 0 [.int .i64 x.v, .int .i64 x.k, .int .i64 x.s, .int .i64 x.p, .int .i64 x.t, .int .i64 x.a, .int .i64 x.l, .int .i64 x.c, .int .i64 x.n, .int .i64 x.i, .string nm, .slice ao3 l.length cap3] (by omega)) (by omega)
  have FB : Below w.heap.size w ((w3.setCell ⟨w.heap.size, 11, none⟩ (.slice ao3 l.length cap3)).setCells (w.heap.size + 1) 0 [.int .i64 x.v, .int .i64 x.k, .int .i64 x.s, .int .i64 x.p, .int .i64 x.t, .int .i64 x.a, .int .i64 x.l, .int .i64 x.c, .int .i64 x.n, .int .i64 x.i, .string nm, .slice ao3 l.length cap3]) := below_cells (by omega) [.int .i64 x.v, .int .i64 x.k, .int .i64 x.s, .int .i64 x.p, .int .i64 x.t, .int .i64 x.a, .int .i64 x.l, .int .i64 x.c, .int .i64 x.n, .int .i64 x.i, .string nm, .slice ao3 l.length cap3] 0 _ (Below.setCell B3.out (show w.heap.size ≤ w.heap.size by omega) _)
  exact ⟨.slice ao3 l.length cap3, rfl, FO, FB⟩
set_option maxRecDepth 100000 in
set_option maxHeartbeats 1000000 in
theorem refclone_any (x : Nums) (nm : ByteArray) (d : Value) (l : List Nat) (w : World) (h : Bs w d l) (hlen : l.length ≤ 140737488355000) :
    Calls Tryz.prog 20 #[rv x nm d] w fun e w' => ∃ d', e = .returned (rv x nm d') ∧ Own w.heap.size w' d' l ∧ Below w.heap.size w w' := by
  have HB : Hid (∀ w', Below w.heap.size w w' → Bs w' d l) := fun w' hb => h.kept hb
  obtain ⟨ao, cap, rfl, _⟩ := h.shape
  clear h
  unfold rv
  go_enter Tryz.func20, Tryz.ntmps20
  go_wp2_with fail
  refine (rpart_any _ l 0 l.length _ (HB.out _ (by go_grown)) (by omega) (Nat.zero_le _) (Nat.le_refl _)).mono ?_
  rw [List.drop_zero, List.take_length]
  rintro e w3 ⟨d3, rfl, ho3, b3⟩
  have hx1 : Box w3 w.heap.size x nm (.slice ao l.length cap) := (b3.block _ (by rw [heap_one, heap_one]; omega)).trans (by rw [heap_old _ _ _ (by rw [heap_one]; omega)]; exact heap_new _ _)
  have hx2 : Box w3 (w.heap.size + 1) zeroNums ⟨#[]⟩ (.slice none 0 0) := (b3.block _ (by rw [heap_one, heap_one]; omega)).trans (by rw [← heap_one w]; exact heap_new _ _)
  have B3 : Hid (Below w.heap.size w w3) := (show Below w.heap.size w _ by go_grown).trans (b3.mono (by rw [heap_one, heap_one]; omega))
  have hs3 : w.heap.size + 2 ≤ w3.heap.size := by have := b3.size; rw [heap_one, heap_one] at this; exact this
  obtain ⟨c0, c1, c2, c3, c4, c5, c6, c7, c8, c9, c10, c11⟩ := hx1.cells
  obtain ⟨e0, e1, e2, e3, e4, e5, e6, e7, e8, e9, e10, e11⟩ := hx2.cells
  have f11 := hx1.free' 11
  have g0 := hx2.free' 0
  have g1 := hx2.free' 1
  have g2 := hx2.free' 2
  have g3 := hx2.free' 3
  have g4 := hx2.free' 4
  have g5 := hx2.free' 5
  have g6 := hx2.free' 6
  have g7 := hx2.free' 7
  have g8 := hx2.free' 8
  have g9 := hx2.free' 9
  have g10 := hx2.free' 10
  have g11 := hx2.free' 11
  obtain ⟨ao3, cap3, rfl, _⟩ := ho3.bs.shape
  have HO3 : Hid (Own (w.heap.size + 2) w3 (.slice ao3 l.length cap3) l) := ho3.mono (by rw [heap_one, heap_one]; omega)
  have HTH : Hid (∀ u, (w3.setCell ⟨w.heap.size, 11, none⟩ u).there (w.heap.size + 1) 0 12) := fun u => (hx2.set ⟨w.heap.size, 11, none⟩ u (show w.heap.size + 1 ≠ w.heap.size by omega)).there
  have HIR : Hid ((Tryz.prog.info? 32).map (·.size) = some 12) := infoRec
  clear b3 hx1 hx2 ho3
  go_wp2
  refine bodyPost_ret (results_cell_mid rfl _ ((w3.setCell ⟨w.heap.size, 11, none⟩ (.slice ao3 l.length cap3)).setCells (w.heap.size + 1) 0 [.int .i64 x.v, .int .i64 x.k, .int .i64 x.s, .int .i64 x.p, .int .i64 x.t, .int .i64 x.a, .int .i64 x.l, .int .i64 x.c, .int .i64 x.n, .int .i64 x.i, .string nm, .slice ao3 l.length cap3]) (w.heap.size + 1) [.int .i64 x.v, .int .i64 x.k, .int .i64 x.s, .int .i64 x.p, .int .i64 x.t, .int .i64 x.a, .int .i64 x.l, .int .i64 x.c, .int .i64 x.n, .int .i64 x.i, .string nm, .slice ao3 l.length cap3] _ rfl (World.rangeAt_setCells_same _ _ _ _ (HTH.out _)) Tryz.underlying32 rfl HIR.out) rfl ?_
  have FO : Own w.heap.size ((w3.setCell ⟨w.heap.size, 11, none⟩ (.slice ao3 l.length cap3)).setCells (w.heap.size + 1) 0 [.int .i64 x.v, .int .i64 x.k, .int .i64 x.s, .int .i64 x.p, .int .i64 x.t, .int .i64 x.a, .int .i64 x.l, .int .i64 x.c, .int .i64 x.n, .int .i64 x.i, .string nm, .slice ao3 l.length cap3]) (.slice ao3 l.length cap3) l := Own.mono (B := w.heap.size + 2) (Own.cells (Own.set HO3.out ⟨w.heap.size, 11, none⟩ (.slice ao3 l.length cap3) (show w.heap.size < w.heap.size + 2 by omega)) (w.heap.size + 1) 0 [.int .i64 x.v, .int .i64 x.k, .int .i64 x.s, .int .i64 x.p, .int .i64 x.t, .int .i64 x.a, .int .i64 x.l, .int .i64 x.c, .int .i64 x.n, .int .i64 x.i, .string nm, .slice ao3 l.length cap3] (by omega)) (by omega)
  have FB : Below w.heap.size w ((w3.setCell ⟨w.heap.size, 11, none⟩ (.slice ao3 l.length cap3)).setCells (w.heap.size + 1) 0 [.int .i64 x.v, .int .i64 x.k, .int .i64 x.s, .int .i64 x.p, .int .i64 x.t, .int .i64 x.a, .int .i64 x.l, .int .i64 x.c, .int .i64 x.n, .int .i64 x.i, .string nm, .slice ao3 l.length cap3]) := below_cells (by omega) [.int .i64 x.v, .int .i64 x.k, .int .i64 x.s, .int .i64 x.p, .int .i64 x.t, .int .i64 x.a, .int .i64 x.l, .int .i64 x.c, .int .i64 x.n, .int .i64 x.i, .string nm, .slice ao3 l.length cap3] 0 _ (Below.setCell B3.out (show w.heap.size ≤ w.heap.size by omega) _)
  exact ⟨.slice ao3 l.length cap3, rfl, FO, FB⟩
end Go.Proofs.YtdnackjakfiffaaGreatDoor

/-
  RecordChecks: the law's walk.
-/
namespace Go.Proofs.YtdnackjakfiffaaGreatDoor
open Go Go.RowKit
open Wb

theorem recEq_self (x : Nums) (nm : ByteArray) (l : List Nat) : recEq x x nm nm l l = true := by simp [recEq]
def Nums.fit (x : Nums) : Prop := ∀ t, 1 ≤ t → t ≤ 9 → -9223372036854775808 ≤ x.tag t ∧ x.tag t ≤ 9223372036854775807
theorem Nums.fit.c {x : Nums} (h : x.fit) : -9223372036854775808 ≤ x.c ∧ x.c ≤ 9223372036854775807 := h 7 (by decide) (by decide)
end Go.Proofs.YtdnackjakfiffaaGreatDoor
