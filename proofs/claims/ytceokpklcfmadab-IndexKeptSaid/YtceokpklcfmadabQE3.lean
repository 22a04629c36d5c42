import Derived.Test.YtceokpklcfmadabQI8
import Derived.Test.YtceokpklcfmadabQE1
import Derived.Test.YtceokpklcfmadabQJ7
/-
  Package index: Encode of nil.
-/
namespace Go.Proofs.Ytceokpklcfmadab
open Go Go.RowKit Go.ChangeShapes
open Wb

set_option maxRecDepth 100000 in
set_option maxHeartbeats 4000000 in
theorem ixenc_nil (w : World) : Calls Try.prog 12 #[.pointer none] w fun e w' => e = .returned (.tuple #[.slice none 0 0, .int .i64 1]) ∧ Below w.heap.size w w' := by
  refine callsIn_wide (n := 5) |>.1 ?_
  have HW1 : Hid (∀ W, W = ((w.alloc (.cells #[.pointer none] 24)).alloc (.cells #[.slice none 0 0] 34)).alloc (.cells #[.int .i64 0] 35) → LB W w.heap.size 24 [.pointer none] ∧ LB W (w.heap.size + 1) 34 [.slice none 0 0] ∧ LB W (w.heap.size + 2) 35 [.int .i64 0] ∧ Below w.heap.size w W) := fun W e => by
    subst e
    have h1 := lb_new w [.pointer none] 24
    have h2 := lb_new (w.alloc (.cells #[.pointer none] 24)) [.slice none 0 0] 34
    have h3 := lb_new ((w.alloc (.cells #[.pointer none] 24)).alloc (.cells #[.slice none 0 0] 34)) [.int .i64 0] 35
    rw [heap_one] at h2 h3
    rw [heap_one] at h3
    exact ⟨(h1.kept (up0 _ _)).kept (up0 _ _), h2.kept (up0 _ _), h3, up (up (up0 _ _) _) _⟩
  refine callsIn_of_wp_marks Try.func12 rfl trivial ?_ rfl
  simp only [Try.ntmps12, List.size_toArray, List.length_cons, List.length_nil, Nat.reduceAdd, Nat.reduceSub, Array.replicate_succ, Array.replicate_zero, List.push_toArray, List.append_toArray, List.nil_append, List.cons_append]
  gi_upto_region 1 with fail
  obtain ⟨W1, hW1⟩ : ∃ W1, W1 = ((w.alloc (.cells #[.pointer none] 24)).alloc (.cells #[.slice none 0 0] 34)).alloc (.cells #[.int .i64 0] 35) := ⟨_, rfl⟩
  obtain ⟨l1, l2, l3, b1⟩ := HW1.out _ hW1
  rw [← hW1]
  clear hW1 HW1
  have y1 := l1.cell 0 _ rfl
  have y2 := l2.cell 0 _ rfl
  have y3 := l3.cell 0 _ rfl
  have f2 := l2.free 0
  have f3 := l3.free 0
  have H1 : Hid (LB W1 (w.heap.size + 1) 34 [.slice none 0 0] ∧ LB W1 (w.heap.size + 2) 35 [.int .i64 0] ∧ Below w.heap.size w W1) := ⟨l2, l3, b1⟩
  clear l1 l2 l3 b1
  gi_wp2_with fail
  have z2 := (((H1.out.1.set 0 (.slice none 0 0)).other ⟨w.heap.size + 1 + 1, 0, none⟩ (.int .i64 1) (by show w.heap.size + 1 ≠ w.heap.size + 1 + 1; omega))).cell 0 _ rfl
  have z3 := (((H1.out.2.1.other ⟨w.heap.size + 1, 0, none⟩ (.slice none 0 0) (by show w.heap.size + 2 ≠ w.heap.size + 1; omega)).set 0 (.int .i64 1))).cell 0 _ rfl
  have hb9 : Below w.heap.size w ((W1.setCell ⟨w.heap.size + 1, 0, none⟩ (.slice none 0 0)).setCell ⟨w.heap.size + 1 + 1, 0, none⟩ (.int .i64 1)) := (H1.out.2.2.setCell (p := ⟨w.heap.size + 1, 0, none⟩) (by show w.heap.size ≤ w.heap.size + 1; omega) _).setCell (p := ⟨w.heap.size + 1 + 1, 0, none⟩) (by show w.heap.size ≤ w.heap.size + 1 + 1; omega) _
  refine ⟨.tuple #[.slice none 0 0, .int .i64 1], ?_, rfl, hb9⟩
  simp [results, Try.f12, go_sem, z2, z3]
end Go.Proofs.Ytceokpklcfmadab

/-
  IndexWrites: what Encode answers, in one; what it holds between two takes.
-/
namespace Go.Proofs.Ytceokpklcfmadab
open Go Go.RowKit Go.ChangeShapes
open Wb

/-- a Multi whose blocks are as they were -/
theorem MI.off {w w' : World} {g b base n : Nat} {kvs : Ix.Gm} (h : MI w g b base n kvs) (hs : w.heap.size ≤ w'.heap.size) (hg : w'.heap[g]? = w.heap[g]?) (hb : w'.heap[b]? = w.heap[b]?) (hr : ∀ k, Mrow w b k → w'.heap[k]? = w.heap[k]?) : MI w' g b base n kvs := by
  refine ⟨hg.trans h.box, ?_, h.ris, h.lo, Nat.le_trans h.hi hs⟩
  obtain ⟨es, clock, hb0, F, hs0, he, hbb, hlen, hap⟩ := h.map
  have hk : ∀ x ∈ es.toList, ∀ zs, w.ownsInts base 3 .i64 x.val zs → w'.ownsInts base 3 .i64 x.val zs := fun x hx zs ho => ⟨ownsRow_blk ho.1 fun k e => hr k ⟨es, clock, hb0, x, hx, e⟩, ho.2⟩
  have hst : ∀ x ∈ es.toList, ∀ z, rowElem (H := Unit) w base 3 .i64 x.val = some z → rowElem w' base 3 .i64 x.val = some z := fun x hx z hz => by
    obtain ⟨zs, ho, rfl⟩ := rowElem_inv hz
    exact rowElem_mk (hk x hx zs ho)
  obtain ⟨F1, hmap, _⟩ := F.stay hst
  refine ⟨es, clock, hb.trans hb0, F1, hs0, by rw [hmap]; exact he, hbb, fun x hx zs ho => ?_, hap⟩
  obtain ⟨y, hy⟩ := F.reads x hx
  obtain ⟨z, hz, _⟩ := WideElems.rd_val hy
  obtain ⟨zs0, ho0, _⟩ := rowElem_inv hz
  rw [ho.unique (hk x hx zs0 ho0)]
  exact hlen x hx zs0 ho0
namespace Ix
/-- the bytes and the error -/
def encA (ps : List (Int × Int)) : List Nat × Nat := match encF (gml ps) (prs (gml ps)) with
  | .ok s => (s.1, 0)
  | .error er => ([], er)
theorem encA_len (ps : List (Int × Int)) (hl : ps.length ≤ 1000) : (encA ps).1.length ≤ 60000 := by
  unfold encA
  cases hR : encF (gml ps) (prs (gml ps)) with
  | error er => simp
  | ok s =>
    have hf := gml_fine ps
    have h9 := enc_len (gml ps) (fun k => by have := pdel_len ps k; omega) _ _ s hR
    rw [prs_len, hf.tot] at h9
    have := Wn.uint_len10 (gml ps).length (by have := hf.len; omega)
    simp only at h9 ⊢
    omega
theorem encA_small (ps : List (Int × Int)) : (encA ps).2 ≤ 52 := by
  unfold encA
  cases hR : encF (gml ps) (prs (gml ps)) with
  | ok s => simp
  | error er =>
    rcases enc_err _ _ _ er hR with rfl | rfl <;> simp
end Ix
theorem ixenc_own (g b base n : Nat) (ps : List (Int × Int)) (w : World) (h : MI w g b base n (Ix.gml ps)) (hn : n < 1000000000) (hl : ps.length ≤ 1000) (hw : ∀ p ∈ ps, -9223372036854775808 ≤ p.1 ∧ p.1 ≤ 9223372036854775807) :
    Calls Try.prog 12 #[.pointer (some ⟨g, 0, none⟩)] w fun e w' => ∃ ad, ∃ m c : Nat, e = .returned (.tuple #[.slice ad m c, .int .i64 ((Ix.encA ps).2 : Int)]) ∧ Wb.Own w.heap.size w' (.slice ad m c) (Ix.encA ps).1 ∧ Below w.heap.size w w' := by
  have hf := Ix.gml_fine ps
  have ha : allE (Ix.gml ps) = prs (Ix.gml ps) := by
    unfold allE
    rw [Ix.within_all]
    intro p hp
    obtain ⟨q, hq, e⟩ := hf.key p hp
    rw [← e]
    exact hw q hq
  refine (ixenc_any g b base n _ w h (by have := hf.len; omega) (by rw [ha, Ix.prs_len, hf.tot]; omega) hn).mono fun e w' ⟨hbl, hc⟩ => ?_
  rw [ha] at hc
  unfold Ix.encA
  rcases hc with ⟨s, e1, ad, m, c, e2, e3⟩ | ⟨er, pre, e1, e2, e3⟩
  · rw [e1]
    exact ⟨ad, m, c, e2, e3, hbl⟩
  · rw [Ix.encF_error _ _ pre e1 er e2]
    exact ⟨none, 0, 0, e3, Own.nil _ _, hbl⟩
theorem rixenc_own (v : Value) (ps : List (Int × Int)) (w : World) (h : Pr w v ps) (hl : ps.length ≤ 1000) (hw : ∀ p ∈ ps, (-9223372036854775808 ≤ p.1 ∧ p.1 ≤ 9223372036854775807) ∧ (-9223372036854775808 ≤ p.2 ∧ p.2 ≤ 9223372036854775807)) :
    Calls Try.prog 13 #[v] w fun e w' => ∃ ad, ∃ m c : Nat, e = .returned (.tuple #[.slice ad m c, .int .i64 ((Ix.encA ps).2 : Int)]) ∧ Wb.Own w.heap.size w' (.slice ad m c) (Ix.encA ps).1 ∧ Below w.heap.size w w' := by
  refine (rixenc_any v ps w h (by omega) hw).mono fun e w' ⟨hbl, hc⟩ => ?_
  unfold Ix.encA
  rcases hc with ⟨s, e1, ad, m, c, e2, e3⟩ | ⟨er, pre, e1, e2, e3⟩
  · rw [e1]
    exact ⟨ad, m, c, e2, e3, hbl⟩
  · rw [Ix.encF_error _ _ pre e1 er e2]
    exact ⟨none, 0, 0, e3, Own.nil _ _, hbl⟩
section
variable {w W W' : World} {g b base n gK B : Nat} {kvs : Ix.Gm} {vl vm lv cv : Value} {rows : List (Value × Nat × Nat)} {L co : List Nat}
end
section
variable {w W W' : World} {g b base n gK X : Nat} {ps : List (Int × Int)} {lv0 vl vm lv cv : Value} {rows : List (Value × Nat × Nat)} {L : List Nat}
end
end Go.Proofs.Ytceokpklcfmadab
