import Derived.Test.YtceokpklcfmadaaQI8
import Derived.Test.YtceokpklcfmadaaQE2
import Derived.Test.YtceokpklcfmadaaQJ7
/-
  Package index: Encode of nil.
-/
namespace Go.Proofs.Ytceokpklcfmadaa
open Go Go.RowKit Go.ChangeShapes
open Wb

set_option maxRecDepth 100000 in
set_option maxHeartbeats 4000000 in
theorem ixenc_nil (w : World) : Calls Try.prog 24 #[.pointer none] w fun e w' => e = .returned (.tuple #[.slice none 0 0, .int .i64 1]) ∧ Below w.heap.size w w' := by
  refine callsIn_wide (n := 5) |>.1 ?_
  have HW1 : Hid (∀ W, W = ((w.alloc (.cells #[.pointer none] 23)).alloc (.cells #[.slice none 0 0] 44)).alloc (.cells #[.int .i64 0] 45) → LB W w.heap.size 23 [.pointer none] ∧ LB W (w.heap.size + 1) 44 [.slice none 0 0] ∧ LB W (w.heap.size + 2) 45 [.int .i64 0] ∧ Below w.heap.size w W) := fun W e => by
    subst e
    have h1 := lb_new w [.pointer none] 23
    have h2 := lb_new (w.alloc (.cells #[.pointer none] 23)) [.slice none 0 0] 44
    have h3 := lb_new ((w.alloc (.cells #[.pointer none] 23)).alloc (.cells #[.slice none 0 0] 44)) [.int .i64 0] 45
    rw [heap_one] at h2 h3
    rw [heap_one] at h3
    exact ⟨(h1.kept (up0 _ _)).kept (up0 _ _), h2.kept (up0 _ _), h3, up (up (up0 _ _) _) _⟩
  refine callsIn_of_wp_marks Try.func24 rfl trivial ?_ rfl
  simp only [Try.ntmps24, List.size_toArray, List.length_cons, List.length_nil, Nat.reduceAdd, Nat.reduceSub, Array.replicate_succ, Array.replicate_zero, List.push_toArray, List.append_toArray, List.nil_append, List.cons_append]
  gi_upto_region 1 with fail
  obtain ⟨W1, hW1⟩ : ∃ W1, W1 = ((w.alloc (.cells #[.pointer none] 23)).alloc (.cells #[.slice none 0 0] 44)).alloc (.cells #[.int .i64 0] 45) := ⟨_, rfl⟩
  obtain ⟨l1, l2, l3, b1⟩ := HW1.out _ hW1
  rw [← hW1]
  clear hW1 HW1
  have y1 := l1.cell 0 _ rfl
  have y2 := l2.cell 0 _ rfl
  have y3 := l3.cell 0 _ rfl
  have f2 := l2.free 0
  have f3 := l3.free 0
  have H1 : Hid (LB W1 (w.heap.size + 1) 44 [.slice none 0 0] ∧ LB W1 (w.heap.size + 2) 45 [.int .i64 0] ∧ Below w.heap.size w W1) := ⟨l2, l3, b1⟩
  clear l1 l2 l3 b1
  gi_wp2_with fail
  have z2 := (((H1.out.1.set 0 (.slice none 0 0)).other ⟨w.heap.size + 1 + 1, 0, none⟩ (.int .i64 1) (by show w.heap.size + 1 ≠ w.heap.size + 1 + 1; omega))).cell 0 _ rfl
  have z3 := (((H1.out.2.1.other ⟨w.heap.size + 1, 0, none⟩ (.slice none 0 0) (by show w.heap.size + 2 ≠ w.heap.size + 1; omega)).set 0 (.int .i64 1))).cell 0 _ rfl
  have hb9 : Below w.heap.size w ((W1.setCell ⟨w.heap.size + 1, 0, none⟩ (.slice none 0 0)).setCell ⟨w.heap.size + 1 + 1, 0, none⟩ (.int .i64 1)) := (H1.out.2.2.setCell (p := ⟨w.heap.size + 1, 0, none⟩) (by show w.heap.size ≤ w.heap.size + 1; omega) _).setCell (p := ⟨w.heap.size + 1 + 1, 0, none⟩) (by show w.heap.size ≤ w.heap.size + 1 + 1; omega) _
  refine ⟨.tuple #[.slice none 0 0, .int .i64 1], ?_, rfl, hb9⟩
  simp [results, Try.f24, go_sem, z2, z3]
end Go.Proofs.Ytceokpklcfmadaa

/-
  IndexWrites: what Encode answers, in one; what it holds between two takes.
-/
namespace Go.Proofs.Ytceokpklcfmadaa
open Go Go.RowKit Go.ChangeShapes
open Wb

/-- a Multi whose blocks are as they were -/
theorem MI.off {w w' : World} {g b base n : Nat} {kvs : Ix.Gm} (h : MI w g b base n kvs) (hs : w.heap.size ≤ w'.heap.size) (hg : w'.heap[g]? = w.heap[g]?) (hb : w'.heap[b]? = w.heap[b]?) (hr : ∀ k, Mrow w b k → w'.heap[k]? = w.heap[k]?) : MI w' g b base n kvs := by
  refine ⟨hg.trans h.box, ?_, h.ris, h.lo, Nat.le_trans h.hi hs⟩
  obtain ⟨es, clock, hb0, F, hs0, he, hbb, hlen, hap⟩ := h.map
  have hk : ∀ x ∈ es.toList, ∀ zs, w.ownsInts base 3 .i64 x.val zs → w'.ownsInts base 3 .i64 x.val zs := fun x hx zs ho => ⟨ownsRow_blk ho.1 fun k e => hr k ⟨es, clock, hb0, x, hx, e⟩, ho.2⟩
  have hst : ∀ x ∈ es.toList, ∀ z, rowElem (H := Unit) w base 3 .i64 x.val = some z → rowElem w' base 3 .i64 x.val = some z := fun x hx z hz => by
    obtain ⟨zs, ho, rfl⟩ := rowElem_inv hz
    exact rowElem_mk (hk x hx zs ho)
  obtain ⟨F1, hmap, _⟩ := F.stay hst
  refine ⟨es, clock, hb.trans hb0, F1, hs0, by rw [hmap]; exact he, hbb, fun x hx zs ho => ?_, hap⟩
  obtain ⟨y, hy⟩ := F.reads x hx
  obtain ⟨z, hz, _⟩ := WideElems.rd_val hy
  obtain ⟨zs0, ho0, _⟩ := rowElem_inv hz
  rw [ho.unique (hk x hx zs0 ho0)]
  exact hlen x hx zs0 ho0
namespace Ix
/-- the bytes and the error -/
def encA (ps : List (Int × Int)) : List Nat × Nat := match encF (gml ps) (prs (gml ps)) with
  | .ok s => (s.1, 0)
  | .error er => ([], er)
theorem encA_len (ps : List (Int × Int)) (hl : ps.length ≤ 1000) : (encA ps).1.length ≤ 60000 := by
  unfold encA
  cases hR : encF (gml ps) (prs (gml ps)) with
  | error er => simp
  | ok s =>
    have hf := gml_fine ps
    have h9 := enc_len (gml ps) (fun k => by have := pdel_len ps k; omega) _ _ s hR
    rw [prs_len, hf.tot] at h9
    have := Wn.uint_len10 (gml ps).length (by have := hf.len; omega)
    simp only at h9 ⊢
    omega
theorem encA_small (ps : List (Int × Int)) : (encA ps).2 ≤ 52 := by
  unfold encA
  cases hR : encF (gml ps) (prs (gml ps)) with
  | ok s => simp
  | error er =>
    rcases enc_err _ _ _ er hR with rfl | rfl <;> simp
end Ix
theorem ixenc_own (g b base n : Nat) (ps : List (Int × Int)) (w : World) (h : MI w g b base n (Ix.gml ps)) (hn : n < 1000000000) (hl : ps.length ≤ 1000) (hw : ∀ p ∈ ps, -9223372036854775808 ≤ p.1 ∧ p.1 ≤ 9223372036854775807) :
    Calls Try.prog 24 #[.pointer (some ⟨g, 0, none⟩)] w fun e w' => ∃ ad, ∃ m c : Nat, e = .returned (.tuple #[.slice ad m c, .int .i64 ((Ix.encA ps).2 : Int)]) ∧ Wb.Own w.heap.size w' (.slice ad m c) (Ix.encA ps).1 ∧ Below w.heap.size w w' := by
  have hf := Ix.gml_fine ps
  have ha : allE (Ix.gml ps) = prs (Ix.gml ps) := by
    unfold allE
    rw [Ix.within_all]
    intro p hp
    obtain ⟨q, hq, e⟩ := hf.key p hp
    rw [← e]
    exact hw q hq
  refine (ixenc_any g b base n _ w h (by have := hf.len; omega) (by rw [ha, Ix.prs_len, hf.tot]; omega) hn).mono fun e w' ⟨hbl, hc⟩ => ?_
  rw [ha] at hc
  unfold Ix.encA
  rcases hc with ⟨s, e1, ad, m, c, e2, e3⟩ | ⟨er, pre, e1, e2, e3⟩
  · rw [e1]
    exact ⟨ad, m, c, e2, e3, hbl⟩
  · rw [Ix.encF_error _ _ pre e1 er e2]
    exact ⟨none, 0, 0, e3, Own.nil _ _, hbl⟩
theorem rixenc_own (v : Value) (ps : List (Int × Int)) (w : World) (h : Pr w v ps) (hl : ps.length ≤ 1000) (hw : ∀ p ∈ ps, (-9223372036854775808 ≤ p.1 ∧ p.1 ≤ 9223372036854775807) ∧ (-9223372036854775808 ≤ p.2 ∧ p.2 ≤ 9223372036854775807)) :
    Calls Try.prog 43 #[v] w fun e w' => ∃ ad, ∃ m c : Nat, e = .returned (.tuple #[.slice ad m c, .int .i64 ((Ix.encA ps).2 : Int)]) ∧ Wb.Own w.heap.size w' (.slice ad m c) (Ix.encA ps).1 ∧ Below w.heap.size w w' := by
  refine (rixenc_any v ps w h (by omega) hw).mono fun e w' ⟨hbl, hc⟩ => ?_
  unfold Ix.encA
  rcases hc with ⟨s, e1, ad, m, c, e2, e3⟩ | ⟨er, pre, e1, e2, e3⟩
  · rw [e1]
    exact ⟨ad, m, c, e2, e3, hbl⟩
  · rw [Ix.encF_error _ _ pre e1 er e2]
    exact ⟨none, 0, 0, e3, Own.nil _ _, hbl⟩
section
variable {w W W' : World} {g b base n gK B : Nat} {kvs : Ix.Gm} {vl vm lv cv : Value} {rows : List (Value × Nat × Nat)} {L co : List Nat}
/-- the blocks that take writes, by their types -/
theorem TkF.typed (bk : Bk B W gK vl vm rows) (ho : Wb.Own B W lv L) {k : Nat} (hk : TkF gK vl vm lv k) : ∃ cs t z, W.heap[k]? = some (.cells cs t z) ∧ (t = 94 ∨ t = 44 ∨ t = 5) := by
  rcases hk with rfl | hk | hk | hk
  · have := bk.box
    unfold LB at this
    exact ⟨_, _, _, this, .inl rfl⟩
  · obtain ⟨cur, h⟩ := Mg.row_type bk.lists k hk
    exact ⟨_, _, _, h, .inr (.inl rfl)⟩
  · obtain ⟨cs, z, h⟩ := own_typed bk.marks k hk
    exact ⟨_, _, _, h, .inr (.inr rfl)⟩
  · obtain ⟨cs, z, h⟩ := own_typed ho k hk
    exact ⟨_, _, _, h, .inr (.inr rfl)⟩
theorem MI.tk (h : MI W g b base n kvs) (bk : Bk B W gK vl vm rows) (ho : Wb.Own B W lv L) (f : FrK W W' (TkF gK vl vm lv)) : MI W' g b base n kvs := by
  refine h.off f.size (f.block g h.box.lt fun e => ?_) (f.block b h.blt.2 fun e => ?_) fun k hk => f.block k (h.row hk).2 fun e => ?_
  · obtain ⟨cs, t, z, h1, h2⟩ := TkF.typed bk ho e
    have hx := h.box
    unfold LB at hx
    rw [hx] at h1
    simp at h1
    rcases h2 with rfl | rfl | rfl <;> exact absurd h1.2.1 (by decide)
  · obtain ⟨cs, t, z, h1, h2⟩ := TkF.typed bk ho e
    obtain ⟨es, clock, hb, -⟩ := h.map
    rw [hb] at h1
    cases h1
  · obtain ⟨cs, t, z, h1, h2⟩ := TkF.typed bk ho e
    obtain ⟨cs9, z9, h9⟩ := h.rowTI hk
    rw [h9] at h1
    simp at h1
    rcases h2 with rfl | rfl | rfl <;> exact absurd h1.2.1 (by decide)
theorem Bk.lt (bk : Bk B W gK vl vm rows) : (∀ r ∈ rows, ∀ q, r.1.ownBlock = some q → q < W.heap.size) ∧ ∀ q, vm.ownBlock = some q → q < W.heap.size := ⟨fun r hr q e => (World.ownsRow.lt (bk.rws r hr) q e).2, fun q e => (own_block bk.marks q e).2⟩
/-- between two takes: the container, the list, the book, the reference's bytes -/
structure WrS (w : World) (g b base n : Nat) (ps : List (Int × Int)) (lv0 : Value) (gK : Nat) (vl vm : Value) (rows : List (Value × Nat × Nat)) (X : Nat) (cv : Value) (W : World) : Prop where
  bel : Below w.heap.size w W
  mi : MI W g b base n (Ix.gml ps)
  pr : Pr W lv0 ps
  bk : Bk w.heap.size W gK vl vm rows
  cb : Wb.Own w.heap.size W cv (Ix.encA ps).1
  cx : ∀ k, cv.ownBlock = some k → k < X
  vx : ∀ k, vm.ownBlock = some k → X ≤ k
  kx : w.heap.size ≤ gK
end
section
variable {w W W' : World} {g b base n gK X : Nat} {ps : List (Int × Int)} {lv0 vl vm lv cv : Value} {rows : List (Value × Nat × Nat)} {L : List Nat}
theorem WrS.kept (h : WrS w g b base n ps lv0 gK vl vm rows X cv W) (hb : Below W.heap.size W W') : WrS w g b base n ps lv0 gK vl vm rows X cv W' :=
  ⟨andThen h.bel hb, h.mi.kept hb, h.pr.kept hb, h.bk.kept hb, h.cb.kept hb, h.cx, h.vx, h.kx⟩
/-- take -/
theorem WrS.take (h : WrS w g b base n ps lv0 gK vl vm rows X cv W) (hpr : Pr w lv0 ps) (hX : X ≤ W.heap.size) (ho : Wb.Own w.heap.size W lv L) (hlv : ∀ k, cv.ownBlock = some k → lv.ownBlock ≠ some k) (hp : BtPost w.heap.size gK vl vm lv rows L.length W W') : ∃ vl' vm' rows', rows'.length = rows.length + 4 ∧ WrS w g b base n ps lv0 gK vl' vm' rows' X cv W' := by
  obtain ⟨vl', vm', v33, v38, v41, m, k1, -, -, -, -, nm, f⟩ := hp
  have hbel : Below w.heap.size w W' := h.bel.trans (f.below _ h.bel.size fun k hk => by
    rcases hk with rfl | hk | hk | hk
    · exact h.kx
    · exact (World.ownsRow.lt h.bk.lists k hk).1
    · exact (own_block h.bk.marks k hk).1
    · exact (own_block ho k hk).1)
  refine ⟨vl', vm', _, by simp [newR], hbel, h.mi.tk h.bk ho f, hpr.kept hbel, k1, own_keptB h.cb fun k e => f.block k (own_block h.cb k e).2 fun e2 => ?_, h.cx, fun k e => ?_, h.kx⟩
  · obtain ⟨cs, z, h9⟩ := own_typed h.cb k e
    rcases e2 with rfl | e2 | e2 | e2
    · have := h.bk.box
      unfold LB at this
      rw [this] at h9
      simp at h9
    · obtain ⟨cur, h8⟩ := Mg.row_type h.bk.lists k e2
      rw [h8] at h9
      simp at h9
    · have := h.cx k e
      have := h.vx k e2
      omega
    · exact hlv k e e2
  · rcases nm with e1 | e1
    · exact h.vx k (e1.symm.trans e)
    · exact Nat.le_trans hX (e1 k e)
end
end Go.Proofs.Ytceokpklcfmadaa
