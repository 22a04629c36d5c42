/-
  IndexRound: what it holds; its steps.
-/
import Derived.Test.YtneiokjpbfgioaaIz1
import Derived.Test.YtneiokjpbfgioaaIxk
import Derived.Test.YtneiokjpbfgioaaIxt
namespace Go.Proofs.Ytneiokjpbfgioaa
open Go Go.RowKit Go.ChangeShapes
open Wb

def kint (es : List (Nat × List Nat)) : List Int := es.map fun p => (p.1 : Int)
/-- between two keys -/
structure RoS (w : World) (g b base n : Nat) (es : List (Nat × List Nat)) (kv av : Value) (ss : List Value) (rs : List (Value × List Int)) (W : World) : Prop where
  mi : MI W g b base n (Ix.gm es)
  ir : IR w b W ((kv, kint es) :: rs)
  all : W.ownsRow w.heap.size 35 1 av ss.length ss
  ssl : ss.length = es.length
  mem : ∀ (j : Nat) (p : Nat × List Nat), es[j]? = some p → ∃ s, ss[j]? = some s ∧ (s, Ix.nums p.2) ∈ rs
  bel : Below w.heap.size w W
  fit : n ≤ 16 * es.length ∧ Ix.okK 0 es ∧ ∀ p ∈ es, p.2.length ≤ 16
/-- while one key's numbers are added -/
structure RiS (w : World) (g b base n : Nat) (es : List (Nat × List Nat)) (kv av : Value) (ss : List Value) (rs : List (Value × List Int)) (key : Nat) (acc : List Nat) (lv : Value) (W : World) : Prop where
  mi : MI W g b base (n + acc.length) (Ix.withK (Ix.gm es) key acc)
  ir : IR w b W ((lv, Ix.nums acc) :: (kv, kint es) :: rs)
  all : W.ownsRow w.heap.size 35 1 av ss.length ss
  bel : Below w.heap.size w W
section
variable {w : World} {g b base n : Nat} {es : List (Nat × List Nat)} {kv av : Value} {ss : List Value} {rs : List (Value × List Int)} {key : Nat} {acc : List Nat} {lv : Value} {W W' : World}
theorem RoS.enter (h : RoS w g b base n es kv av ss rs W) (key : Nat) : RiS w g b base n es kv av ss rs key [] (.slice none 0 0) W := ⟨by rw [Ix.withK_nil]; exact h.mi, h.ir.nil, h.all, h.bel⟩
/-- m.Add(key, off) -/
theorem RiS.add (h : RiS w g b base n es kv av ss rs key acc lv W) (x : Nat) (hk : ∀ p ∈ Ix.gm es, p.1 < (key : Int)) (hb : w.heap.size ≤ b) (hrow : ∀ q, Mrow W b q → w.heap.size ≤ q) (hm : MI W' g b base (n + acc.length + 1) (Ix.add (Ix.withK (Ix.gm es) key acc) (key : Int) (x : Int))) (hf : IFr W W' (fun q => q = b ∨ Mrow W b q)) (hM : ∀ q, Mrow W' b q → Mrow W b q ∨ W.heap.size ≤ q) :
    MI W' g b base (n + (acc ++ [x]).length) (Ix.withK (Ix.gm es) key (acc ++ [x])) ∧ IR w b W' ((lv, Ix.nums acc) :: (kv, kint es) :: rs) ∧ W'.ownsRow w.heap.size 35 1 av ss.length ss ∧ Below w.heap.size w W' ∧ ∀ q, Mrow W' b q → w.heap.size ≤ q := by
  have hnb : ∀ k, (∃ cs t z, W.heap[k]? = some (.cells cs t z)) → k ≠ b := fun k ⟨cs, t, z, h1⟩ e => by
    subst e
    obtain ⟨es9, clock, hb9, -⟩ := h.mi.map
    rw [hb9] at h1
    cases h1
  refine ⟨?_, h.ir.blk (fun p hp k e => hf.block k (World.ownsRow.lt (h.ir.own p hp) k e).2 ?_) hM, ownsRow_blk h.all fun k e => hf.block k (World.ownsRow.lt h.all k e).2 ?_, h.bel.trans (hf.below _ h.bel.size fun k hk9 => ?_), fun q hq => ?_⟩
  · rw [List.length_append, List.length_singleton, ← Nat.add_assoc, ← Ix.withK_add _ _ _ _ hk]
    exact hm
  · rintro (e2 | e2)
    · obtain ⟨cs, z, h3⟩ := ownsRow_cells (h.ir.own p hp) e
      exact hnb k ⟨cs, _, z, h3⟩ e2
    · exact h.ir.off p hp k e e2
  · obtain ⟨cs, z, h3⟩ := ownsRow_cells h.all e
    rintro (e2 | e2)
    · exact hnb k ⟨cs, _, z, h3⟩ e2
    · obtain ⟨cs2, z2, h4⟩ := h.mi.rowTI e2
      rw [h3] at h4
      simp at h4
  · rcases hk9 with rfl | hk9
    · exact hb
    · exact hrow k hk9
  · rcases hM q hq with h9 | h9
    · exact hrow q h9
    · have := h.bel.size
      omega
/-- l = append(l, off) -/
theorem RiS.app {n' : Nat} {kvs' : Ix.Gm} {u : Value} {zs : List Int} (hmi : MI W g b base n' kvs') (hir : IR w b W ((lv, zs) :: (kv, kint es) :: rs)) (hall : W.ownsRow w.heap.size 35 1 av ss.length ss) (hbel : Below w.heap.size w W) (x : Int) (W1 W2 : World) (b1 : Below W.heap.size W W1) (hr : W2.ownsRow w.heap.size 3 1 u (zs ++ [x]).length (ivs (zs ++ [x]))) (hg : W1.grownBy W2 lv.ownBlock) (hat : u.ownBlock = lv.ownBlock ∨ u.ownBlock = some W1.heap.size) :
    MI W2 g b base n' kvs' ∧ IR w b W2 ((u, zs ++ [x]) :: (kv, kint es) :: rs) ∧ W2.ownsRow w.heap.size 35 1 av ss.length ss ∧ Below w.heap.size w W2 ∧ (∀ q, Mrow W2 b q → Mrow W b q) := by
  have ha := hir.app hmi x W1 W2 b1 hr hg hat
  have hl1 := (hir.kept b1 hmi.blt.2).own _ List.mem_cons_self
  have hall1 : W1.ownsRow w.heap.size 35 1 av ss.length ss := ownsRow_blk hall fun k e => b1.block k (World.ownsRow.lt hall k e).2
  refine ⟨ha.2, ha.1, ownsRow_blk hall1 fun k e => hg.block k (World.ownsRow.lt hall1 k e).2 fun e2 => ?_, (andThen hbel b1).grown hg (andThen hbel b1).size fun k e => (World.ownsRow.lt hl1 k e).1, fun q hq => ?_⟩
  · obtain ⟨cs, z, h3⟩ := ownsRow_cells hall1 e
    obtain ⟨cs2, z2, h4⟩ := ownsRow_cells hl1 e2.symm
    rw [h3] at h4
    simp at h4
  · have m1 := hmi.kept b1
    refine (hq.same (hg.block b m1.blt.2 fun e => ?_)).same (b1.block b hmi.blt.2)
    obtain ⟨cs2, z2, h4⟩ := ownsRow_cells hl1 e.symm
    obtain ⟨es9, clock, hb9, -⟩ := m1.map
    rw [hb9] at h4
    cases h4
/-- keys = append(keys, key) -/
theorem RiS.appK {u : Value} (h : RiS w g b base n es kv av ss rs key acc lv W) (x : Int) (W1 W2 : World) (b1 : Below W.heap.size W W1) (hr : W2.ownsRow w.heap.size 3 1 u (kint es ++ [x]).length (ivs (kint es ++ [x]))) (hg : W1.grownBy W2 kv.ownBlock) (hat : u.ownBlock = kv.ownBlock ∨ u.ownBlock = some W1.heap.size) :
    MI W2 g b base (n + acc.length) (Ix.withK (Ix.gm es) key acc) ∧ IR w b W2 ((u, kint es ++ [x]) :: (lv, Ix.nums acc) :: rs) ∧ W2.ownsRow w.heap.size 35 1 av ss.length ss ∧ Below w.heap.size w W2 ∧ (∀ q, Mrow W2 b q → Mrow W b q) := by
  have hir := h.ir.swap
  have ha := hir.app h.mi x W1 W2 b1 hr hg hat
  have hl1 := (hir.kept b1 h.mi.blt.2).own _ List.mem_cons_self
  have hall1 : W1.ownsRow w.heap.size 35 1 av ss.length ss := ownsRow_blk h.all fun k e => b1.block k (World.ownsRow.lt h.all k e).2
  refine ⟨ha.2, ha.1, ownsRow_blk hall1 fun k e => hg.block k (World.ownsRow.lt hall1 k e).2 fun e2 => ?_, (andThen h.bel b1).grown hg (andThen h.bel b1).size fun k e => (World.ownsRow.lt hl1 k e).1, fun q hq => ?_⟩
  · obtain ⟨cs, z, h3⟩ := ownsRow_cells hall1 e
    obtain ⟨cs2, z2, h4⟩ := ownsRow_cells hl1 e2.symm
    rw [h3] at h4
    simp at h4
  · have m1 := h.mi.kept b1
    refine (hq.same (hg.block b m1.blt.2 fun e => ?_)).same (b1.block b h.mi.blt.2)
    obtain ⟨cs2, z2, h4⟩ := ownsRow_cells hl1 e.symm
    obtain ⟨es9, clock, hb9, -⟩ := m1.map
    rw [hb9] at h4
    cases h4
/-- all = append(all, l) -/
theorem RiS.app2 {n' : Nat} {kvs' : Ix.Gm} {u s : Value} {rs' : List (Value × List Int)} (hmi : MI W g b base n' kvs') (hir : IR w b W rs') (hall : W.ownsRow w.heap.size 35 1 av ss.length ss) (hbel : Below w.heap.size w W) (W1 W2 : World) (b1 : Below W.heap.size W W1) (hr : W2.ownsRow w.heap.size 35 1 u (ss ++ [s]).length (ss ++ [s])) (hg : W1.grownBy W2 av.ownBlock) :
    MI W2 g b base n' kvs' ∧ IR w b W2 rs' ∧ W2.ownsRow w.heap.size 35 1 u (ss ++ [s]).length (ss ++ [s]) ∧ Below w.heap.size w W2 ∧ (∀ q, Mrow W2 b q → Mrow W b q) := by
  have hall1 : W1.ownsRow w.heap.size 35 1 av ss.length ss := ownsRow_blk hall fun k e => b1.block k (World.ownsRow.lt hall k e).2
  have ha := hir.other hmi W1 W2 b1 hg (fun r e => ownsRow_cells hall1 e) (by decide) (by decide)
  refine ⟨ha.2, ha.1, hr, (andThen hbel b1).grown hg (andThen hbel b1).size fun k e => (World.ownsRow.lt hall1 k e).1, fun q hq => ?_⟩
  have m1 := hmi.kept b1
  refine (hq.same (hg.block b m1.blt.2 fun e => ?_)).same (b1.block b hmi.blt.2)
  obtain ⟨cs2, z2, h4⟩ := ownsRow_cells hall1 e.symm
  obtain ⟨es9, clock, hb9, -⟩ := m1.map
  rw [hb9] at h4
  cases h4
end
/-- Encode of rising keys and offsets -/
theorem round_enc {g b base n : Nat} {es : List (Nat × List Nat)} {w : World} (h : MI w g b base n (Ix.gm es)) (hk : Ix.okK 0 es) (hb : ∀ p ∈ es, p.2.length ≤ 16) (hl : es.length ≤ 300) (hn : n < 1000000000) :
    Calls Try.prog 16 #[.pointer (some ⟨g, 0, none⟩)] w fun e w' => ∃ ad, ∃ m c : Nat, e = .returned (.tuple #[.slice ad m c, .int .i64 0]) ∧ Bs w' (.slice ad m c) (Ix.wrI es) ∧ Below w.heap.size w w' := by
  obtain ⟨k, o, hF⟩ := Ix.encode_fwd es hk
  refine (ixenc_any g b base n _ w h (by simp [Ix.gm]; omega) (by rw [Ix.gm_allE es hk, Ix.prs_len]; have := Ix.gm_few es hb; omega) hn).mono fun e w' ⟨hbl, hc⟩ => ?_
  rcases hc with ⟨s, e1, ad, m, c, e2, e3⟩ | ⟨er, pre, e1, e2, -⟩
  · rw [hF] at e1
    cases e1
    exact ⟨ad, m, c, e2, e3.bs, hbl⟩
  · rw [Ix.encF_error _ _ pre e1 er e2] at hF
    cases hF
end Go.Proofs.Ytneiokjpbfgioaa
