/-
  IndexDropped: what it holds between two steps; a list of steps.
-/
import Derived.Test.YtceokpklcfmadaaJd0
import Derived.Test.YtceokpklcfmadaaIy2
import Derived.Deep.Onto
namespace Go.Proofs.Ytceokpklcfmadaa
open Go Go.RowKit Go.ChangeShapes
open Wb

theorem i64_wf_bounds {x : Int} (h : (Lit.int .i64 x).wf = true) : -9223372036854775808 ≤ x ∧ x ≤ 9223372036854775807 := by
  simp [Lit.wf, IntKind.min, IntKind.max, IntKind.signed, IntKind.bits] at h
  omega
/-- between two steps -/
structure DpS (w : World) (g b base n : Nat) (ps : List (Int × Int)) (l : Value) (W : World) : Prop where
  mi : MI W g b base n (Ix.gml ps)
  row : W.ownsRow w.heap.size 54 2 l ps.length (ps.flatMap enP)
  bel : Below w.heap.size w W
  mr : ∀ q, Mrow W b q → w.heap.size ≤ q
  hb : w.heap.size ≤ b
  bd : ∀ p ∈ ps, (-9223372036854775808 ≤ p.1 ∧ p.1 ≤ 9223372036854775807) ∧ (-9223372036854775808 ≤ p.2 ∧ p.2 ≤ 9223372036854775807)
section
variable {w : World} {g b base n : Nat} {ps : List (Int × Int)} {l : Value} {W W' : World}
theorem DpS.kept (h : DpS w g b base n ps l W) (hb : Below W.heap.size W W') : DpS w g b base n ps l W' :=
  ⟨h.mi.kept hb, ownsRow_blk h.row fun k e => hb.block k (World.ownsRow.lt h.row k e).2, andThen h.bel hb, fun q hq => h.mr q (hq.same (hb.block b h.mi.blt.2)), h.hb, h.bd⟩
theorem DpS.off (h : DpS w g b base n ps l W) {k : Nat} (e : l.ownBlock = some k) : ¬ (k = b ∨ Mrow W b k) := by
  obtain ⟨cs, z, h3⟩ := ownsRow_cells h.row e
  rintro (e2 | e2)
  · subst e2
    obtain ⟨es9, clock, hb9, -⟩ := h.mi.map
    rw [hb9] at h3
    cases h3
  · obtain ⟨cs2, z2, h4⟩ := h.mi.rowTI e2
    rw [h3] at h4
    simp at h4
/-- m.Add(key, val), and the pair goes to the list -/
theorem DpS.add (h : DpS w g b base n ps l W) (k x : Int) (hk : (Lit.int .i64 k).wf = true) (hx : (Lit.int .i64 x).wf = true) (hm : MI W' g b base (n + 1) (Ix.add (Ix.gml ps) k x)) (hf : IFr W W' (fun q => q = b ∨ Mrow W b q)) (hM : ∀ q, Mrow W' b q → Mrow W b q ∨ W.heap.size ≤ q) (W1 W2 : World) (b1 : Below W'.heap.size W' W1) (u : Value) :
    W1.ownsRow w.heap.size 54 2 l ps.length (ps.flatMap enP) ∧ w.heap.size ≤ W1.heap.size ∧ (W2.ownsRow w.heap.size 54 2 u (ps.length + 1) ((ps ++ [(k, x)]).flatMap enP) → W1.grownBy W2 l.ownBlock → DpS w g b base (n + 1) (ps ++ [(k, x)]) u W2) := by
  have hrow' : W'.ownsRow w.heap.size 54 2 l ps.length (ps.flatMap enP) := ownsRow_blk h.row fun k e => hf.block k (World.ownsRow.lt h.row k e).2 (h.off e)
  have hrow1 : W1.ownsRow w.heap.size 54 2 l ps.length (ps.flatMap enP) := ownsRow_blk hrow' fun k e => b1.block k (World.ownsRow.lt hrow' k e).2
  have hbel' : Below w.heap.size w W' := h.bel.trans (hf.below _ h.bel.size fun k hk9 => by
    rcases hk9 with rfl | hk9
    · exact h.hb
    · exact h.mr k hk9)
  have hbel1 : Below w.heap.size w W1 := andThen hbel' b1
  refine ⟨hrow1, hbel1.size, fun hr hg => ?_⟩
  have hml : ∀ r, l.ownBlock = some r → Hml W1 b r := fun r e => by
    obtain ⟨cs, z, h3⟩ := ownsRow_cells hrow1 e
    exact .inl ⟨cs, _, z, h3, .inl rfl⟩
  have m1 := hm.kept b1
  refine ⟨by rw [Ix.gml_snoc]; exact m1.hml hg hml, by rw [List.length_append, List.length_singleton]; exact hr, hbel1.grown hg hbel1.size fun k e => (World.ownsRow.lt hrow1 k e).1, fun q hq => ?_, h.hb, fun p hp => ?_⟩
  · have h9 := (hq.same (hg.block b m1.blt.2 fun e => ?_)).same (b1.block b hm.blt.2)
    · rcases hM q h9 with h8 | h8
      · exact h.mr q h8
      · exact Nat.le_trans h.bel.size h8
    · obtain ⟨cs2, z2, h4⟩ := ownsRow_cells hrow1 e.symm
      obtain ⟨es9, clock, hb9, -⟩ := m1.map
      rw [hb9] at h4
      cases h4
  · rcases List.mem_append.1 hp with hp | hp
    · exact h.bd p hp
    · obtain rfl := List.mem_singleton.1 hp
      exact ⟨i64_wf_bounds hk, i64_wf_bounds hx⟩
/-- a key is dropped -/
theorem DpS.drop (h : DpS w g b base n ps l W) (k : Int) (W1 W2 : World) (u : Value) (b1 : Below W.heap.size W W1) (hu : W1.ownsRow W.heap.size 54 2 u (Ix.pdel ps k).length ((Ix.pdel ps k).flatMap enP)) (hm : MI W2 g b base n (Ix.del (Ix.gml ps) k)) (hf : IFr W1 W2 (fun q => q = b)) (hM : ∀ q, Mrow W2 b q → Mrow W1 b q) : DpS w g b base n (Ix.pdel ps k) u W2 := by
  have h1 := h.kept b1
  have hu1 : W1.ownsRow w.heap.size 54 2 u (Ix.pdel ps k).length ((Ix.pdel ps k).flatMap enP) := hu.mono h.bel.size
  refine ⟨by rw [Ix.gml_pdel]; exact hm, ownsRow_blk hu1 fun q e => hf.block q (World.ownsRow.lt hu1 q e).2 fun e2 => ?_, h1.bel.trans (hf.below _ h1.bel.size fun q hq => by rw [hq]; exact h.hb), fun q hq => h1.mr q (hM q hq), h.hb, fun p hp => h.bd p (List.mem_filter.1 hp).1⟩
  subst e2
  obtain ⟨cs, z, h3⟩ := ownsRow_cells hu1 e
  obtain ⟨es9, clock, hb9, -⟩ := h1.mi.map
  rw [hb9] at h3
  cases h3
end
/-- one step -/
structure St6 where
  kd : Int
  ob : Int
  ke : Int
  va : Int
  hi : Int
  sp : Int
/-- steps in a row -/
def Sx (w : World) (v : Value) (ss : List St6) : Prop := ∃ a c, v = .slice a ss.length c ∧ ss.length ≤ c ∧ c ≤ maxLen ∧ (ss ≠ [] → ∃ b off, a = some ⟨b, off, none⟩ ∧ ∀ j (h : j < ss.length), w.cell? ⟨b, off + j * 6, none⟩ = some (.int .i64 ss[j].kd) ∧ w.cell? ⟨b, off + j * 6 + 1, none⟩ = some (.int .i64 ss[j].ob) ∧ w.cell? ⟨b, off + j * 6 + 2, none⟩ = some (.int .i64 ss[j].ke) ∧ w.cell? ⟨b, off + j * 6 + 3, none⟩ = some (.int .i64 ss[j].va) ∧ w.cell? ⟨b, off + j * 6 + 4, none⟩ = some (.int .i64 ss[j].hi) ∧ w.cell? ⟨b, off + j * 6 + 5, none⟩ = some (.int .i64 ss[j].sp))
/-- the state after the first drop -/
theorem DpS.zero {w W : World} {g b base n : Nat} (hm : MI W g b base n []) (hbl : Below w.heap.size w W) (hmr : ∀ q, Mrow W b q → w.heap.size ≤ q) (hb : w.heap.size ≤ b) : DpS w g b base n [] (.slice none 0 0) W :=
  ⟨hm, World.ownsRow_nil _ _ _ _, hbl, hmr, hb, fun p hp => by cases hp⟩
end Go.Proofs.Ytceokpklcfmadaa
