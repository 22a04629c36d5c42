import Derived.Test.YtceokpklcfmadabQG2
import Derived.Test.YtceokpklcfmadabQG0
import Derived.Test.YtceokpklcfmadabQJ7
import Derived.Test.YtceokpklcfmadabQE3
/-
  IndexKept: what it holds between its steps.
-/
namespace Go.Proofs.Ytceokpklcfmadab
open Go Go.RowKit Go.ChangeShapes
open Wb

namespace Ix
/-- what was written without an error is read as it was -/
theorem enc_dec (ps : List (Int × Int)) (hl : ps.length ≤ 1000) (hw : ∀ p ∈ ps, (-9223372036854775808 ≤ p.1 ∧ p.1 ≤ 9223372036854775807) ∧ (-9223372036854775808 ≤ p.2 ∧ p.2 ≤ 9223372036854775807)) (h0 : (encA ps).2 = 0) : decodeP (encA ps).1 = (0, gml ps) := by
  have hf := gml_fine ps
  unfold encA at h0 ⊢
  cases hR : encF (gml ps) (prs (gml ps)) with
  | error er =>
    rw [hR] at h0
    rcases enc_err _ _ _ er hR with rfl | rfl <;> simp at h0
  | ok s =>
    obtain ⟨es, he1, he2, he3⟩ := encF_es _ s hf.ris (fun p hp => ⟨hf.ne p hp, by
      obtain ⟨q, hq, e⟩ := hf.key p hp
      have h9 := (hw q hq).1
      rw [e] at h9
      exact ⟨h9.2, fun x hx => by
        obtain ⟨q, hq, e⟩ := gml_vals ps p hp x hx
        rw [← e]
        exact (hw q hq).2.2⟩⟩) hR
    show decodeP s.1 = (0, gml ps)
    rw [he3, he1]
    refine decode_fwd es he2 ?_ fun q hq => ?_
    · have := hf.len
      rw [he1] at this
      simp only [gm, List.length_map] at this
      omega
    · have h8 := hf.tot
      have h9 : q.2.length ≤ total (gml ps) := by
        rw [he1]
        have h7 := total_mem (gm es) ((q.1 : Int), nums q.2) (List.mem_map.2 ⟨q, hq, rfl⟩)
        simpa [nums] using h7
      omega
/-- a key that the container has, and once more -/
theorem twice (ps qs : List (Int × Int)) (k x : Int) (hk : k ∈ (gml ps).map (·.1)) (hq : (k, x) ∈ qs) : 2 ≤ (get (gml (ps ++ qs)) k).length := by
  obtain ⟨p, hp, rfl⟩ := List.mem_map.1 hk
  have hf := gml_fine ps
  rw [← vals_gml, vals_append, List.length_append, vals_gml ps, get_mem hf.ris (show (p.1, p.2) ∈ gml ps from hp)]
  have h1 : 0 < p.2.length := List.length_pos_iff.2 (hf.ne p hp)
  have h2 : 0 < (vals qs p.1).length := by
    refine List.length_pos_iff.2 fun e => ?_
    have h3 : x ∈ vals qs p.1 := List.mem_map.2 ⟨(p.1, x), List.mem_filter.2 ⟨hq, by simp⟩, rfl⟩
    rw [e] at h3
    cases h3
  omega
end Ix
/-- append onto nil of a list of pairs -/
theorem wpList_appCP (w : World) {ops : Array Oper} {rest : List Oper} {o : Oper} {a : Act} {Q : Exit → Act → World → Prop} (hgd : o.guard = none) (x : Operand)
    (ho : o.op = .call { callee := .builtin .append, args := #[.const (.slice none 0 0), x], argTypes := #[22, 22] })
    (v : Value) (ps : List (Int × Int)) (hx : a.eval x = v) (h : Pr w v ps) (hl : ps.length ≤ 1000000)
    (hK : ∀ a' c', ∀ m' : Nat, ∀ w', w'.ownsRow w.heap.size 47 2 (.slice a' m' c') ps.length (ps.flatMap enP) → Below w.heap.size w w' → wpList Try.prog ops Q rest (a.put o.dst (.slice a' m' c')) w') : wpList Try.prog ops Q (o :: rest) a w := by
  obtain ⟨i0, hi, hq⟩ := Option.map_eq_some_iff.1 infoP
  simp only [Prod.mk.injEq] at hq
  have h0 : w.ownsRow w.heap.size 47 2 (.slice none 0 0) 0 [] := World.ownsRow_nil _ _ _ _
  obtain ⟨v', w', hr, h1, h2⟩ : ∃ v' w', (Builtin.append_ #[22, 22] o.type #[.slice none 0 0, v]).run Try.prog w = .ok v' w' ∧ w'.ownsRow w.heap.size 47 2 v' ps.length (ps.flatMap enP) ∧ Below w.heap.size w w' := by
    obtain ⟨ad, c, rfl, hm1, hm2, hc⟩ := h
    cases ad with
    | none =>
      have e : ps = [] := by
        by_cases e : ps = []
        · exact e
        · obtain ⟨b, off, e2, -⟩ := hc e
          cases e2
      subst e
      have hc0 := run_append_owned_none (P := Try.prog) (w := w) w.heap.size 22 o.type 47 i0 2 Try.underlying22 hi (.slice none 0 0) 0 [] h0
      by_cases e0 : c = 0
      · subst e0
        exact ⟨_, _, hc0, h0, Below.refl _ _⟩
      · refine ⟨.slice none 0 0, w, ?_, h0, Below.refl _ _⟩
        simp [Builtin.append_, run_underlying Try.underlying22, sizeOf, typeInfo, hi, Builtin.lenOf, Builtin.firstCells]
    | some ad =>
      obtain ⟨v', w', hr, h2, h3, -, h5⟩ := run_append_own_at (P := Try.prog) w w.heap.size 22 o.type 47 i0 _ 2 16 Try.underlying22 hi hq.1 hq.2.1 hq.2.2 rfl (by decide) (.slice none 0 0) 0 [] h0 ad ps.length c (ps.flatMap enP) (flat_len ps) (fun j u hj => by
        have hj2 := (List.getElem?_eq_some_iff.1 hj).1
        rw [flat_len] at hj2
        obtain ⟨b, off, e2, hcell⟩ := hc (List.ne_nil_of_length_pos (by omega))
        obtain rfl := Option.some.inj e2
        have hjl : j / 2 < ps.length := by omega
        obtain ⟨f0, f1⟩ := flat_at ps (j / 2) hjl
        obtain ⟨g0, g1⟩ := hcell (j / 2) hjl
        rw [Addr.add_lit]
        rcases Nat.mod_two_eq_zero_or_one j with h9 | h9
        · have e : j = j / 2 * 2 := by omega
          rw [e] at hj ⊢
          rw [f0] at hj
          rw [← hj]
          exact g0
        · have e : j = j / 2 * 2 + 1 := by omega
          rw [e] at hj ⊢
          rw [f1] at hj
          rw [← hj, ← Nat.add_assoc]
          exact g1) (fun u hu => by
        obtain ⟨p, -, hp⟩ := List.mem_flatMap.1 hu
        simp [enP] at hp
        rcases hp with rfl | rfl <;> rfl) (by unfold maxLen; omega) (by omega) (Nat.le_refl _)
      rw [Nat.zero_add, List.nil_append] at h2
      exact ⟨v', w', hr, h2, (Below.refl _ w).grown h3 (Nat.le_refl _) (fun k hk => by cases hk)⟩
  obtain ⟨a9, c9, e9, -⟩ := Mg.row_shape h1
  subst e9
  refine wpList_plain hgd fun _ hK' => ?_
  unfold Oper.wp
  have he : a.eval (.const (.slice none 0 0)) = .slice none 0 0 := rfl
  simp [execOp, ho, resolve, invoke, builtin, he, hx, hr, Result.andThen]
  exact hK' _ _ (hK a9 c9 ps.length w' h1 h2)
/-- the lists that were asked for: the keys twice, then each key's values twice -/
def kzs (kvs : Ix.Gm) (q : Nat) : List Int := if q < 2 then kvs.map (·.1) else Ix.get kvs ((kvs.map (·.1)).getD ((q - 2) / 2) 0)
structure KL (kvs : Ix.Gm) (W5 : World) (vL : Value) (L : List Value) (W : World) : Prop where
  low : Below W5.heap.size W5 W
  row : W.ownsRow W5.heap.size 27 1 vL L.length L
  fam : Mg.Fam W5.heap.size W 3 1 (fun q => (kzs kvs q).length) L (fun q => ivs (kzs kvs q))
  apt : Mg.Apt L
section
variable {kvs : Ix.Gm} {W5 W W1 W2 W3 W4 : World} {vL vL' o1 o2 : Value} {L : List Value}
theorem KL.kept (h : KL kvs W5 vL L W) (b : Below W.heap.size W W1) : KL kvs W5 vL L W1 := ⟨andThen h.low b, Mg.row_kept h.row b, h.fam.kept b, h.apt⟩
theorem KL.two (h : KL kvs W5 vL L W) (b1 : Below W.heap.size W W1) (r1 : W1.ownsRow W.heap.size 3 1 o1 (kzs kvs L.length).length (ivs (kzs kvs L.length))) (b2 : Below W1.heap.size W1 W2) (r2 : W2.ownsRow W1.heap.size 3 1 o2 (kzs kvs (L.length + 1)).length (ivs (kzs kvs (L.length + 1)))) (b3 : Below W2.heap.size W2 W3) (k : W3.grownBy W4 vL.ownBlock) (hr : W4.ownsRow W5.heap.size 27 1 vL' (L.length + 2) (L ++ [o1, o2])) : KL kvs W5 vL' (L ++ [o1, o2]) W4 := by
  have h1 := h.kept b1
  have h2 := h1.kept b2
  have h3 := h2.kept b3
  have s1 : W5.heap.size ≤ W.heap.size := h.low.size
  have s2 : W5.heap.size ≤ W1.heap.size := h1.low.size
  have q1 : W3.ownsRow W5.heap.size 3 1 o1 (kzs kvs L.length).length (ivs (kzs kvs L.length)) := Mg.row_kept (Mg.row_kept (Mg.row_weak r1 s1) b2) b3
  have q2 : W3.ownsRow W5.heap.size 3 1 o2 (kzs kvs (L.length + 1)).length (ivs (kzs kvs (L.length + 1))) := Mg.row_kept (Mg.row_weak r2 s2) b3
  have a1 : Mg.Apt (L ++ [o1]) := h.apt.snoc o1 fun u hu g hg e => by
    have := (h.fam.lt u hu g hg).2
    have := (World.ownsRow.lt r1 g e).1
    omega
  have a2 : Mg.Apt ((L ++ [o1]) ++ [o2]) := a1.snoc o2 fun u hu g hg e => by
    have h9 := (World.ownsRow.lt r2 g e).1
    rcases List.mem_append.1 hu with hu | hu
    · have := (h1.fam.lt u hu g hg).2
      omega
    · obtain rfl := List.mem_singleton.1 hu
      have := (World.ownsRow.lt r1 g hg).2
      omega
  have f1 := h3.fam.snoc o1 _ q1 rfl
  have f2 := f1.snoc o2 (ivs (kzs kvs (L.length + 1))) (by
    have e : (L ++ [o1]).length = L.length + 1 := by simp
    rw [e]
    exact q2) (by simp)
  have e : L ++ [o1, o2] = (L ++ [o1]) ++ [o2] := by simp
  refine ⟨h3.low.grown k h3.low.size fun q e => (World.ownsRow.lt h3.row q e).1, by rw [List.length_append]; exact hr, ?_, ?_⟩
  · rw [e]
    exact f2.kind h3.row (by decide) k
  · rw [e]
    exact a2
end
/-- while more is added to one of two containers -/
structure KM (Wd Wy Wy2 : World) (gx bx basex nx : Nat) (psx : List (Int × Int)) (l : Value) (gy bY : Nat) (W : World) : Prop where
  dp : DpS Wd gx bx basex nx psx l W
  mx : ∀ q, Mrow W bx q → q < Wy.heap.size ∨ Wy2.heap.size ≤ q
  bx_ : bx < Wy.heap.size
  yk : ∀ k, Wy.heap.size ≤ k → k < Wy2.heap.size → W.heap[k]? = Wy2.heap[k]?
  yg : LB W gy 58 [.map (some bY)]
  lr : ∀ q, l.ownBlock = some q → Wy2.heap.size ≤ q
  sz : Wy2.heap.size ≤ W.heap.size
  sy : Wy.heap.size ≤ Wy2.heap.size
section
variable {Wd Wy Wy2 : World} {gx bx basex nx : Nat} {psx : List (Int × Int)} {l : Value} {gy bY : Nat} {W W' W1 W2 : World}
theorem KM.kept (h : KM Wd Wy Wy2 gx bx basex nx psx l gy bY W) (b : Below W.heap.size W W') : KM Wd Wy Wy2 gx bx basex nx psx l gy bY W' :=
  ⟨h.dp.kept b, fun q hq => h.mx q (hq.same (b.block bx h.dp.mi.blt.2)), h.bx_, fun k h1 h2 => (b.block k (Nat.lt_of_lt_of_le h2 h.sz)).trans (h.yk k h1 h2), h.yg.kept b, h.lr, Nat.le_trans h.sz b.size, h.sy⟩
/-- y as it was -/
theorem KM.miy {basey ny : Nat} {kvs : Ix.Gm} (h : KM Wd Wy Wy2 gx bx basex nx psx l gy bY W) (hy : MI Wy2 gy bY basey ny kvs) (hb : Wy.heap.size ≤ bY) : MI W gy bY basey ny kvs := by
  have h1 := hy.blt
  refine hy.off h.sz ?_ (h.yk bY hb h1.2) fun k hk => ?_
  · exact (show W.heap[gy]? = _ from h.yg).trans hy.box.symm
  · have := hy.row hk
    exact h.yk k (by omega) this.2
theorem KM.add (h : KM Wd Wy Wy2 gx bx basex nx psx l gy bY W) (k x : Int) (hk : (Lit.int .i64 k).wf = true) (hx : (Lit.int .i64 x).wf = true) (hm : MI W' gx bx basex (nx + 1) (Ix.add (Ix.gml psx) k x)) (hf : IFr W W' (fun q => q = bx ∨ Mrow W bx q)) (hM : ∀ q, Mrow W' bx q → Mrow W bx q ∨ W.heap.size ≤ q) (b1 : Below W'.heap.size W' W1) (u : Value) :
    W1.ownsRow Wd.heap.size 47 2 l psx.length (psx.flatMap enP) ∧ Wd.heap.size ≤ W1.heap.size ∧ (W2.ownsRow Wd.heap.size 47 2 u (psx.length + 1) ((psx ++ [(k, x)]).flatMap enP) → W1.grownBy W2 l.ownBlock → (u.ownBlock = l.ownBlock ∨ u.ownBlock = some W1.heap.size) → KM Wd Wy Wy2 gx bx basex (nx + 1) (psx ++ [(k, x)]) u gy bY W2) := by
  obtain ⟨r1, r2, r3⟩ := h.dp.add k x hk hx hm hf hM W1 W2 b1 u
  refine ⟨r1, r2, fun hr hg hat => ?_⟩
  have hd := r3 hr hg
  have sz' := hf.size
  have szb := b1.size
  have szg := hg.size
  have hsz := h.sz
  have hlt : ∀ q, l.ownBlock = some q → ∃ cs z, W1.heap[q]? = some (.cells cs 47 z) := fun q e => ownsRow_cells r1 e
  have hbx : W2.heap[bx]? = W'.heap[bx]? := (hg.block bx (Nat.lt_of_lt_of_le hm.blt.2 szb) fun e => by
    obtain ⟨cs, z, h4⟩ := hlt bx e.symm
    obtain ⟨es9, clock, hb9, -⟩ := (hm.kept b1).map
    rw [hb9] at h4
    cases h4).trans (b1.block bx hm.blt.2)
  refine ⟨hd, fun q hq => ?_, h.bx_, fun q h1 h2 => ?_, ?_, fun q e => ?_, by omega, h.sy⟩
  · rcases hM q (hq.same hbx) with h9 | h9
    · exact h.mx q h9
    · exact .inr (by omega)
  · refine (hg.block q (by omega) fun e => ?_).trans ((b1.block q (by omega)).trans ((hf.block q (by omega) fun e => ?_).trans (h.yk q h1 h2)))
    · have := h.lr q e.symm
      omega
    · rcases e with rfl | e
      · have := h.bx_
        omega
      · rcases h.mx q e with h9 | h9 <;> omega
  · have y1 : LB W' gy 58 [.map (some bY)] := (hf.block gy h.yg.lt fun e => by
      have hy := h.yg
      unfold LB at hy
      rcases e with rfl | e
      · obtain ⟨es9, clock, hb9, -⟩ := h.dp.mi.map
        rw [hb9] at hy
        cases hy
      · obtain ⟨cs2, z2, h4⟩ := h.dp.mi.rowTI e
        rw [hy] at h4
        simp at h4).trans h.yg
    have y2 := y1.kept b1
    exact (hg.block gy y2.lt fun e => by
      obtain ⟨cs, z, h4⟩ := hlt gy e.symm
      unfold LB at y2
      rw [y2] at h4
      simp at h4).trans y2
  · rcases hat with e1 | e1
    · exact h.lr q (e1.symm.trans e)
    · have := Option.some.inj (e1.symm.trans e)
      omega
/-- a key is dropped -/
theorem KM.miyDrop {basey ny : Nat} {kvs : Ix.Gm} (h : KM Wd Wy Wy2 gx bx basex nx psx l gy bY W) (hy : MI Wy2 gy bY basey ny kvs) (hb : Wy.heap.size ≤ bY) (hf : IFr W W' (fun q => q = bx)) : MI W' gy bY basey ny kvs ∧ Below Wd.heap.size Wd W' := by
  have h1 := h.miy hy hb
  have hbx := h.bx_
  refine ⟨h1.off hf.size (hf.block gy h1.box.lt fun e => ?_) (hf.block bY h1.blt.2 fun e => by omega) fun k hk => hf.block k (h1.row hk).2 fun e => ?_, h.dp.bel.trans (hf.below _ h.dp.bel.size fun q e => by rw [e]; exact h.dp.hb)⟩
  · subst e
    have hy := h.yg
    unfold LB at hy
    obtain ⟨es9, clock, hb9, -⟩ := h.dp.mi.map
    rw [hb9] at hy
    cases hy
  · have := (h1.row hk).1
    have := h1.blt.1
    omega
end
end Go.Proofs.Ytceokpklcfmadab
