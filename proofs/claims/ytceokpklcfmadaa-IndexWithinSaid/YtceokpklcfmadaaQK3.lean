import Derived.Test.YtceokpklcfmadaaQK2
import Derived.Test.YtceokpklcfmadaaQJ2
import Derived.Test.YtceokpklcfmadaaQE3
/-
  IndexWithin: a Walk in memory; told.
-/
namespace Go.Proofs.Ytceokpklcfmadaa
open Go Go.RowKit Go.ChangeShapes
open Wb

/-- a Walk in memory -/
structure WK (W : World) (gw g : Nat) (all : Bool) (lo hi : Int) (nv : Value) (ps : List (Int × Int)) : Prop where
  box : LB W gw 80 [.pointer (some ⟨g, 0, none⟩), .bool all, .int .i64 lo, .int .i64 hi, nv]
  pr : Pr W nv ps
theorem WK.kept {W W' : World} {gw g : Nat} {all : Bool} {lo hi : Int} {nv : Value} {ps : List (Int × Int)} (h : WK W gw g all lo hi nv ps) (hb : Below W.heap.size W W') : WK W' gw g all lo hi nv ps := ⟨h.box.kept hb, h.pr.kept hb⟩
/-- what a range that begins now gives -/
def wtold (all : Bool) (lo hi : Int) (ps : List (Int × Int)) : List (Int × Int) := prs (within (Ix.gml ps) (if all then -9223372036854775808 else lo) (if all then 9223372036854775807 else hi))
theorem st_sortedW {ops : Array Oper} {o : Oper} {a : Act} {W : World} {K : Act → World → Prop} {Q : Exit → Act → World → Prop} {E : Prop} (hw : Region.wanted o (yielded ops a.tmps) = true) (p q r : Nat) (ho : o.op = .call { callee := .value (.func 56), args := #[.tmp p, .tmp q, .tmp r], argTypes := #[55, 3, 3] }) {u1 u2 u3 : Value} (hp : a.tmps[p]?.getD undef = u1) (hq : a.tmps[q]?.getD undef = u2) (hr : a.tmps[r]?.getD undef = u3) {R : Value → World → Prop} (hC : Calls Try.prog 56 #[u1, u2, u3] W fun e W' => ∃ v', e = .returned v' ∧ R v' W') (h : ∀ v' W', R v' W' → K (a.put o.dst v') W') : if Region.wanted o (yielded ops a.tmps) = true then Oper.wp Try.prog o a W K Q else E := by
  rw [if_pos hw]
  obtain ⟨dst, op', ty, pos, after, guard⟩ := o
  simp only at ho
  subst ho
  have HC : Hid (Calls Try.prog 56 #[u1, u2, u3] W fun e W' => ∃ v', e = .returned v' ∧ R v' W') := hC
  clear hC hw
  go_simp
  refine HC.out.mono ?_
  rintro e W' ⟨v', rfl, r⟩
  exact h v' W' r
set_option maxRecDepth 100000 in
set_option maxHeartbeats 4000000 in
theorem ixwtold_any (gw g : Nat) (all : Bool) (lo hi : Int) (nv : Value) (ps : List (Int × Int)) (w : World) (h : WK w gw g all lo hi nv ps) (hl : ps.length ≤ 10000000) (hb : ∀ p ∈ ps, -9223372036854775808 ≤ p.1 ∧ p.1 ≤ 9223372036854775807) :
    Calls Try.prog 41 #[.pointer (some ⟨gw, 0, none⟩)] w fun e w' => ∃ v', e = .returned v' ∧ w'.ownsRow w.heap.size 54 2 v' (wtold all lo hi ps).length ((wtold all lo hi ps).flatMap enP) ∧ Below w.heap.size w w' := by
  have c1 := h.box.cell 1 _ rfl
  have c2 := h.box.cell 2 _ rfl
  have c3 := h.box.cell 3 _ rfl
  have c4 := h.box.cell 4 _ rfl
  have HW : Hid (WK w gw g all lo hi nv ps) := h
  obtain ⟨va, vc, hve, -⟩ := id h.pr
  subst hve
  cases all with
  | true =>
    have HA : Hid (Calls Try.prog 35 #[.slice va ps.length vc] w fun e w' => ∃ v', e = .returned v' ∧ w'.ownsRow w.heap.size 54 2 v' (wtold true lo hi ps).length ((wtold true lo hi ps).flatMap enP) ∧ Below w.heap.size w w') := by
      have h9 := rixall_any _ ps w h.pr hl hb
      have e : wtold true lo hi ps = prs (Ix.gml ps) := by
        unfold wtold
        rw [if_pos rfl, if_pos rfl, Ix.within_all]
        intro p hp
        obtain ⟨q, hq, e⟩ := (Ix.gml_fine ps).key p hp
        rw [← e]
        exact hb q hq
      rw [e]
      exact h9
    clear h
    go_enter Try.func41, Try.ntmps41
    go_wp2_with fail
    refine HA.out.mono ?_
    rintro e W1 ⟨v', rfl, r1, b1⟩
    have H1 : Hid (W1.ownsRow w.heap.size 54 2 v' (wtold true lo hi ps).length ((wtold true lo hi ps).flatMap enP) ∧ Below w.heap.size w W1) := ⟨r1, b1⟩
    clear r1 b1
    go_wp2_with fail
    go_ret
    exact ⟨_, rfl, H1.out.1, H1.out.2⟩
  | false =>
    have hS0 : w.drew.cell? ⟨gw, 2, none⟩ = some (.int .i64 lo) ∧ w.drew.cell? ⟨gw, 3, none⟩ = some (.int .i64 hi) ∧ w.drew.cell? ⟨gw, 4, none⟩ = some (.slice va ps.length vc) := ⟨c2, c3, c4⟩
    obtain ⟨W0, hW0⟩ : ∃ x, x = w.drew := ⟨_, rfl⟩
    have hb0 : Below w.heap.size w W0 := by rw [hW0]; exact ⟨rfl, rfl, rfl, Nat.le_refl _, fun _ _ => rfl⟩
    have HA : Hid (Calls Try.prog 56 #[.slice va ps.length vc, .int .i64 lo, .int .i64 hi] W0 fun e w' => ∃ v', e = .returned v' ∧ w'.ownsRow w.heap.size 54 2 v' (wtold false lo hi ps).length ((wtold false lo hi ps).flatMap enP) ∧ Below w.heap.size w w' ∧ (w'.cell? ⟨gw, 2, none⟩ = some (.int .i64 lo) ∧ w'.cell? ⟨gw, 3, none⟩ = some (.int .i64 hi) ∧ w'.cell? ⟨gw, 4, none⟩ = some (.slice va ps.length vc))) := (rixsorted_any _ ps lo hi W0 (h.pr.kept hb0) hl).mono fun e w' ⟨v', h1, h2, h3⟩ => by
      have h4 := (h.kept hb0).kept h3
      exact ⟨v', h1, Mg.row_weak h2 hb0.size, andThen hb0 h3, h4.box.cell 2 _ rfl, h4.box.cell 3 _ rfl, h4.box.cell 4 _ rfl⟩
    rw [← hW0] at hS0
    clear h hb0
    go_enter Try.func41, Try.ntmps41
    go_upto_region 3 with fail
    refine wp_region_held_drew (S := fun W : World => W.cell? ⟨gw, 2, none⟩ = some (.int .i64 lo) ∧ W.cell? ⟨gw, 3, none⟩ = some (.int .i64 hi) ∧ W.cell? ⟨gw, 4, none⟩ = some (.slice va ps.length vc)) (by kernel_rfl) (by rw [← hW0]; exact hS0) (fun _ => ?_)
    rw [← hW0]
    clear hW0
    refine zqk 0 rfl hS0 ?_
    simp only [Act.put, zq1, zq2, zq3, zq4, zq5]
    refine zqk 1 rfl hS0 ?_
    simp only [Act.put, zq1, zq2, zq3, zq4, zq5, zq6]
    refine zqk 2 rfl hS0 ?_
    simp only [Act.put, zq1, zq2, zq3, zq4, zq5, zq6]
    refine zqk 3 rfl hS0 ?_
    simp only [Act.put, zq1, zq2, zq3, zq4, zq5, zq6]
    refine zqk 4 rfl hS0 ?_
    simp only [Act.put, zq1, zq2, zq3, zq4, zq5, zq6]
    refine zqk 5 rfl hS0 ?_
    simp only [Act.put, zq1, zq2, zq3, zq4, zq5, zq6]
    refine zqk 6 rfl hS0 ?_
    simp only [Act.put, zq1, zq2, zq3, zq4, zq5, zq6]
    refine zqk 7 rfl hS0 ?_
    simp only [Act.put, zq1, zq2, zq3, zq4, zq5, zq6]
    refine zqk 8 rfl hS0 ?_
    simp only [Act.put, zq1, zq2, zq3, zq4, zq5, zq6]
    refine zqk 9 rfl hS0 ?_
    simp only [Act.put, zq1, zq2, zq3, zq4, zq5, zq6]
    refine zqk 10 rfl hS0 ?_
    simp only [Act.put, zq1, zq2, zq3, zq4, zq5, zq6]
    refine zqk 11 rfl hS0 ?_
    simp only [Act.put, zq1, zq2, zq3, zq4, zq5, zq6]
    refine zqr 12 rfl (fun K hK => ?_)
    refine st_sortedW rfl 15 19 23 rfl rfl rfl rfl (R := fun v' w' => w'.ownsRow w.heap.size 54 2 v' (wtold false lo hi ps).length ((wtold false lo hi ps).flatMap enP) ∧ Below w.heap.size w w' ∧ (w'.cell? ⟨gw, 2, none⟩ = some (.int .i64 lo) ∧ w'.cell? ⟨gw, 3, none⟩ = some (.int .i64 hi) ∧ w'.cell? ⟨gw, 4, none⟩ = some (.slice va ps.length vc))) (HA.out.mono fun e w' ⟨v', h1, h2⟩ => ⟨v', h1, h2⟩) ?_
    rintro v' W1 ⟨r1, b1, s1⟩
    refine hK.out _ _ s1 fun hS1 => ?_
    simp only [Act.put, zq1, zq2, zq3, zq4, zq5, zq6]
    clear hK K
    refine zqk 13 rfl hS1 ?_
    simp only [Act.put, zq1, zq2, zq3, zq4, zq5, zq6]
    have H1 : Hid (W1.ownsRow w.heap.size 54 2 v' (wtold false lo hi ps).length ((wtold false lo hi ps).flatMap enP) ∧ Below w.heap.size w W1) := ⟨r1, b1⟩
    clear r1 b1 s1
    refine wpAnyH_done (by kernel_rfl) ?_ _
    go_wp2_with fail
    go_ret
    exact ⟨_, rfl, H1.out.1, H1.out.2⟩
end Go.Proofs.Ytceokpklcfmadaa

/-
  IndexWithin: what an act leaves; Add, Drop with views, in one.
-/
namespace Go.Proofs.Ytceokpklcfmadaa
open Go Go.RowKit Go.ChangeShapes
open Wb

/-- the container, the Walk and its list; what came in lies below Z -/
structure WS (Z gw g b base : Nat) (all : Bool) (lo hi : Int) (n : Nat) (nv : Value) (ps : List (Int × Int)) (W : World) : Prop where
  mi : MI W g b base n (Ix.gml ps)
  wk : WK W gw g all lo hi nv ps
  wf : ∀ p ∈ ps, (Lit.int .i64 p.1).wf = true ∧ (Lit.int .i64 p.2).wf = true
  zb : Z ≤ b
  zg : Z ≤ gw
  zr : ∀ q, Mrow W b q → Z ≤ q
  nt : ∀ a n c, nv = .slice (some a) n c → ps ≠ [] → (∃ cs z, W.heap[a.block]? = some (.cells cs 54 z)) ∨ a.block < Z
/-- what an act leaves as it was: every block but the map's, its rows, the Walk; every view -/
structure DF (gw b : Nat) (W W' : World) : Prop where
  fr : IFr W W' (fun q => q = b ∨ Mrow W b q ∨ q = gw)
  mr : ∀ q, Mrow W' b q → Mrow W b q ∨ W.heap.size ≤ q
  vw : ∀ u zs, Vw W b u zs → Vw W' b u zs
section
variable {Z gw g b base : Nat} {all : Bool} {lo hi : Int} {n : Nat} {nv : Value} {ps : List (Int × Int)} {W W' W2 : World}
theorem DF.of (hb : Below W.heap.size W W') (hlt : b < W.heap.size) : DF gw b W W' := ⟨(IFr.of (grown_none hb none) fun k _ e => by cases e), fun q hq => .inl (hq.same (hb.block b hlt)), fun u zs hu => hu.kept hb hlt⟩
theorem DF.trans (h : DF gw b W W') (h2 : DF gw b W' W2) : DF gw b W W2 := by
  refine ⟨h.fr.trans h2.fr fun k hk e => ?_, fun q hq => ?_, fun u zs hu => h2.vw u zs (h.vw u zs hu)⟩
  · rcases e with e | e | e
    · exact .inl e
    · rcases h.mr k e with e2 | e2
      · exact .inr (.inl e2)
      · omega
    · exact .inr (.inr e)
  · rcases h2.mr q hq with e | e
    · exact h.mr q e
    · exact .inr (Nat.le_trans h.fr.size e)
/-- a list of pairs whose block is as it was -/
theorem Pr.blk {v : Value} {qs : List (Int × Int)} (hp : Pr W v qs) (hb : ∀ a n c, v = .slice (some a) n c → qs ≠ [] → W'.heap[a.block]? = W.heap[a.block]?) : Pr W' v qs := by
  obtain ⟨a, c, rfl, h1, h2, hc⟩ := hp
  refine ⟨a, c, rfl, h1, h2, fun hne => ?_⟩
  obtain ⟨bb, off, rfl, hcell⟩ := hc hne
  refine ⟨bb, off, rfl, fun j hj => ?_⟩
  have hblk : W'.heap[bb]? = W.heap[bb]? := hb ⟨bb, off, none⟩ _ _ rfl hne
  obtain ⟨g0, g1⟩ := hcell j hj
  have key : ∀ (o : Nat) (x : Value), W.cell? ⟨bb, o, none⟩ = some x → W'.cell? ⟨bb, o, none⟩ = some x := fun o x hx => by
    simp only [World.cell?] at hx ⊢
    rw [hblk]
    exact hx
  exact ⟨key _ _ g0, key _ _ g1⟩
theorem Pr.lt {v : Value} {qs : List (Int × Int)} (hp : Pr W v qs) {a : Addr} {k c : Nat} (e : v = .slice (some a) k c) (hne : qs ≠ []) : a.block < W.heap.size := by
  obtain ⟨a', c', e2, -, -, hc⟩ := hp
  obtain ⟨bb, off, e3, hcell⟩ := hc hne
  rw [e2] at e
  simp only [Value.slice.injEq] at e
  rw [e3] at e
  obtain rfl := Option.some.inj e.1
  exact World.block_lt_of_cell? _ _ (hcell 0 (List.length_pos_iff.2 hne)).1
/-- blocks that are none of these -/
def Far (Z _gw _g b : Nat) (W : World) (q : Nat) : Prop := (q = b ∨ Mrow W b q) ∨ (Z ≤ q ∧ ∃ cs t z, W.heap[q]? = some (.cells cs t z) ∧ t ≠ 3 ∧ t ≠ 99 ∧ t ≠ 80 ∧ t ≠ 54)
/-- the Walk and its list stay where only such blocks change -/
theorem WS.wkoff (h : WS Z gw g b base all lo hi n nv ps W) (_hs : W.heap.size ≤ W'.heap.size) (hf : ∀ q, q < W.heap.size → ¬ Far Z gw g b W q → W'.heap[q]? = W.heap[q]?) : WK W' gw g all lo hi nv ps ∧ ∀ a n c, nv = .slice (some a) n c → ps ≠ [] → (∃ cs z, W'.heap[a.block]? = some (.cells cs 54 z)) ∨ a.block < Z := by
  have hx := h.wk.box
  unfold LB at hx
  have hmap := h.mi.map
  have key : ∀ a n c, nv = .slice (some a) n c → ps ≠ [] → W'.heap[a.block]? = W.heap[a.block]? := fun a n c e hne => by
    refine hf _ (h.wk.pr.lt e hne) fun e2 => ?_
    rcases h.nt a n c e hne with ⟨cs, z, h9⟩ | h9
    · rcases e2 with (e2 | e2) | ⟨-, cs2, t2, z2, h3, -, -, -, h4⟩
      · obtain ⟨es9, clock, hb9, -⟩ := h.mi.map
        rw [e2, hb9] at h9
        cases h9
      · obtain ⟨cs2, z2, h4⟩ := h.mi.rowTI e2
        rw [h9] at h4
        simp at h4
      · rw [h9] at h3
        simp at h3
        exact h4 h3.2.1.symm
    · rcases e2 with (e2 | e2) | ⟨h3, -⟩
      · have := h.zb
        omega
      · have := h.zr _ e2
        omega
      · omega
  refine ⟨⟨(hf gw h.wk.box.lt fun e2 => ?_).trans h.wk.box, h.wk.pr.blk key⟩, fun a n c e hne => ?_⟩
  · rcases e2 with (e2 | e2) | ⟨-, cs2, t2, z2, h3, -, -, h4, -⟩
    · obtain ⟨es9, clock, hb9, -⟩ := h.mi.map
      rw [e2, hb9] at hx
      cases hx
    · obtain ⟨cs2, z2, h4⟩ := h.mi.rowTI e2
      rw [hx] at h4
      simp at h4
    · rw [hx] at h3
      simp at h3
      exact h4 h3.2.1.symm
  · rw [key a n c e hne]
    exact h.nt a n c e hne
theorem WS.kept (h : WS Z gw g b base all lo hi n nv ps W) (hb : Below W.heap.size W W') : WS Z gw g b base all lo hi n nv ps W' := by
  obtain ⟨h1, h2⟩ := h.wkoff (W' := W') hb.size fun q hq _ => hb.block q hq
  exact ⟨h.mi.kept hb, h1, h.wf, h.zb, h.zg, fun q hq => h.zr q (hq.same (hb.block b h.mi.blt.2)), h2⟩
/-- a box of another kind is written -/
theorem WS.box (h : WS Z gw g b base all lo hi n nv ps W) {B : Nat} {t : TypeId} {D : List Value} (L : LB W B t D) (hZ : Z ≤ B) (h1 : t ≠ 3) (h2 : t ≠ 99) (h3 : t ≠ 80) (h4 : t ≠ 54) (o : Nat) (v : Value) : WS Z gw g b base all lo hi n nv ps (W.setCell ⟨B, o, none⟩ v) := by
  have hx := L
  unfold LB at hx
  have far : ∀ q, q ≠ B → (W.setCell ⟨B, o, none⟩ v).heap[q]? = W.heap[q]? := fun q hq => set_other _ _ _ _ hq
  have nb : b ≠ B := fun e => by
    obtain ⟨es9, clock, hb9, -⟩ := h.mi.map
    rw [e, hx] at hb9
    cases hb9
  obtain ⟨k1, k2⟩ := h.wkoff (W' := W.setCell ⟨B, o, none⟩ v) (by simp [World.setCell]) fun q _ hn => far q fun e => hn (.inr (by rw [e]; exact ⟨hZ, _, _, _, hx, h1, h2, h3, h4⟩))
  refine ⟨h.mi.off (by simp [World.setCell]) (far g fun e => ?_) (far b nb) fun k hk => far k fun e => ?_, k1, h.wf, h.zb, h.zg, fun q hq => h.zr q (hq.same (far b nb)), k2⟩
  · have hy := h.mi.box
    unfold LB at hy
    rw [e, hx] at hy
    simp at hy
    exact h2 hy.2
  · obtain ⟨cs2, z2, h5⟩ := h.mi.rowTI hk
    rw [e, hx] at h5
    simp at h5
    exact h1 h5.2.1
theorem DF.box (h : DF gw b W W') {B : Nat} {t : TypeId} {D : List Value} (L : LB W' B t D) (hB : W.heap.size ≤ B) (hb : b < W.heap.size) (h1 : t ≠ 3) (o : Nat) (v : Value) : DF gw b W (W'.setCell ⟨B, o, none⟩ v) := by
  have hx := L
  unfold LB at hx
  have far : ∀ q, q ≠ B → (W'.setCell ⟨B, o, none⟩ v).heap[q]? = W'.heap[q]? := fun q hq => set_other _ _ _ _ hq
  have nb : b ≠ B := by omega
  refine ⟨⟨h.fr.os, h.fr.tape, h.fr.output, by simp only [World.setCell, Array.size_modify]; exact h.fr.size, fun k hk hn => (far k (by omega)).trans (h.fr.block k hk hn)⟩, fun q hq => h.mr q (hq.same (far b nb)), fun u zs hu => ?_⟩
  have hu2 := h.vw u zs hu
  refine ⟨Mg.row_block hu2.row fun q e => far q fun e2 => ?_, fun v2 hv2 => hu2.fit v2 (hv2.same (far b nb))⟩
  subst e2
  obtain ⟨cur, h9⟩ := Mg.row_type hu2.row _ e
  rw [hx] at h9
  simp at h9
  exact h1 h9.2
/-- m.Add(k, v) -/
theorem WS.add (h : WS Z gw g b base all lo hi n nv ps W) (hZ : Z ≤ W.heap.size) (hf : IFr W W' (fun q => q = b ∨ Mrow W b q)) (hM : ∀ q, Mrow W' b q → Mrow W b q ∨ W.heap.size ≤ q) (hv : ∀ u zs, Vw W b u zs → Vw W' b u zs) : WK W' gw g all lo hi nv ps ∧ DF gw b W W' ∧ (∀ q, Mrow W' b q → Z ≤ q) := by
  obtain ⟨h1, -⟩ := h.wkoff (W' := W') hf.size fun q hq hn => hf.block q hq fun e => hn (.inl e)
  exact ⟨h1, ⟨hf.mono fun q e => e.elim .inl fun e => .inr (.inl e), hM, hv⟩, fun q hq => (hM q hq).elim (h.zr q) (Nat.le_trans hZ)⟩
/-- a new list goes into the Walk -/
theorem WS.store {W1 : World} (hm : MI W1 g b base n (Ix.gml ps)) (hk : LB W1 gw 80 [.pointer (some ⟨g, 0, none⟩), .bool all, .int .i64 lo, .int .i64 hi, nv]) {B : Nat} {u : Value} (hr : W1.ownsRow B 54 2 u ps.length (ps.flatMap enP)) (hw : ∀ p ∈ ps, (Lit.int .i64 p.1).wf = true ∧ (Lit.int .i64 p.2).wf = true) (zb : Z ≤ b) (zg : Z ≤ gw) (zr : ∀ q, Mrow W1 b q → Z ≤ q) : WS Z gw g b base all lo hi n u ps (W1.setCell ⟨gw, 4, none⟩ u) ∧ DF gw b W1 (W1.setCell ⟨gw, 4, none⟩ u) := by
  have hx := hk
  unfold LB at hx
  have hgb : gw ≠ b := fun e => by
    subst e
    obtain ⟨es9, clock, hb9, -⟩ := hm.map
    rw [hb9] at hx
    cases hx
  have hgr : ¬ Mrow W1 b gw := fun e => by
    obtain ⟨cs2, z2, h4⟩ := hm.rowTI e
    rw [hx] at h4
    simp at h4
  have hgg : gw ≠ g := fun e => by
    subst e
    have hy := hm.box
    unfold LB at hy
    rw [hx] at hy
    simp at hy
  have far : ∀ q, q ≠ gw → (W1.setCell ⟨gw, 4, none⟩ u).heap[q]? = W1.heap[q]? := fun q hq => set_other _ _ _ _ hq
  have hm2 : MI (W1.setCell ⟨gw, 4, none⟩ u) g b base n (Ix.gml ps) := hm.off (by simp [World.setCell]) (far g (Ne.symm hgg)) (far b (Ne.symm hgb)) fun k hk2 => far k fun e => hgr (e ▸ hk2)
  have hur : ∀ q, u.ownBlock = some q → q ≠ gw := fun q e e2 => by
    subst e2
    obtain ⟨cur, h9⟩ := Mg.row_type hr q e
    rw [hx] at h9
    simp at h9
  have hr2 : (W1.setCell ⟨gw, 4, none⟩ u).ownsRow B 54 2 u ps.length (ps.flatMap enP) := Mg.row_block hr fun q e => far q (hur q e)
  refine ⟨⟨hm2, ⟨hk.set 4 u, Pr.of hr2⟩, hw, zb, zg, fun q hq => zr q (hq.same (far b (Ne.symm hgb))), fun a k c e hne => .inl ?_⟩, ⟨⟨rfl, rfl, rfl, by simp [World.setCell], fun k _ hn => far k fun e => hn (.inr (.inr e))⟩, fun q hq => .inl (hq.same (far b (Ne.symm hgb))), fun v zs hv => ⟨Mg.row_block hv.row fun q e => far q fun e2 => ?_, fun v2 hv2 => hv.fit v2 (hv2.same (far b (Ne.symm hgb)))⟩⟩⟩
  · have hub : u.ownBlock = some a.block ∨ ps = [] := by
      rcases hr.2 with ⟨e1, h0⟩ | ⟨q, cap, cur, e1, -⟩
      · exact .inr (List.eq_nil_of_length_eq_zero h0)
      · rw [e1] at e
        simp only [Value.slice.injEq, Option.some.injEq] at e
        rw [e1, ← e.1]
        exact .inl rfl
    obtain ⟨cur, h9⟩ := Mg.row_type hr2 _ (hub.resolve_right hne)
    exact ⟨_, _, h9⟩
  · subst e2
    obtain ⟨cur, h9⟩ := Mg.row_type hv.row _ e
    rw [hx] at h9
    simp at h9
end
/-- append onto nil of a list of pairs, its run -/
theorem run_appCP (w : World) (ty : TypeId) (v : Value) (ps : List (Int × Int)) (h : Pr w v ps) (hl : ps.length ≤ 1000000) : ∃ v' w', (Builtin.append_ #[55, 55] ty #[.slice none 0 0, v]).run Try.prog w = .ok v' w' ∧ w'.ownsRow w.heap.size 54 2 v' ps.length (ps.flatMap enP) ∧ Below w.heap.size w w' := by
  obtain ⟨i0, hi, hq⟩ := Option.map_eq_some_iff.1 infoP
  simp only [Prod.mk.injEq] at hq
  have h0 : w.ownsRow w.heap.size 54 2 (.slice none 0 0) 0 [] := World.ownsRow_nil _ _ _ _
  obtain ⟨ad, c, rfl, hm1, hm2, hc⟩ := h
  cases ad with
  | none =>
    have e : ps = [] := by
      by_cases e : ps = []
      · exact e
      · obtain ⟨b, off, e2, -⟩ := hc e
        cases e2
    subst e
    refine ⟨.slice none 0 0, w, ?_, h0, Below.refl _ _⟩
    simp [Builtin.append_, run_underlying Try.underlying55, sizeOf, typeInfo, hi, Builtin.lenOf, Builtin.firstCells]
  | some ad =>
    obtain ⟨v', w', hr, h2, h3, -, h5⟩ := run_append_own_at (P := Try.prog) w w.heap.size 55 ty 54 i0 _ 2 16 Try.underlying55 hi hq.1 hq.2.1 hq.2.2 rfl (by decide) (.slice none 0 0) 0 [] h0 ad ps.length c (ps.flatMap enP) (flat_len ps) (fun j u hj => by
      have hj2 := (List.getElem?_eq_some_iff.1 hj).1
      rw [flat_len] at hj2
      obtain ⟨b, off, e2, hcell⟩ := hc (List.ne_nil_of_length_pos (by omega))
      obtain rfl := Option.some.inj e2
      have hjl : j / 2 < ps.length := by omega
      obtain ⟨f0, f1⟩ := flat_at ps (j / 2) hjl
      obtain ⟨g0, g1⟩ := hcell (j / 2) hjl
      rw [Addr.add_lit]
      rcases Nat.mod_two_eq_zero_or_one j with h9 | h9
      · have e : j = j / 2 * 2 := by omega
        rw [e] at hj ⊢
        rw [f0] at hj
        rw [← hj]
        exact g0
      · have e : j = j / 2 * 2 + 1 := by omega
        rw [e] at hj ⊢
        rw [f1] at hj
        rw [← hj, ← Nat.add_assoc]
        exact g1) (fun u hu => by
      obtain ⟨p, -, hp⟩ := List.mem_flatMap.1 hu
      simp [enP] at hp
      rcases hp with rfl | rfl <;> rfl) (by unfold maxLen; omega) (by omega) (Nat.le_refl _)
    rw [Nat.zero_add, List.nil_append] at h2
    exact ⟨v', w', hr, h2, (Below.refl _ w).grown h3 (Nat.le_refl _) (fun k hk => by cases hk)⟩
/-- append of one pair, its run -/
theorem run_app1P (w : World) (ty : TypeId) (B : Nat) (v : Value) (ps : List (Int × Int)) (h : w.ownsRow B 54 2 v ps.length (ps.flatMap enP)) (g c : Nat) (p : Int × Int) (hc : LB w g 54 (enP p)) (hmax : ps.length ≤ 1000000) (hB : B ≤ w.heap.size) : ∃ v' w', (Builtin.append_ #[55, 55] ty #[v, .slice (some ⟨g, 0, none⟩) 1 c]).run Try.prog w = .ok v' w' ∧ w'.ownsRow B 54 2 v' (ps ++ [p]).length ((ps ++ [p]).flatMap enP) ∧ w.grownBy w' v.ownBlock := by
  obtain ⟨i0, hi, hq⟩ := Option.map_eq_some_iff.1 infoP
  simp only [Prod.mk.injEq] at hq
  obtain ⟨v', w', hr, h2, h3, -⟩ := run_append_own_at (P := Try.prog) w B 55 ty 54 i0 _ 2 16 Try.underlying55 hi hq.1 hq.2.1 hq.2.2 rfl (by decide) v ps.length _ h ⟨g, 0, none⟩ 1 c (enP p) rfl (fun j u hj => by
    rw [Addr.add_lit, Nat.zero_add]
    exact hc.cell j u hj) (fun u hu => by simp [enP] at hu; rcases hu with rfl | rfl <;> rfl) (by unfold maxLen; omega) (by omega) hB
  refine ⟨v', w', hr, ?_, h3⟩
  rw [List.length_append, List.flatMap_append]
  simpa using h2
end Go.Proofs.Ytceokpklcfmadaa
