import Derived.Test.YtppabcihbpbfpaaGreatDoorQK3
/-
  Package disk: change.
-/
namespace Go.Proofs.YtppabcihbpbfpaaGreatDoor
open Go Go.RowKit Go.ChangeShapes
open Wb

section
variable {P : Program} {ops : Array Oper} {o : Oper} {a : Act} {w W : World} {K : Act → World → Prop} {Q : Exit → Act → World → Prop} {E : Prop} {v u y : Value}
/-- a step by its run -/
theorem st_run (hgd : o.guard = none) (hr : (execOp a.eval o).run P w = .ok (.value v) W) (h : K (a.put o.dst v) W) : if Region.wanted o (yielded ops a.tmps) = true then Oper.wp P o a w K Q else E := by
  rw [if_pos (by simp [Region.wanted, hgd])]
  unfold Oper.wp
  rw [hr]
  simp [Oper.upon]
  exact h
theorem st_appR (hgd : o.guard = none) (t : TypeId) (s x : Operand) (ho : o.op = .call { callee := .builtin .append, args := #[s, x], argTypes := #[t, t] }) (hs : a.eval s = u) (hx : a.eval x = y) (hr : (Builtin.append_ #[t, t] o.type #[u, y]).run P w = .ok v W) (h : K (a.put o.dst v) W) : if Region.wanted o (yielded ops a.tmps) = true then Oper.wp P o a w K Q else E :=
  st_run hgd (by simp [execOp, ho, resolve, invoke, builtin, hs, hx, hr, Result.andThen]) h
end
theorem drew_bel (W : World) : Below W.heap.size W W.drew := ⟨rfl, rfl, rfl, Nat.le_refl _, fun _ _ => rfl⟩
set_option maxRecDepth 100000 in
set_option maxHeartbeats 4000000 in
/-- d.change(c) -/
theorem dkchange_any (B g : Nat) (S : Dk.DS) (M : Mm) (sF sT : ByteArray) (fo : Option Nat) (w : World) (h : DM B w g S M) (hB : B ≤ w.heap.size) (hF : sF.size ≤ maxLen) (hT : sT.size ≤ maxLen) (hto : sT.data.toList ≠ [] → (∃ b, M.mn = some b) ∧ ∃ f, fo = some f) (hn : S.nm.length ≤ 1000000000) (hc : S.ch.length ≤ 1000000000) :
    Calls Tryz.prog 41 #[.pointer (some ⟨g, 0, none⟩), .agg #[.string sF, .string sT, fpo fo]] w fun e w' => e = .returned (.tuple #[]) ∧ ∃ vc', DM B w' g { S with nm := Dk.Ch.app ⟨sF.data.toList, sT.data.toList, fo⟩ S.nm, ch := S.ch ++ [⟨sF.data.toList, sT.data.toList, fo⟩] } { M with vc := vc' } ∧ IFr w w' (Ft g S M) ∧ ∀ q, Ft g { S with nm := Dk.Ch.app ⟨sF.data.toList, sT.data.toList, fo⟩ S.nm, ch := S.ch ++ [⟨sF.data.toList, sT.data.toList, fo⟩] } { M with vc := vc' } q → Ft g S M q ∨ w.heap.size ≤ q := by
  have hen : enC ⟨sF.data.toList, sT.data.toList, fo⟩ = [.string sF, .string sT, fpo fo] := by
    unfold enC
    rw [enS_of, enS_of]
  have H0 : Hid (DM B w g S M) := h
  have HD : Hid (∀ W, Below w.heap.size w W → Calls Tryz.prog 47 #[.agg #[.string sF, .string sT, fpo fo], .map M.mn] W fun e w' => e = .returned (.tuple #[]) ∧ (MpA w' M.mn (Dk.Ch.app ⟨sF.data.toList, sT.data.toList, fo⟩ S.nm) ∧ IFr W w' (fun q => M.mn = some q))) := fun W hW => dkdo_any sF sT fo M.mn S.nm W (h.kept hW).nm hF hT fun e => ⟨(hto e).1, (hto e).2, by unfold maxLen; omega⟩
  have HC : Hid (S.ch.length ≤ 1000000000 ∧ B ≤ w.heap.size) := ⟨hc, hB⟩
  generalize Dk.Ch.mk sF.data.toList sT.data.toList fo = c at hen HD ⊢
  have HEN : Hid (enC c = [.string sF, .string sT, fpo fo]) := hen
  generalize fpo fo = pv at HD HEN ⊢
  obtain ⟨nm', hnm⟩ : ∃ nm', nm' = Dk.Ch.app c S.nm := ⟨_, rfl⟩
  rw [← hnm] at HD ⊢
  clear h hB hF hT hto hn hc hen hnm
  go_enter Tryz.func41, Tryz.ntmps41
  go_upto_region 1 with fail
  obtain ⟨q0, hq0⟩ : ∃ q, q = w.heap.size := ⟨_, rfl⟩
  have L0 := lb_new w [.string sF, .string sT, pv] 86
  have b0 := up0 w (.cells #[.string sF, .string sT, pv] 86)
  rw [← hq0] at L0 ⊢
  obtain ⟨W1, hW1⟩ : ∃ W, W = w.alloc (.cells #[.string sF, .string sT, pv] 86) := ⟨_, rfl⟩
  have L1 : LB W1 q0 86 [.string sF, .string sT, pv] := by rw [hW1]; exact L0
  have b1 : Below w.heap.size w W1 := by rw [hW1]; exact b0
  rw [← hW1]
  clear hW1 L0 b0
  have HQ0 : Hid (q0 = w.heap.size) := hq0
  clear hq0
  have L1z := L1.kept (drew_bel W1)
  have b1z := andThen b1 (drew_bel W1)
  obtain ⟨Wz, hWz⟩ : ∃ W, W = W1.drew := ⟨_, rfl⟩
  rw [← hWz] at L1z b1z
  have HSS : Hid (∀ W, LB W q0 86 [.string sF, .string sT, pv] → LB W g 65 (dkc S M) → W.cell? ⟨q0, 0, none⟩ = some (.string sF) ∧ W.cell? ⟨q0, 1, none⟩ = some (.string sT) ∧ W.cell? ⟨q0, 2, none⟩ = some pv ∧ W.cell? ⟨g, 2, none⟩ = some (.map M.mn)) := fun W h1 h2 => ⟨h1.cell 0 _ rfl, h1.cell 1 _ rfl, h1.cell 2 _ rfl, h2.cell 2 _ rfl⟩
  have hS0 := HSS.out Wz L1z (H0.out.kept b1z).box
  have HZ : Hid (LB Wz q0 86 [.string sF, .string sT, pv] ∧ Below w.heap.size w Wz) := ⟨L1z, b1z⟩
  clear L1 b1 L1z b1z
  refine wp_region_held_drew (S := fun W : World => W.cell? ⟨q0, 0, none⟩ = some (.string sF) ∧ W.cell? ⟨q0, 1, none⟩ = some (.string sT) ∧ W.cell? ⟨q0, 2, none⟩ = some pv ∧ W.cell? ⟨g, 2, none⟩ = some (.map M.mn)) (by kernel_rfl) (by rw [← hWz]; exact hS0) (fun _ => ?_)
  rw [← hWz]
  clear hWz
  refine zqk 0 rfl hS0 ?_
  simp only [Act.put, zq1, zq2, zq3, zq4, zq5]
  refine zqk 1 rfl hS0 ?_
  simp only [Act.put, zq1, zq2, zq3, zq4, zq5, zq6]
  refine zqk 2 rfl hS0 ?_
  simp only [Act.put, zq1, zq2, zq3, zq4, zq5, zq6]
  refine zqk 3 rfl hS0 ?_
  simp only [Act.put, zq1, zq2, zq3, zq4, zq5, zq6]
  refine zqk 4 rfl hS0 ?_
  simp only [Act.put, zq1, zq2, zq3, zq4, zq5, zq6]
  refine zqr 5 rfl (fun K hK => ?_)
  refine st_doW rfl 4 8 rfl rfl rfl (HD.out Wz HZ.out.2) ?_
  rintro W2 ⟨m2, f2⟩
  have qne : M.mn ≠ some q0 := fun e => by
    have h1 := H0.out.nm.lt _ e
    have h2 := HQ0.out
    omega
  have L2 : LB W2 q0 86 [.string sF, .string sT, pv] := (f2.block q0 HZ.out.1.lt qne).trans HZ.out.1
  have G2 : LB W2 g 65 (dkc S M) := (f2.block g (H0.out.kept HZ.out.2).box.lt H0.out.gne.1).trans (H0.out.kept HZ.out.2).box
  have hS2 := HSS.out W2 L2 G2
  have F2 : Hid (MpA W2 M.mn nm' ∧ IFr w W2 (fun q => M.mn = some q) ∧ LB W2 q0 86 [.string sF, .string sT, pv] ∧ LB W2 g 65 (dkc S M)) := ⟨m2, (IFr.kept HZ.out.2).trans f2 fun k _ e => e, L2, G2⟩
  refine hK.out _ _ hS2 fun _ => ?_
  simp only [Act.put, zq1, zq2, zq3, zq4, zq5, zq6]
  clear hK K m2 f2 L2 G2 qne hS0 hS2
  refine wpAnyH_done (by kernel_rfl) ?_ _
  go_upto_region 2 with fail
  have M2 := F2.out.2.2.1.kept (drew_bel W2)
  have N2 := F2.out.2.2.2.kept (drew_bel W2)
  obtain ⟨W2z, hW2z⟩ : ∃ W, W = W2.drew := ⟨_, rfl⟩
  have bz : Below W2.heap.size W2 W2z := by rw [hW2z]; exact drew_bel W2
  rw [← hW2z] at M2 N2
  have HS2 : Hid (∀ W, LB W q0 86 [.string sF, .string sT, pv] → W.cell? ⟨q0, 0, none⟩ = some (.string sF) ∧ W.cell? ⟨q0, 1, none⟩ = some (.string sT) ∧ W.cell? ⟨q0, 2, none⟩ = some pv) := fun W h1 => ⟨h1.cell 0 _ rfl, h1.cell 1 _ rfl, h1.cell 2 _ rfl⟩
  have hT0 := HS2.out W2z M2
  have x4 := N2.cell 4 _ rfl
  have b3 := up0 W2z (.cells #[.string sF, .string sT, pv] 86)
  have L3 : LB (W2z.alloc (.cells #[.string sF, .string sT, pv] 86)) W2z.heap.size 86 (enC c) := by
    rw [HEN.out]
    exact lb_new W2z [.string sF, .string sT, pv] 86
  have hT3 := HS2.out _ (M2.kept b3)
  have y4 := (N2.kept b3).cell 4 _ rfl
  have row3 : (W2z.alloc (.cells #[.string sF, .string sT, pv] 86)).ownsRow B 86 3 M.vc S.ch.length (S.ch.flatMap enC) := Mg.row_kept (Mg.row_kept (Mg.row_block H0.out.ch fun q e => F2.out.2.1.block q (World.ownsRow.lt H0.out.ch q e).2 (H0.out.vne e).2.1) bz) b3
  obtain ⟨vc', W4, hr4, r4, g4, v4⟩ := run_app1C _ 63 B M.vc S.ch row3 W2z.heap.size 1 c L3 HC.out.1 (Nat.le_trans HC.out.2 (Nat.le_trans F2.out.2.1.size (Nat.le_trans bz.size b3.size)))
  obtain ⟨va, vk, vp, hve⟩ : ∃ (x : Option Addr) (y z : Nat), vc' = .slice x y z := by
    obtain ⟨x, z, e, -⟩ := Mg.row_shape r4
    exact ⟨x, _, z, e⟩
  subst hve
  have q0l : q0 < W2z.heap.size := M2.lt
  have M4 : LB W4 q0 86 [.string sF, .string sT, pv] := (g4.block q0 (M2.kept b3).lt fun e => by
    have h1 := (World.ownsRow.lt H0.out.ch q0 e.symm).2
    have h2 := HQ0.out
    omega).trans (M2.kept b3)
  have N4 : LB W4 g 65 (dkc S M) := (g4.block g (N2.kept b3).lt fun e => H0.out.gne.2.2 e.symm).trans (N2.kept b3)
  have hT4 := HS2.out W4 M4
  have f4 := N4.free 4
  have w4 := N4.cell 4 _ rfl
  have HFIN : Hid (DM B (W4.setCell ⟨g, 4, none⟩ (.slice va vk vp)) g { S with nm := nm', ch := S.ch ++ [c] } { M with vc := (.slice va vk vp) } ∧ IFr w (W4.setCell ⟨g, 4, none⟩ (.slice va vk vp)) (Ft g S M) ∧ ∀ q, Ft g { S with nm := nm', ch := S.ch ++ [c] } { M with vc := (.slice va vk vp) } q → Ft g S M q ∨ w.heap.size ≤ q) := H0.out.chg F2.out.1 F2.out.2.1 (andThen bz b3) r4 g4 v4
  have HT5 : Hid ((W4.setCell ⟨g, 4, none⟩ (.slice va vk vp)).cell? ⟨q0, 0, none⟩ = some (.string sF) ∧ (W4.setCell ⟨g, 4, none⟩ (.slice va vk vp)).cell? ⟨q0, 1, none⟩ = some (.string sT) ∧ (W4.setCell ⟨g, 4, none⟩ (.slice va vk vp)).cell? ⟨q0, 2, none⟩ = some pv) := HS2.out _ (M4.other ⟨g, 4, none⟩ (.slice va vk vp) fun e : q0 = g => by
    have h1 := H0.out.box.lt
    have h2 := HQ0.out
    omega)
  clear M2 N2 b3 L3 row3 r4 g4 v4 M4 N4 bz q0l
  refine wp_region_held_drew (S := fun W : World => W.cell? ⟨q0, 0, none⟩ = some (.string sF) ∧ W.cell? ⟨q0, 1, none⟩ = some (.string sT) ∧ W.cell? ⟨q0, 2, none⟩ = some pv) (by kernel_rfl) (by rw [← hW2z]; exact hT0) (fun _ => ?_)
  rw [← hW2z]
  clear hW2z
  refine zqk 0 rfl hT0 ?_
  simp only [Act.put, zq1, zq2, zq3, zq4, zq5]
  refine zqk 1 rfl hT0 ?_
  simp only [Act.put, zq1, zq2, zq3, zq4, zq5, zq6]
  refine zqk 2 rfl hT0 ?_
  simp only [Act.put, zq1, zq2, zq3, zq4, zq5, zq6]
  refine zqk 3 rfl hT0 ?_
  simp only [Act.put, zq1, zq2, zq3, zq4, zq5, zq6]
  refine zqk 5 rfl hT0 ?_
  simp only [Act.put, zq1, zq2, zq3, zq4, zq5, zq6]
  refine wpAnyH_ready (rs := [4, 6]) (by kernel_rfl) (by simp) ?_
  refine AllReadyH.cons rfl (fun K hK => ?_) (AllReadyH.cons rfl (fun K hK => ?_) AllReadyH.nil)
  · go_simp
    refine hK.out _ _ hT0 fun _ => ?_
    try simp only [Act.put, zq1, zq2, zq3, zq4, zq5, zq6]
    clear hK K
    refine zqr 6 rfl (fun K hK => ?_)
    go_simp
    refine hK.out _ _ hT3 fun _ => ?_
    try simp only [Act.put, zq1, zq2, zq3, zq4, zq5, zq6]
    clear hK K
    refine zqr 7 rfl (fun K hK => ?_)
    refine st_appR rfl 63 (.tmp 14) (.tmp 16) rfl rfl rfl hr4 ?_
    refine hK.out _ _ hT4 fun _ => ?_
    try simp only [Act.put, zq1, zq2, zq3, zq4, zq5, zq6]
    clear hK K
    refine zqk 8 rfl hT4 ?_
    try simp only [Act.put, zq1, zq2, zq3, zq4, zq5, zq6]
    refine zqk 9 rfl hT4 ?_
    try simp only [Act.put, zq1, zq2, zq3, zq4, zq5, zq6]
    refine zqr 10 rfl (fun K hK => ?_)
    go_simp
    refine hK.out _ _ HT5.out fun _ => ?_
    try simp only [Act.put, zq1, zq2, zq3, zq4, zq5, zq6]
    clear hK K
    refine wpAnyH_done (by kernel_rfl) ?_ _
    clear hr4 x4 y4 f4 hT0 hT3 hT4
    go_wp2
    go_returns
    exact ⟨rfl, .slice va vk vp, HFIN.out⟩
  · go_simp
    refine hK.out _ _ hT3 fun _ => ?_
    try simp only [Act.put, zq1, zq2, zq3, zq4, zq5, zq6]
    clear hK K
    refine zqr 4 rfl (fun K hK => ?_)
    go_simp
    refine hK.out _ _ hT3 fun _ => ?_
    try simp only [Act.put, zq1, zq2, zq3, zq4, zq5, zq6]
    clear hK K
    refine zqr 7 rfl (fun K hK => ?_)
    refine st_appR rfl 63 (.tmp 14) (.tmp 16) rfl rfl rfl hr4 ?_
    refine hK.out _ _ hT4 fun _ => ?_
    try simp only [Act.put, zq1, zq2, zq3, zq4, zq5, zq6]
    clear hK K
    refine zqk 8 rfl hT4 ?_
    try simp only [Act.put, zq1, zq2, zq3, zq4, zq5, zq6]
    refine zqk 9 rfl hT4 ?_
    try simp only [Act.put, zq1, zq2, zq3, zq4, zq5, zq6]
    refine zqr 10 rfl (fun K hK => ?_)
    go_simp
    refine hK.out _ _ HT5.out fun _ => ?_
    try simp only [Act.put, zq1, zq2, zq3, zq4, zq5, zq6]
    clear hK K
    refine wpAnyH_done (by kernel_rfl) ?_ _
    clear hr4 x4 y4 f4 hT0 hT3 hT4
    go_wp2
    go_returns
    exact ⟨rfl, .slice va vk vp, HFIN.out⟩
end Go.Proofs.YtppabcihbpbfpaaGreatDoor

/-
  Package disk: what a call leaves of a disk; a map is made; a file is made; Create.
-/
namespace Go.Proofs.YtppabcihbpbfpaaGreatDoor
open Go Go.RowKit Go.ChangeShapes
open Wb

/-- what a call leaves -/
def DPost (B g : Nat) (S : Dk.DS) (M : Mm) (w : World) (S' : Dk.DS) (w' : World) : Prop := ∃ M', DM B w' g S' M' ∧ IFr w w' (Ft g S M) ∧ ∀ q, Ft g S' M' q → Ft g S M q ∨ w.heap.size ≤ q
section
variable {B : Nat} {w w' w2 : World} {g : Nat} {S S' S2 : Dk.DS} {M : Mm}
theorem DPost.same (h : DM B w g S M) (hb : Below w.heap.size w w') : DPost B g S M w S w' := ⟨M, h.kept hb, IFr.kept hb, fun _ hq => .inl hq⟩
theorem DPost.of (h : DM B w' g S' M) (hf : IFr w w' (· = g)) (he : ∀ q, Ft g S' M q → Ft g S M q) : DPost B g S M w S' w' := ⟨M, h, hf.mono fun _ e => .inl e, fun q hq => .inl (he q hq)⟩
theorem DPost.trans {M' : Mm} (h1 : IFr w w' (Ft g S M)) (h2 : ∀ q, Ft g S' M' q → Ft g S M q ∨ w.heap.size ≤ q) (h : DPost B g S' M' w' S2 w2) : DPost B g S M w S2 w2 := by
  obtain ⟨M2, k1, k2, k3⟩ := h
  refine ⟨M2, k1, h1.trans k2 fun k hk e => (h2 k e).resolve_right (by omega), fun q hq => ?_⟩
  rcases k3 q hq with e | e
  · exact h2 q e
  · exact .inr (Nat.le_trans h1.size e)
/-- a map for the names -/
theorem DM.mkmap (h : DM B w g S M) (hB : B ≤ w.heap.size) (hm : M.mn = none) : DM B ((w.alloc (.map #[] 0)).setCell ⟨g, 2, none⟩ (.map (some w.heap.size))) g S { M with mn := some w.heap.size } ∧ IFr w ((w.alloc (.map #[] 0)).setCell ⟨g, 2, none⟩ (.map (some w.heap.size))) (Ft g S M) ∧ ∀ q, Ft g S { M with mn := some w.heap.size } q → Ft g S M q ∨ w.heap.size ≤ q := by
  have b1 := up0 w (.map #[] 0)
  have h1 := h.kept b1
  have far : ∀ q, q ≠ g → ((w.alloc (.map #[] 0)).setCell ⟨g, 2, none⟩ (.map (some w.heap.size))).heap[q]? = (w.alloc (.map #[] 0)).heap[q]? := fun q hq => set_other _ _ _ _ hq
  have hnm : S.nm = [] := by
    rcases h.nm.2 with ⟨-, e⟩ | ⟨b, e, -⟩
    · exact e
    · rw [hm] at e
      cases e
  have hgl := h.box.lt
  obtain ⟨k1, k2, k3⟩ := h1.rest (w' := (w.alloc (.map #[] 0)).setCell ⟨g, 2, none⟩ (.map (some w.heap.size))) fun q _ h0 _ _ => far q h0
  have own : MpA ((w.alloc (.map #[] 0)).setCell ⟨g, 2, none⟩ (.map (some w.heap.size))) (some w.heap.size) S.nm := by
    rw [hnm]
    refine MpA.blk (w := w.alloc (.map #[] 0)) (MpA.own List.Pairwise.nil (World.ownsMap_made w _ _ _)) fun b e => far b ?_
    have := Option.some.inj e
    omega
  refine ⟨⟨h1.box.set 2 _, own, k1, Mg.row_block h1.ch fun q e => far q (h1.vne e).1, k2, k3, h.ap, fun b e e2 => ?_, h.gB, fun b e => ?_, h.fB⟩, ⟨rfl, rfl, rfl, by simp only [World.setCell, Array.size_modify]; exact b1.size, fun k hk hn => (far k fun e => hn (.inl e)).trans (b1.block k hk)⟩, fun q hq => ?_⟩
  · have e3 := Option.some.inj e
    have := h.la.lt b e2
    omega
  · rcases e with e | e
    · have e3 := Option.some.inj e
      omega
    · exact h.mB b (.inr e)
  · rcases hq with e | e | e | e | e
    · exact .inl (.inl e)
    · have e3 := Option.some.inj e
      exact .inr (by omega)
    · exact .inl (.inr (.inr (.inl e)))
    · exact .inl (.inr (.inr (.inr (.inl e))))
    · exact .inl (.inr (.inr (.inr (.inr e))))
end
namespace Dk
/-- a file with other contents -/
def upd (fo : Nat → Fl) (f : Nat) (x : Fl) : Nat → Fl := fun k => if k = f then x else fo k
/-- a file is made -/
def mk (S : DS) (f : Nat) : DS := { S with ids := S.ids ++ [f], fo := upd S.fo f ⟨[], 0⟩ }
/-- what Create is refused for -/
def crtE (S : DS) (s : List UInt8) : Int := if askE S [s] = 0 then (if (get S.nm s).isSome = true then 62 else (cnt S).1) else askE S [s]
/-- the disk behind Create -/
def crt (S : DS) (s : List UInt8) (f : Nat) : DS := if askE S [s] = 0 ∧ (get S.nm s).isSome = false then (if (cnt S).1 = 0 then { mk (cnt S).2 f with nm := Ch.app ⟨[], s, some f⟩ S.nm, ch := S.ch ++ [⟨[], s, some f⟩] } else (cnt S).2) else S
end Dk
section
variable {B : Nat} {w w' : World} {g : Nat} {S : Dk.DS} {M : Mm}
/-- a file is made -/
theorem DM.mkfile (h : DM B w g S M) (hB : B ≤ w.heap.size) : DM B (w.alloc (.cells #[.slice none 0 0, .int .i64 0] 75)) g (Dk.mk S w.heap.size) { M with dv := fun k => if k = w.heap.size then .slice none 0 0 else M.dv k } ∧ ∀ q, Ft g (Dk.mk S w.heap.size) { M with dv := fun k => if k = w.heap.size then .slice none 0 0 else M.dv k } q → Ft g S M q ∨ w.heap.size ≤ q := by
  have b1 := up0 w (.cells #[.slice none 0 0, .int .i64 0] 75)
  have h1 := h.kept b1
  have L := lb_new w [.slice none 0 0, .int .i64 0] 75
  have old : ∀ f ∈ S.ids, f ≠ w.heap.size := fun f hf e => by
    have := (h.fb f hf).lt
    omega
  have mem : ∀ f, f ∈ (Dk.mk S w.heap.size).ids → f = w.heap.size ∨ f ∈ S.ids := fun f hf => by
    rcases List.mem_append.1 hf with e | e
    · exact .inr e
    · exact .inl (List.mem_singleton.1 e)
  refine ⟨⟨h1.box, h1.nm, h1.la, h1.ch, fun f hf => ?_, fun f hf => ?_, fun f hf f' hf' hne q e e2 => ?_, h.ne, h.gB, h.mB, fun f hf => ?_⟩, fun q hq => ?_⟩
  · rcases mem f hf with rfl | e
    · simp only [Dk.mk, Dk.upd, if_pos]
      exact L
    · simp only [Dk.mk, Dk.upd, if_neg (old f e)]
      exact h1.fb f e
  · rcases mem f hf with rfl | e
    · simp only [Dk.mk, Dk.upd, if_pos]
      exact Own.nil _ _
    · simp only [Dk.mk, Dk.upd, if_neg (old f e)]
      exact h1.fd f e
  · simp only at e e2
    rcases mem f hf with rfl | h3
    · rw [if_pos rfl] at e
      cases e
    · rw [if_neg (old f h3)] at e
      rcases mem f' hf' with rfl | h4
      · rw [if_pos rfl] at e2
        cases e2
      · rw [if_neg (old f' h4)] at e2
        exact h.ap f h3 f' h4 hne q e e2
  · rcases mem f hf with rfl | e
    · exact hB
    · exact h.fB f e
  · rcases hq with e | e | e | e | ⟨f, hf, e⟩
    · exact .inl (.inl e)
    · exact .inl (.inr (.inl e))
    · exact .inl (.inr (.inr (.inl e)))
    · exact .inl (.inr (.inr (.inr (.inl e))))
    · rcases mem f hf with rfl | h3
      · rcases e with e | e
        · exact .inr (by omega)
        · simp only [if_pos] at e
          cases e
      · rcases e with e | e
        · exact .inl (.inr (.inr (.inr (.inr ⟨f, h3, .inl e⟩))))
        · simp only [if_neg (old f h3)] at e
          exact .inl (.inr (.inr (.inr (.inr ⟨f, h3, .inr e⟩))))
end
set_option maxRecDepth 100000 in
theorem map_eql_some (b : Nat) (W : World) : Sem.run Tryz.prog (binOp BinOp.eql 62 (Value.map (some b)) (Value.map none)) W = .ok (.bool false) W := rfl
set_option maxRecDepth 100000 in
theorem map_eql_none (W : World) : Sem.run Tryz.prog (binOp BinOp.eql 62 (Value.map none) (Value.map none)) W = .ok (.bool true) W := rfl
set_option maxRecDepth 100000 in
theorem run_mkmap (W : World) : Sem.run Tryz.prog (Instr.makeMap 62 none) W = .ok (.map (some W.heap.size)) (W.alloc (.map #[] 0)) := rfl
namespace Dk
theorem cnt_nm (S : DS) : (cnt S).2.nm = S.nm := by
  unfold cnt
  split
  · rfl
  · split <;> rfl
theorem cnt_ch (S : DS) : (cnt S).2.ch = S.ch := by
  unfold cnt
  split
  · rfl
  · split <;> rfl
theorem cnt_ids (S : DS) : (cnt S).2.ids = S.ids := by
  unfold cnt
  split
  · rfl
  · split <;> rfl
theorem cnt_fo (S : DS) : (cnt S).2.fo = S.fo := by
  unfold cnt
  split
  · rfl
  · split <;> rfl
end Dk
theorem ft_cnt {g : Nat} {S : Dk.DS} {M : Mm} {q : Nat} (h : Ft g (Dk.cnt S).2 M q) : Ft g S M q := by
  unfold Ft at h
  rw [Dk.cnt_ids] at h
  exact h
attribute [local go_sem] map_eql_some map_eql_none run_mkmap
set_option maxRecDepth 100000 in
set_option maxHeartbeats 8000000 in
theorem dkcreate_any (B g : Nat) (S : Dk.DS) (M : Mm) (s : ByteArray) (w : World) (h : DM B w g S M) (hB : B ≤ w.heap.size) (hs : s.size ≤ maxLen) (hl : S.armed = true → 0 ≤ S.left ∧ S.left ≤ 9223372036854775807) (hn : S.nm.length ≤ 1000000000) (hc : S.ch.length ≤ 1000000000) :
    Calls Tryz.prog 23 #[.pointer (some ⟨g, 0, none⟩), .string s] w fun e w' => ∃ f, w.heap.size ≤ f ∧ e = .returned (.int .i64 (Dk.crtE S s.data.toList)) ∧ DPost B g S M w (Dk.crt S s.data.toList f) w' := by
  have H0 : Hid (∀ W, Below w.heap.size w W → DM B W g S M) := fun W hW => h.kept hW
  have HS : Hid (s.size ≤ maxLen) := hs
  have HNC : Hid (S.nm.length ≤ 1000000000 ∧ S.ch.length ≤ 1000000000) := ⟨hn, hc⟩
  have HB : Hid (B ≤ w.heap.size) := hB
  have cA : ∀ W, W = w.alloc (.cells #[.string s] 9) → Calls Tryz.prog 39 #[.pointer (some ⟨g, 0, none⟩), .slice (some ⟨w.heap.size, 0, none⟩) 1 1] W fun e w' => e = .returned (.int .i64 (Dk.askE S [s.data.toList])) ∧ w' = W := fun W e => by
    subst e
    exact dkask_any B g S M _ [s] _ (H0.out _ (up0 _ _)) (strs1 w s _) (by simp)
  have HX : Hid (∀ W, W = w.alloc (.cells #[.string s] 9) → W.cell? ⟨g, 2, none⟩ = some (.map M.mn) ∧ (Instr.lookup 62 (.map M.mn) (.string s) false).run Tryz.prog W = .ok (fpo (Dk.get S.nm s.data.toList)) W) := fun W e => by
    subst e
    have h9 := H0.out _ (up0 w (.cells #[.string s] 9))
    exact ⟨h9.box.cell 2 _ rfl, h9.nm.look s hs⟩
  have HCT : Hid (∀ W, Below w.heap.size w W → Calls Tryz.prog 40 #[.pointer (some ⟨g, 0, none⟩)] W fun e w' => e = .returned (.int .i64 (Dk.cnt S).1) ∧ DM B w' g (Dk.cnt S).2 M ∧ IFr W w' (· = g)) := fun W hW => dkcount_any B g S M W (H0.out W hW) hl
  clear h hs hB hn hc hl
  by_cases ha : Dk.askE S [s.data.toList] = 0
  · rw [ha] at cA
    have HA : Hid (Dk.askE S [s.data.toList] = 0) := ha
    cases hg : Dk.get S.nm s.data.toList with
    | some f =>
      have HE : Hid (Dk.crtE S s.data.toList = 62 ∧ ∀ f, Dk.crt S s.data.toList f = S) := by
        refine ⟨?_, fun f => ?_⟩
        · unfold Dk.crtE
          rw [if_pos ha, hg]
          rfl
        · unfold Dk.crt
          rw [if_neg (by rw [hg]; simp)]
      rw [hg] at HX
      clear ha hg HCT
      go_enter Tryz.func23, Tryz.ntmps23
      go_wp2_with fail
      obtain ⟨W, hW⟩ : ∃ W, W = w.alloc (.cells #[.string s] 9) := ⟨_, rfl⟩
      rw [← hW]
      refine (cA W hW).mono ?_
      rintro e w' ⟨rfl, rfl⟩
      have hb : Hid (Below w.heap.size w w') := by rw [hW]; exact up0 _ _
      obtain ⟨y2, yl⟩ := HX.out w' hW
      unfold fpo fp at yl
      clear hW
      go_wp2_with fail
      go_returns
      refine ⟨w.heap.size, Nat.le_refl _, ?_, ?_⟩
      · rw [HE.out.1]
        rfl
      · rw [HE.out.2]
        exact DPost.same (H0.out w (Below.refl _ _)) hb.out
    | none =>
      have HG : Hid (Dk.get S.nm s.data.toList = none) := hg
      rw [hg] at HX
      clear ha hg
      go_enter Tryz.func23, Tryz.ntmps23
      go_wp2_with fail
      obtain ⟨W, hW⟩ : ∃ W, W = w.alloc (.cells #[.string s] 9) := ⟨_, rfl⟩
      rw [← hW]
      refine (cA W hW).mono ?_
      rintro e w' ⟨rfl, rfl⟩
      have hb : Hid (Below w.heap.size w w') := by rw [hW]; exact up0 _ _
      obtain ⟨y2, yl⟩ := HX.out w' hW
      unfold fpo at yl
      clear hW cA HX
      go_wp2_with fail
      refine (HCT.out w' hb.out).mono ?_
      rintro e W2 ⟨rfl, d2, f2⟩
      have HD2 : Hid (DM B W2 g (Dk.cnt S).2 M ∧ IFr w W2 (Ft g S M)) := ⟨d2, (IFr.kept hb.out).trans f2 fun _ _ e => .inl e⟩
      clear d2 f2 y2 yl
      by_cases hc0 : (Dk.cnt S).1 = 0
      · have HC0 : Hid ((Dk.cnt S).1 = 0) := hc0
        rw [hc0]
        clear hc0
        have z2 := HD2.out.1.box.cell 2 _ rfl
        have HMB2 : Hid (B ≤ W2.heap.size) := Nat.le_trans HB.out HD2.out.2.size
        cases hm : M.mn with
        | some b =>
          rw [hm] at z2
          have HM : Hid (DM B W2 g (Dk.cnt S).2 { M with mn := some b }) := by rw [← hm]; exact HD2.out.1
          have HF3 : Hid (IFr w W2 (Ft g S M) ∧ ∀ q, Ft g (Dk.cnt S).2 { M with mn := some b } q → Ft g S M q ∨ w.heap.size ≤ q) := ⟨HD2.out.2, fun q hq => .inl (by rw [← hm] at hq; exact ft_cnt hq)⟩
          have HMB := HMB2
          clear hm
          obtain ⟨f, hf⟩ : ∃ f, f = W2.heap.size := ⟨_, rfl⟩
          have kf := (HM.out.mkfile HMB.out).1
          have kg := (HM.out.mkfile HMB.out).2
          rw [← hf] at kf kg
          have HCH : Hid (∀ W, W = W2.alloc (.cells #[.slice none 0 0, .int .i64 0] 75) → Calls Tryz.prog 41 #[.pointer (some ⟨g, 0, none⟩), .agg #[.string ⟨#[]⟩, .string s, .pointer (some ⟨f, 0, none⟩)]] W fun e w' => e = .returned (.tuple #[]) ∧ DPost B g S M w (Dk.crt S s.data.toList f) w') := fun W e => by
            subst e
            have bf := up0 W2 (.cells #[.slice none 0 0, .int .i64 0] 75)
            refine (dkchange_any B g _ _ ⟨#[]⟩ s (some f) _ kf (Nat.le_trans HMB.out bf.size) (show (⟨#[]⟩ : ByteArray).size ≤ maxLen from Nat.zero_le _) HS.out (fun _ => ⟨⟨_, rfl⟩, ⟨f, rfl⟩⟩) (by show (Dk.cnt S).2.nm.length ≤ _; rw [Dk.cnt_nm]; exact HNC.out.1) (by show (Dk.cnt S).2.ch.length ≤ _; rw [Dk.cnt_ch]; exact HNC.out.2)).mono ?_
            rintro e w' ⟨rfl, vc', k1, k2, k3⟩
            refine ⟨rfl, ?_⟩
            have e9 : Dk.crt S s.data.toList f = { Dk.mk (Dk.cnt S).2 f with nm := Dk.Ch.app ⟨[], s.data.toList, some f⟩ (Dk.cnt S).2.nm, ch := (Dk.cnt S).2.ch ++ [⟨[], s.data.toList, some f⟩] } := by
              unfold Dk.crt
              rw [if_pos ⟨HA.out, by rw [HG.out]; rfl⟩, if_pos HC0.out, Dk.cnt_nm, Dk.cnt_ch]
            rw [e9]
            exact DPost.trans (S' := Dk.mk (Dk.cnt S).2 f) (w' := W2.alloc (.cells #[.slice none 0 0, .int .i64 0] 75)) (HF3.out.1.trans (IFr.kept (F := Ft g S M) bf) fun _ _ e => e) (fun q hq => by
              rcases kg q hq with e | e
              · exact HF3.out.2 q e
              · exact .inr (Nat.le_trans HF3.out.1.size (by omega))) ⟨_, k1, k2, k3⟩
          have HFL : Hid (w.heap.size ≤ f) := by rw [hf]; exact HF3.out.1.size
          clear kf kg
          go_wp2_with fail
          rw [← hf]
          refine (HCH.out _ rfl).mono ?_
          rintro e w' ⟨rfl, hpost⟩
          have HPO : Hid (DPost B g S M w (Dk.crt S s.data.toList f) w') := hpost
          have HE : Hid (Dk.crtE S s.data.toList = 0) := by
            show Dk.crtE _ _ = 0
            unfold Dk.crtE
            rw [if_pos HA.out, HG.out]
            exact HC0.out
          clear hpost hf
          go_wp2_with fail
          go_returns
          rw [HE.out]
          exact ⟨f, HFL.out, rfl, HPO.out⟩
        | none =>
          rw [hm] at z2
          have f2 := HD2.out.1.box.free 2
          have k9 := HD2.out.1.mkmap HMB2.out hm
          have b9 := up0 W2 (.map #[] 0)
          have x9 := (HD2.out.1.box.kept b9).cell 2 _ rfl
          have f9 := (HD2.out.1.box.kept b9).free 2
          rw [hm] at x9
          have HK9 : Hid (DM B ((W2.alloc (.map #[] 0)).setCell ⟨g, 2, none⟩ (.map (some W2.heap.size))) g (Dk.cnt S).2 { M with mn := some W2.heap.size } ∧ IFr W2 ((W2.alloc (.map #[] 0)).setCell ⟨g, 2, none⟩ (.map (some W2.heap.size))) (Ft g (Dk.cnt S).2 M) ∧ ∀ q, Ft g (Dk.cnt S).2 { M with mn := some W2.heap.size } q → Ft g (Dk.cnt S).2 M q ∨ W2.heap.size ≤ q) := k9
          clear hm k9 b9
          go_upto_region 11 with fail
          obtain ⟨W3, hW3⟩ : ∃ W, W = (W2.alloc (.map #[] 0)).setCell ⟨g, 2, none⟩ (.map (some W2.heap.size)) := ⟨_, rfl⟩
          rw [← hW3] at HK9 ⊢
          have HM : Hid (DM B W3 g (Dk.cnt S).2 { M with mn := some W2.heap.size }) := HK9.out.1
          have HF3 : Hid (IFr w W3 (Ft g S M) ∧ ∀ q, Ft g (Dk.cnt S).2 { M with mn := some W2.heap.size } q → Ft g S M q ∨ w.heap.size ≤ q) := ⟨HD2.out.2.trans HK9.out.2.1 fun _ _ e => ft_cnt e, fun q hq => by
            rcases HK9.out.2.2 q hq with e | e
            · exact .inl (ft_cnt e)
            · exact .inr (Nat.le_trans HD2.out.2.size e)⟩
          have HMB : Hid (B ≤ W3.heap.size) := Nat.le_trans HB.out HF3.out.1.size
          clear hW3 z2 f2 x9 f9
          obtain ⟨f, hf⟩ : ∃ f, f = W3.heap.size := ⟨_, rfl⟩
          have kf := (HM.out.mkfile HMB.out).1
          have kg := (HM.out.mkfile HMB.out).2
          rw [← hf] at kf kg
          have HCH : Hid (∀ W, W = W3.alloc (.cells #[.slice none 0 0, .int .i64 0] 75) → Calls Tryz.prog 41 #[.pointer (some ⟨g, 0, none⟩), .agg #[.string ⟨#[]⟩, .string s, .pointer (some ⟨f, 0, none⟩)]] W fun e w' => e = .returned (.tuple #[]) ∧ DPost B g S M w (Dk.crt S s.data.toList f) w') := fun W e => by
            subst e
            have bf := up0 W3 (.cells #[.slice none 0 0, .int .i64 0] 75)
            refine (dkchange_any B g _ _ ⟨#[]⟩ s (some f) _ kf (Nat.le_trans HMB.out bf.size) (show (⟨#[]⟩ : ByteArray).size ≤ maxLen from Nat.zero_le _) HS.out (fun _ => ⟨⟨_, rfl⟩, ⟨f, rfl⟩⟩) (by show (Dk.cnt S).2.nm.length ≤ _; rw [Dk.cnt_nm]; exact HNC.out.1) (by show (Dk.cnt S).2.ch.length ≤ _; rw [Dk.cnt_ch]; exact HNC.out.2)).mono ?_
            rintro e w' ⟨rfl, vc', k1, k2, k3⟩
            refine ⟨rfl, ?_⟩
            have e9 : Dk.crt S s.data.toList f = { Dk.mk (Dk.cnt S).2 f with nm := Dk.Ch.app ⟨[], s.data.toList, some f⟩ (Dk.cnt S).2.nm, ch := (Dk.cnt S).2.ch ++ [⟨[], s.data.toList, some f⟩] } := by
              unfold Dk.crt
              rw [if_pos ⟨HA.out, by rw [HG.out]; rfl⟩, if_pos HC0.out, Dk.cnt_nm, Dk.cnt_ch]
            rw [e9]
            exact DPost.trans (S' := Dk.mk (Dk.cnt S).2 f) (w' := W3.alloc (.cells #[.slice none 0 0, .int .i64 0] 75)) (HF3.out.1.trans (IFr.kept (F := Ft g S M) bf) fun _ _ e => e) (fun q hq => by
              rcases kg q hq with e | e
              · exact HF3.out.2 q e
              · exact .inr (Nat.le_trans HF3.out.1.size (by omega))) ⟨_, k1, k2, k3⟩
          have HFL : Hid (w.heap.size ≤ f) := by rw [hf]; exact HF3.out.1.size
          clear kf kg
          go_wp2_with fail
          rw [← hf]
          refine (HCH.out _ rfl).mono ?_
          rintro e w' ⟨rfl, hpost⟩
          have HPO : Hid (DPost B g S M w (Dk.crt S s.data.toList f) w') := hpost
          have HE : Hid (Dk.crtE S s.data.toList = 0) := by
            show Dk.crtE _ _ = 0
            unfold Dk.crtE
            rw [if_pos HA.out, HG.out]
            exact HC0.out
          clear hpost hf
          go_wp2_with fail
          go_returns
          rw [HE.out]
          exact ⟨f, HFL.out, rfl, HPO.out⟩
      · obtain ⟨ce, hce⟩ : ∃ ce, ce = (Dk.cnt S).1 := ⟨_, rfl⟩
        have HE : Hid (Dk.crtE S s.data.toList = ce ∧ ∀ f, Dk.crt S s.data.toList f = (Dk.cnt S).2) := by
          refine ⟨?_, fun f => ?_⟩
          · unfold Dk.crtE
            rw [if_pos HA.out, HG.out, hce]
            rfl
          · unfold Dk.crt
            rw [if_pos ⟨HA.out, by rw [HG.out]; rfl⟩, if_neg hc0]
        rw [← hce] at hc0 ⊢
        have hd : (ce != 0) = true := by simp only [bne_iff_ne, ne_eq]; exact hc0
        clear hc0 hce
        go_wp2_with fail
        go_returns
        refine ⟨w.heap.size, Nat.le_refl _, ?_, ?_⟩
        · rw [HE.out.1]
          rfl
        · rw [HE.out.2]
          exact ⟨M, HD2.out.1, HD2.out.2, fun q hq => .inl (ft_cnt hq)⟩
  · obtain ⟨ae, hae⟩ : ∃ ae, ae = Dk.askE S [s.data.toList] := ⟨_, rfl⟩
    have HE : Hid (Dk.crtE S s.data.toList = ae ∧ ∀ f, Dk.crt S s.data.toList f = S) := by
      refine ⟨?_, fun f => ?_⟩
      · unfold Dk.crtE
        rw [if_neg ha, hae]
      · unfold Dk.crt
        rw [if_neg (fun e => ha e.1)]
    rw [← hae] at cA ha
    have hd : (ae != 0) = true := by simp only [bne_iff_ne, ne_eq]; exact ha
    clear hae ha HX HCT
    go_enter Tryz.func23, Tryz.ntmps23
    go_wp2_with fail
    obtain ⟨W, hW⟩ : ∃ W, W = w.alloc (.cells #[.string s] 9) := ⟨_, rfl⟩
    rw [← hW]
    refine (cA W hW).mono ?_
    rintro e w' ⟨rfl, rfl⟩
    have hb : Hid (Below w.heap.size w w') := by rw [hW]; exact up0 _ _
    clear hW
    go_wp2_with fail
    go_returns
    refine ⟨w.heap.size, Nat.le_refl _, ?_, ?_⟩
    · rw [HE.out.1]
      rfl
    · rw [HE.out.2]
      exact DPost.same (H0.out w (Below.refl _ _)) hb.out
end Go.Proofs.YtppabcihbpbfpaaGreatDoor

/-
  Package disk: a file's bytes and mark are others; Sync, Append.
-/
namespace Go.Proofs.YtppabcihbpbfpaaGreatDoor
open Go Go.RowKit Go.ChangeShapes
open Wb

/-- append of bytes onto a row of its own, its run -/
theorem run_appB (w : World) (ty : TypeId) (B : Nat) (v : Value) (l : List Nat) (h : Own B w v l) (xv : Value) (m : List Nat) (hm : Bs w xv m) (hmax : l.length + m.length ≤ 140737488355328) (hB : B ≤ w.heap.size) : ∃ v' w', (Builtin.append_ #[32, 32] ty #[v, xv]).run Tryz.prog w = .ok v' w' ∧ Own B w' v' (l ++ m) ∧ w.grownBy w' v.ownBlock ∧ (v'.ownBlock = v.ownBlock ∨ v'.ownBlock = some w.heap.size) := by
  obtain ⟨i0, hi, hq⟩ := Option.map_eq_some_iff.1 info5
  simp only [Prod.mk.injEq] at hq
  obtain ⟨ao, cap, rfl, hl, hmx, hn, hc⟩ := hm.shape
  cases ao with
  | none =>
    obtain rfl := hn rfl
    have h0 : m = [] := List.eq_nil_of_length_eq_zero (by omega)
    subst h0
    obtain ⟨a1, c1, rfl, hc1, -⟩ := Mg.row_shape h.row
    refine ⟨_, w, ?_, by simpa using h, World.grownBy.refl _ _, .inl rfl⟩
    cases a1 <;> simp [Builtin.append_, run_underlying Tryz.underlying32, sizeOf, typeInfo, hi, Builtin.lenOf, Builtin.firstCells, hc1, storeCells]
  | some ad =>
    obtain ⟨v', w', hr, h2, h3, -, h5⟩ := run_append_own_at (P := Tryz.prog) w B 32 ty 5 i0 _ 1 1 Tryz.underlying32 hi hq.1 hq.2.1 hq.2.2 rfl (by decide) v l.length (bv l) h.row ad m.length cap (bv m) (by rw [bv_length, Nat.mul_one]) (fun j u hj => by
      have hjl : j < m.length := by have := (List.getElem?_eq_some_iff.1 hj).1; rwa [bv_length] at this
      obtain ⟨b, off, e, hcell⟩ := hc (List.ne_nil_of_length_pos (by omega))
      obtain rfl := Option.some.inj e
      rw [bv_get m j hjl] at hj
      rw [Addr.add_lit, hcell j hjl]
      exact hj) (bv_one m) (by unfold maxLen; omega) (by omega) hB
    refine ⟨v', w', hr, ⟨?_, ok_append h.good hm.good⟩, h3, h5⟩
    rw [List.length_append, bv_append]
    exact h2
section
variable {B : Nat} {w w' : World} {g : Nat} {S : Dk.DS} {M : Mm}
theorem ft_upd {x : Dk.Fl} {f q : Nat} (h : Ft g { S with fo := Dk.upd S.fo f x } M q) : Ft g S M q := h
/-- how many bytes are synced -/
theorem DM.syn (h : DM B w g S M) {f : Nat} (hf : f ∈ S.ids) (n : Nat) : DM B (w.setCell ⟨f, 1, none⟩ (.int .i64 (n : Int))) g { S with fo := Dk.upd S.fo f ⟨(S.fo f).data, n⟩ } M ∧ IFr w (w.setCell ⟨f, 1, none⟩ (.int .i64 (n : Int))) (Ft g S M) := by
  have far : ∀ q, q ≠ f → (w.setCell ⟨f, 1, none⟩ (.int .i64 (n : Int))).heap[q]? = w.heap[q]? := fun q hq => set_other _ _ _ _ hq
  have k := h.fne hf
  refine ⟨⟨(far g (Ne.symm k.1)).trans h.box, h.nm.blk fun b e => far b fun e2 => k.2.1 (by rw [← e2]; exact e), h.la.blk fun b e => far b fun e2 => k.2.2.1 (by rw [← e2]; exact e), Mg.row_block h.ch fun q e => far q fun e2 => k.2.2.2.1 (by rw [← e2]; exact e), fun f' hf' => ?_, fun f' hf' => ?_, h.ap, h.ne, h.gB, h.mB, h.fB⟩, ⟨rfl, rfl, rfl, by simp [World.setCell], fun q _ hn => far q fun e => hn (.inr (.inr (.inr (.inr ⟨f, hf, .inl e⟩))))⟩⟩
  · by_cases e : f' = f
    · subst e
      simp only [Dk.upd, if_pos]
      exact (h.fb f' hf).set 1 _
    · simp only [Dk.upd, if_neg e]
      exact (far f' e).trans (h.fb f' hf')
  · have hd : ((Dk.upd S.fo f ⟨(S.fo f).data, n⟩) f').data = (S.fo f').data := by
      by_cases e : f' = f
      · subst e
        simp [Dk.upd]
      · simp [Dk.upd, e]
    simp only
    rw [hd]
    exact ⟨Mg.row_block (h.fd f' hf').1 fun q e => far q fun e2 => k.2.2.2.2 f' hf' (by rw [← e2]; exact e), (h.fd f' hf').2⟩
/-- other bytes -/
theorem DM.dat (h : DM B w g S M) {f : Nat} (hf : f ∈ S.ids) {W : World} {v' : Value} {l' : List Nat} (hw : IFr w W (fun q => (M.dv f).ownBlock = some q)) (ho : Own B W v' l') (hv : ∀ q, v'.ownBlock = some q → (M.dv f).ownBlock = some q ∨ w.heap.size ≤ q) : DM B (W.setCell ⟨f, 0, none⟩ v') g { S with fo := Dk.upd S.fo f ⟨l', (S.fo f).syn⟩ } { M with dv := fun k => if k = f then v' else M.dv k } ∧ IFr w (W.setCell ⟨f, 0, none⟩ v') (Ft g S M) ∧ ∀ q, Ft g { S with fo := Dk.upd S.fo f ⟨l', (S.fo f).syn⟩ } { M with dv := fun k => if k = f then v' else M.dv k } q → Ft g S M q ∨ w.heap.size ≤ q := by
  have k := h.fne hf
  have fl := (h.fb f hf).lt
  have far : ∀ q, q < w.heap.size → q ≠ f → (M.dv f).ownBlock ≠ some q → (W.setCell ⟨f, 0, none⟩ v').heap[q]? = w.heap[q]? := fun q hq h1 h2 => (set_other _ _ _ _ h1).trans (hw.block q hq h2)
  have LF : LB W f 75 [M.dv f, .int .i64 ((S.fo f).syn : Int)] := (hw.block f fl fun e => k.2.2.2.2 f hf e).trans (h.fb f hf)
  have v'f : ∀ q, v'.ownBlock = some q → q ≠ f := fun q e e2 => by
    rcases hv q e with h9 | h9
    · exact k.2.2.2.2 f hf (h9.trans (congrArg some e2))
    · omega
  refine ⟨⟨(far g h.box.lt (Ne.symm k.1) fun e => (h.dne hf e).1 rfl).trans h.box, h.nm.blk fun b e => far b (h.nm.lt b e) (fun e2 => k.2.1 (by rw [← e2]; exact e)) (fun e2 => (h.dne hf e2).2.1 e), h.la.blk fun b e => far b (h.la.lt b e) (fun e2 => k.2.2.1 (by rw [← e2]; exact e)) (fun e2 => (h.dne hf e2).2.2.1 e), Mg.row_block h.ch fun q e => far q (World.ownsRow.lt h.ch q e).2 (fun e2 => k.2.2.2.1 (by rw [← e2]; exact e)) (fun e2 => (h.dne hf e2).2.2.2 e), fun f' hf' => ?_, fun f' hf' => ?_, fun f1 h1 f2 h2 hne q e e2 => ?_, h.ne, h.gB, h.mB, h.fB⟩, ⟨hw.os, hw.tape, hw.output, by simp only [World.setCell, Array.size_modify]; exact hw.size, fun q hq hn => far q hq (fun e => hn (.inr (.inr (.inr (.inr ⟨f, hf, .inl e⟩))))) (fun e => hn (.inr (.inr (.inr (.inr ⟨f, hf, .inr e⟩)))))⟩, fun q hq => ?_⟩
  · by_cases e : f' = f
    · subst e
      simp only [Dk.upd, if_pos]
      exact LF.set 0 v'
    · simp only [Dk.upd, if_neg e]
      exact (far f' (h.fb f' hf').lt e fun e2 => (h.fne hf').2.2.2.2 f hf e2).trans (h.fb f' hf')
  · by_cases e : f' = f
    · subst e
      simp only [Dk.upd, if_pos]
      exact ⟨Mg.row_block ho.1 fun q e => set_other _ _ _ _ (v'f q e), ho.2⟩
    · simp only [Dk.upd, if_neg e]
      exact ⟨Mg.row_block (h.fd f' hf').1 fun q e3 => far q (World.ownsRow.lt (h.fd f' hf').1 q e3).2 (fun e2 => k.2.2.2.2 f' hf' (by rw [← e2]; exact e3)) (fun e2 => h.ap f hf f' hf' (Ne.symm e) q e2 e3), (h.fd f' hf').2⟩
  · simp only at e e2
    have lt2 : ∀ f2 ∈ S.ids, ∀ q, (M.dv f2).ownBlock = some q → q < w.heap.size := fun f2 h2 q e => (World.ownsRow.lt (h.fd f2 h2).1 q e).2
    by_cases e1 : f1 = f
    · rw [if_pos e1] at e
      have e3 : f2 ≠ f := fun e4 => hne (e1.trans e4.symm)
      rw [if_neg e3] at e2
      rcases hv q e with h9 | h9
      · exact h.ap f hf f2 h2 (Ne.symm e3) q h9 e2
      · have := lt2 f2 h2 q e2
        omega
    · rw [if_neg e1] at e
      by_cases e3 : f2 = f
      · rw [if_pos e3] at e2
        rcases hv q e2 with h9 | h9
        · exact h.ap f hf f1 h1 (Ne.symm e1) q h9 e
        · have := lt2 f1 h1 q e
          omega
      · rw [if_neg e3] at e2
        exact h.ap f1 h1 f2 h2 hne q e e2
  · rcases hq with e | e | e | e | ⟨f1, h1, e⟩
    · exact .inl (.inl e)
    · exact .inl (.inr (.inl e))
    · exact .inl (.inr (.inr (.inl e)))
    · exact .inl (.inr (.inr (.inr (.inl e))))
    · rcases e with e | e
      · exact .inl (.inr (.inr (.inr (.inr ⟨f1, h1, .inl e⟩))))
      · simp only at e
        by_cases e1 : f1 = f
        · rw [if_pos e1] at e
          rcases hv q e with h9 | h9
          · exact .inl (.inr (.inr (.inr (.inr ⟨f, hf, .inr h9⟩))))
          · exact .inr h9
        · rw [if_neg e1] at e
          exact .inl (.inr (.inr (.inr (.inr ⟨f1, h1, .inr e⟩))))
end
end Go.Proofs.YtppabcihbpbfpaaGreatDoor
