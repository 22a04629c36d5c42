/-
  Package disk: change.
-/
import Derived.Test.YtjepeeopjjnglaaDk3
namespace Go.Proofs.Ytjepeeopjjnglaa
open Go Go.RowKit Go.ChangeShapes
open Wb

section
variable {P : Program} {ops : Array Oper} {o : Oper} {a : Act} {w W : World} {K : Act → World → Prop} {Q : Exit → Act → World → Prop} {E : Prop} {v u y : Value}
/-- a step by its run -/
theorem st_run (hgd : o.guard = none) (hr : (execOp a.eval o).run P w = .ok (.value v) W) (h : K (a.put o.dst v) W) : if Region.wanted o (yielded ops a.tmps) = true then Oper.wp P o a w K Q else E := by
  rw [if_pos (by simp [Region.wanted, hgd])]
  unfold Oper.wp
  rw [hr]
  simp [Oper.upon]
  exact h
theorem st_appR (hgd : o.guard = none) (t : TypeId) (s x : Operand) (ho : o.op = .call { callee := .builtin .append, args := #[s, x], argTypes := #[t, t] }) (hs : a.eval s = u) (hx : a.eval x = y) (hr : (Builtin.append_ #[t, t] o.type #[u, y]).run P w = .ok v W) (h : K (a.put o.dst v) W) : if Region.wanted o (yielded ops a.tmps) = true then Oper.wp P o a w K Q else E :=
  st_run hgd (by simp [execOp, ho, resolve, invoke, builtin, hs, hx, hr, Result.andThen]) h
end
theorem drew_bel (W : World) : Below W.heap.size W W.drew := ⟨rfl, rfl, rfl, Nat.le_refl _, fun _ _ => rfl⟩
set_option maxRecDepth 100000 in
set_option maxHeartbeats 4000000 in
/-- d.change(c) -/
theorem dkchange_any (B g : Nat) (S : Dk.DS) (M : Mm) (sF sT : ByteArray) (fo : Option Nat) (w : World) (h : DM B w g S M) (hB : B ≤ w.heap.size) (hF : sF.size ≤ maxLen) (hT : sT.size ≤ maxLen) (hto : sT.data.toList ≠ [] → (∃ b, M.mn = some b) ∧ ∃ f, fo = some f) (hn : S.nm.length ≤ 1000000000) (hc : S.ch.length ≤ 1000000000) :
    Calls Try.prog 54 #[.pointer (some ⟨g, 0, none⟩), .agg #[.string sF, .string sT, fpo fo]] w fun e w' => e = .returned (.tuple #[]) ∧ ∃ vc', DM B w' g { S with nm := Dk.Ch.app ⟨sF.data.toList, sT.data.toList, fo⟩ S.nm, ch := S.ch ++ [⟨sF.data.toList, sT.data.toList, fo⟩] } { M with vc := vc' } ∧ IFr w w' (Ft g S M) ∧ ∀ q, Ft g { S with nm := Dk.Ch.app ⟨sF.data.toList, sT.data.toList, fo⟩ S.nm, ch := S.ch ++ [⟨sF.data.toList, sT.data.toList, fo⟩] } { M with vc := vc' } q → Ft g S M q ∨ w.heap.size ≤ q := by
  have hen : enC ⟨sF.data.toList, sT.data.toList, fo⟩ = [.string sF, .string sT, fpo fo] := by
    unfold enC
    rw [enS_of, enS_of]
  have H0 : Hid (DM B w g S M) := h
  have HD : Hid (∀ W, Below w.heap.size w W → Calls Try.prog 63 #[.agg #[.string sF, .string sT, fpo fo], .map M.mn] W fun e w' => e = .returned (.tuple #[]) ∧ (MpA w' M.mn (Dk.Ch.app ⟨sF.data.toList, sT.data.toList, fo⟩ S.nm) ∧ IFr W w' (fun q => M.mn = some q))) := fun W hW => dkdo_any sF sT fo M.mn S.nm W (h.kept hW).nm hF hT fun e => ⟨(hto e).1, (hto e).2, by unfold maxLen; omega⟩
  have HC : Hid (S.ch.length ≤ 1000000000 ∧ B ≤ w.heap.size) := ⟨hc, hB⟩
  generalize Dk.Ch.mk sF.data.toList sT.data.toList fo = c at hen HD ⊢
  have HEN : Hid (enC c = [.string sF, .string sT, fpo fo]) := hen
  generalize fpo fo = pv at HD HEN ⊢
  obtain ⟨nm', hnm⟩ : ∃ nm', nm' = Dk.Ch.app c S.nm := ⟨_, rfl⟩
  rw [← hnm] at HD ⊢
  clear h hB hF hT hto hn hc hen hnm
  go_enter Try.func54, Try.ntmps54
  go_upto_region 1 with fail
  obtain ⟨q0, hq0⟩ : ∃ q, q = w.heap.size := ⟨_, rfl⟩
  have L0 := lb_new w [.string sF, .string sT, pv] 96
  have b0 := up0 w (.cells #[.string sF, .string sT, pv] 96)
  rw [← hq0] at L0 ⊢
  obtain ⟨W1, hW1⟩ : ∃ W, W = w.alloc (.cells #[.string sF, .string sT, pv] 96) := ⟨_, rfl⟩
  have L1 : LB W1 q0 96 [.string sF, .string sT, pv] := by rw [hW1]; exact L0
  have b1 : Below w.heap.size w W1 := by rw [hW1]; exact b0
  rw [← hW1]
  clear hW1 L0 b0
  have HQ0 : Hid (q0 = w.heap.size) := hq0
  clear hq0
  have L1z := L1.kept (drew_bel W1)
  have b1z := andThen b1 (drew_bel W1)
  obtain ⟨Wz, hWz⟩ : ∃ W, W = W1.drew := ⟨_, rfl⟩
  rw [← hWz] at L1z b1z
  have HSS : Hid (∀ W, LB W q0 96 [.string sF, .string sT, pv] → LB W g 82 (dkc S M) → W.cell? ⟨q0, 0, none⟩ = some (.string sF) ∧ W.cell? ⟨q0, 1, none⟩ = some (.string sT) ∧ W.cell? ⟨q0, 2, none⟩ = some pv ∧ W.cell? ⟨g, 2, none⟩ = some (.map M.mn)) := fun W h1 h2 => ⟨h1.cell 0 _ rfl, h1.cell 1 _ rfl, h1.cell 2 _ rfl, h2.cell 2 _ rfl⟩
  have hS0 := HSS.out Wz L1z (H0.out.kept b1z).box
  have HZ : Hid (LB Wz q0 96 [.string sF, .string sT, pv] ∧ Below w.heap.size w Wz) := ⟨L1z, b1z⟩
  clear L1 b1 L1z b1z
  refine wp_region_held_drew (S := fun W : World => W.cell? ⟨q0, 0, none⟩ = some (.string sF) ∧ W.cell? ⟨q0, 1, none⟩ = some (.string sT) ∧ W.cell? ⟨q0, 2, none⟩ = some pv ∧ W.cell? ⟨g, 2, none⟩ = some (.map M.mn)) (by kernel_rfl) (by rw [← hWz]; exact hS0) (fun _ => ?_)
  rw [← hWz]
  clear hWz
  refine zqk 0 rfl hS0 ?_
  simp only [Act.put, zq1, zq2, zq3, zq4, zq5]
  refine zqk 1 rfl hS0 ?_
  simp only [Act.put, zq1, zq2, zq3, zq4, zq5, zq6]
  refine zqk 2 rfl hS0 ?_
  simp only [Act.put, zq1, zq2, zq3, zq4, zq5, zq6]
  refine zqk 3 rfl hS0 ?_
  simp only [Act.put, zq1, zq2, zq3, zq4, zq5, zq6]
  refine zqk 4 rfl hS0 ?_
  simp only [Act.put, zq1, zq2, zq3, zq4, zq5, zq6]
  refine zqr 5 rfl (fun K hK => ?_)
  refine st_doW rfl 4 8 rfl rfl rfl (HD.out Wz HZ.out.2) ?_
  rintro W2 ⟨m2, f2⟩
  have qne : M.mn ≠ some q0 := fun e => by
    have h1 := H0.out.nm.lt _ e
    have h2 := HQ0.out
    omega
  have L2 : LB W2 q0 96 [.string sF, .string sT, pv] := (f2.block q0 HZ.out.1.lt qne).trans HZ.out.1
  have G2 : LB W2 g 82 (dkc S M) := (f2.block g (H0.out.kept HZ.out.2).box.lt H0.out.gne.1).trans (H0.out.kept HZ.out.2).box
  have hS2 := HSS.out W2 L2 G2
  have F2 : Hid (MpA W2 M.mn nm' ∧ IFr w W2 (fun q => M.mn = some q) ∧ LB W2 q0 96 [.string sF, .string sT, pv] ∧ LB W2 g 82 (dkc S M)) := ⟨m2, (IFr.kept HZ.out.2).trans f2 fun k _ e => e, L2, G2⟩
  refine hK.out _ _ hS2 fun _ => ?_
  simp only [Act.put, zq1, zq2, zq3, zq4, zq5, zq6]
  clear hK K m2 f2 L2 G2 qne hS0 hS2
  refine wpAnyH_done (by kernel_rfl) ?_ _
  go_upto_region 2 with fail
  have M2 := F2.out.2.2.1.kept (drew_bel W2)
  have N2 := F2.out.2.2.2.kept (drew_bel W2)
  obtain ⟨W2z, hW2z⟩ : ∃ W, W = W2.drew := ⟨_, rfl⟩
  have bz : Below W2.heap.size W2 W2z := by rw [hW2z]; exact drew_bel W2
  rw [← hW2z] at M2 N2
  have HS2 : Hid (∀ W, LB W q0 96 [.string sF, .string sT, pv] → W.cell? ⟨q0, 0, none⟩ = some (.string sF) ∧ W.cell? ⟨q0, 1, none⟩ = some (.string sT) ∧ W.cell? ⟨q0, 2, none⟩ = some pv) := fun W h1 => ⟨h1.cell 0 _ rfl, h1.cell 1 _ rfl, h1.cell 2 _ rfl⟩
  have hT0 := HS2.out W2z M2
  have x4 := N2.cell 4 _ rfl
  have b3 := up0 W2z (.cells #[.string sF, .string sT, pv] 96)
  have L3 : LB (W2z.alloc (.cells #[.string sF, .string sT, pv] 96)) W2z.heap.size 96 (enC c) := by
    rw [HEN.out]
    exact lb_new W2z [.string sF, .string sT, pv] 96
  have hT3 := HS2.out _ (M2.kept b3)
  have y4 := (N2.kept b3).cell 4 _ rfl
  have row3 : (W2z.alloc (.cells #[.string sF, .string sT, pv] 96)).ownsRow B 96 3 M.vc S.ch.length (S.ch.flatMap enC) := Mg.row_kept (Mg.row_kept (Mg.row_block H0.out.ch fun q e => F2.out.2.1.block q (World.ownsRow.lt H0.out.ch q e).2 (H0.out.vne e).2.1) bz) b3
  obtain ⟨vc', W4, hr4, r4, g4, v4⟩ := run_app1C _ 80 B M.vc S.ch row3 W2z.heap.size 1 c L3 HC.out.1 (Nat.le_trans HC.out.2 (Nat.le_trans F2.out.2.1.size (Nat.le_trans bz.size b3.size)))
  obtain ⟨va, vk, vp, hve⟩ : ∃ (x : Option Addr) (y z : Nat), vc' = .slice x y z := by
    obtain ⟨x, z, e, -⟩ := Mg.row_shape r4
    exact ⟨x, _, z, e⟩
  subst hve
  have q0l : q0 < W2z.heap.size := M2.lt
  have M4 : LB W4 q0 96 [.string sF, .string sT, pv] := (g4.block q0 (M2.kept b3).lt fun e => by
    have h1 := (World.ownsRow.lt H0.out.ch q0 e.symm).2
    have h2 := HQ0.out
    omega).trans (M2.kept b3)
  have N4 : LB W4 g 82 (dkc S M) := (g4.block g (N2.kept b3).lt fun e => H0.out.gne.2.2 e.symm).trans (N2.kept b3)
  have hT4 := HS2.out W4 M4
  have f4 := N4.free 4
  have w4 := N4.cell 4 _ rfl
  have HFIN : Hid (DM B (W4.setCell ⟨g, 4, none⟩ (.slice va vk vp)) g { S with nm := nm', ch := S.ch ++ [c] } { M with vc := (.slice va vk vp) } ∧ IFr w (W4.setCell ⟨g, 4, none⟩ (.slice va vk vp)) (Ft g S M) ∧ ∀ q, Ft g { S with nm := nm', ch := S.ch ++ [c] } { M with vc := (.slice va vk vp) } q → Ft g S M q ∨ w.heap.size ≤ q) := H0.out.chg F2.out.1 F2.out.2.1 (andThen bz b3) r4 g4 v4
  have HT5 : Hid ((W4.setCell ⟨g, 4, none⟩ (.slice va vk vp)).cell? ⟨q0, 0, none⟩ = some (.string sF) ∧ (W4.setCell ⟨g, 4, none⟩ (.slice va vk vp)).cell? ⟨q0, 1, none⟩ = some (.string sT) ∧ (W4.setCell ⟨g, 4, none⟩ (.slice va vk vp)).cell? ⟨q0, 2, none⟩ = some pv) := HS2.out _ (M4.other ⟨g, 4, none⟩ (.slice va vk vp) fun e : q0 = g => by
    have h1 := H0.out.box.lt
    have h2 := HQ0.out
    omega)
  clear M2 N2 b3 L3 row3 r4 g4 v4 M4 N4 bz q0l
  refine wp_region_held_drew (S := fun W : World => W.cell? ⟨q0, 0, none⟩ = some (.string sF) ∧ W.cell? ⟨q0, 1, none⟩ = some (.string sT) ∧ W.cell? ⟨q0, 2, none⟩ = some pv) (by kernel_rfl) (by rw [← hW2z]; exact hT0) (fun _ => ?_)
  rw [← hW2z]
  clear hW2z
  refine zqk 0 rfl hT0 ?_
  simp only [Act.put, zq1, zq2, zq3, zq4, zq5]
  refine zqk 1 rfl hT0 ?_
  simp only [Act.put, zq1, zq2, zq3, zq4, zq5, zq6]
  refine zqk 2 rfl hT0 ?_
  simp only [Act.put, zq1, zq2, zq3, zq4, zq5, zq6]
  refine zqk 3 rfl hT0 ?_
  simp only [Act.put, zq1, zq2, zq3, zq4, zq5, zq6]
  refine zqk 5 rfl hT0 ?_
  simp only [Act.put, zq1, zq2, zq3, zq4, zq5, zq6]
  refine wpAnyH_ready (rs := [4, 6]) (by kernel_rfl) (by simp) ?_
  refine AllReadyH.cons rfl (fun K hK => ?_) (AllReadyH.cons rfl (fun K hK => ?_) AllReadyH.nil)
  · go_simp
    refine hK.out _ _ hT0 fun _ => ?_
    try simp only [Act.put, zq1, zq2, zq3, zq4, zq5, zq6]
    clear hK K
    refine zqr 6 rfl (fun K hK => ?_)
    go_simp
    refine hK.out _ _ hT3 fun _ => ?_
    try simp only [Act.put, zq1, zq2, zq3, zq4, zq5, zq6]
    clear hK K
    refine zqr 7 rfl (fun K hK => ?_)
    refine st_appR rfl 80 (.tmp 14) (.tmp 16) rfl rfl rfl hr4 ?_
    refine hK.out _ _ hT4 fun _ => ?_
    try simp only [Act.put, zq1, zq2, zq3, zq4, zq5, zq6]
    clear hK K
    refine zqk 8 rfl hT4 ?_
    try simp only [Act.put, zq1, zq2, zq3, zq4, zq5, zq6]
    refine zqk 9 rfl hT4 ?_
    try simp only [Act.put, zq1, zq2, zq3, zq4, zq5, zq6]
    refine zqr 10 rfl (fun K hK => ?_)
    go_simp
    refine hK.out _ _ HT5.out fun _ => ?_
    try simp only [Act.put, zq1, zq2, zq3, zq4, zq5, zq6]
    clear hK K
    refine wpAnyH_done (by kernel_rfl) ?_ _
    clear hr4 x4 y4 f4 hT0 hT3 hT4
    go_wp2
    go_returns
    exact ⟨rfl, .slice va vk vp, HFIN.out⟩
  · go_simp
    refine hK.out _ _ hT3 fun _ => ?_
    try simp only [Act.put, zq1, zq2, zq3, zq4, zq5, zq6]
    clear hK K
    refine zqr 4 rfl (fun K hK => ?_)
    go_simp
    refine hK.out _ _ hT3 fun _ => ?_
    try simp only [Act.put, zq1, zq2, zq3, zq4, zq5, zq6]
    clear hK K
    refine zqr 7 rfl (fun K hK => ?_)
    refine st_appR rfl 80 (.tmp 14) (.tmp 16) rfl rfl rfl hr4 ?_
    refine hK.out _ _ hT4 fun _ => ?_
    try simp only [Act.put, zq1, zq2, zq3, zq4, zq5, zq6]
    clear hK K
    refine zqk 8 rfl hT4 ?_
    try simp only [Act.put, zq1, zq2, zq3, zq4, zq5, zq6]
    refine zqk 9 rfl hT4 ?_
    try simp only [Act.put, zq1, zq2, zq3, zq4, zq5, zq6]
    refine zqr 10 rfl (fun K hK => ?_)
    go_simp
    refine hK.out _ _ HT5.out fun _ => ?_
    try simp only [Act.put, zq1, zq2, zq3, zq4, zq5, zq6]
    clear hK K
    refine wpAnyH_done (by kernel_rfl) ?_ _
    clear hr4 x4 y4 f4 hT0 hT3 hT4
    go_wp2
    go_returns
    exact ⟨rfl, .slice va vk vp, HFIN.out⟩
end Go.Proofs.Ytjepeeopjjnglaa
