import Derived.Test.YtceokpklcfmadaaQK3
/-
  IndexWithin: does: a key is added.
-/
namespace Go.Proofs.Ytceokpklcfmadaa
open Go Go.RowKit Go.ChangeShapes
open Wb
attribute [local go_sem] Oper.semAt_some

/-- a region that draws, in a fence, whatever lies behind it -/
theorem regionIn_ofQ {P : Program} {ops : Array Oper} {n : Nat} {id : Nat} {a : Act} {w : World} {S : World → Prop} {Q : Exit → Act → World → Prop} (hm : P.follows .mixedOrders = true) (hnd : noDefer ops = true) (hS : S w.drew) (h : S w.drew → wpAnyH P .any ops (Exit.then (fun a w => Q .normal a w) (fun _ _ _ => False)) S ops.size (Array.replicate ops.size false) a w.drew) : (Code.region id ops true).wpIn Fence.wide n P Q a w :=
  Code.wpIn_mono (fun e a w h => by cases e <;> first | exact h | exact h.elim) (regionIn_of0 (by rintro ⟨_, _, h⟩; exact h) hm hnd hS h)
theorem st_addW {ops : Array Oper} {o : Oper} {a : Act} {W : World} {K : Act → World → Prop} {Q : Exit → Act → World → Prop} {E : Prop} (hw : Region.wanted o (yielded ops a.tmps) = true) (p q r : Nat) (ho : o.op = .call { callee := .value (.func 11), args := #[.tmp p, .tmp q, .tmp r], argTypes := #[23, 3, 3] }) {u0 u1 u2 : Value} (hp : a.tmps[p]?.getD undef = u0) (hq : a.tmps[q]?.getD undef = u1) (hr : a.tmps[r]?.getD undef = u2) {R : Value → World → Prop} (hC : Calls Try.prog 11 #[u0, u1, u2] W fun e W' => ∃ v', e = .returned v' ∧ R v' W') (h : ∀ v' W', R v' W' → K (a.put o.dst v') W') : if Region.wanted o (yielded ops a.tmps) = true then Oper.wp Try.prog o a W K Q else E := by
  rw [if_pos hw]
  obtain ⟨dst, op', ty, pos, after, guard⟩ := o
  simp only at ho
  subst ho
  have HC : Hid (Calls Try.prog 11 #[u0, u1, u2] W fun e W' => ∃ v', e = .returned v' ∧ R v' W') := hC
  clear hC hw
  go_simp
  refine HC.out.mono ?_
  rintro e W' ⟨v', rfl, r⟩
  exact h v' W' r
/-- what does answers -/
def DoPost (Z gw g b base : Nat) (all : Bool) (lo hi : Int) (n : Nat) (ps : List (Int × Int)) (w w' : World) : Prop := ∃ n' nv' ps', n' ≤ n + 1 ∧ ps'.length ≤ ps.length + 1 ∧ WS Z gw g b base all lo hi n' nv' ps' w' ∧ DF gw b w w'
set_option maxRecDepth 100000 in
set_option maxHeartbeats 8000000 in
theorem ixdoes_add (Z gw g b base n : Nat) (all : Bool) (lo hi : Int) (nv : Value) (ps : List (Int × Int)) (fv : Value) (at_ ky vl sp : Int) (w : World) (h : WS Z gw g b base all lo hi n nv ps w) (hZw : Z ≤ w.heap.size) (hn : n < 900000000) (hl : ps.length ≤ 900000) (hk : (Lit.int .i64 ky).wf = true) (hv : (Lit.int .i64 vl).wf = true) :
    Calls Try.prog 42 #[.pointer (some ⟨gw, 0, none⟩), fv, .agg #[.int .i64 at_, .int .i64 1, .int .i64 ky, .int .i64 vl, .int .i64 sp]] w fun e w' => e = .returned (.bool true) ∧ DoPost Z gw g b base all lo hi n ps w w' := by
  refine callsIn_wide (n := 5) |>.1 ?_
  have HWS : Hid (WS Z gw g b base all lo hi n nv ps w) := h
  have HW1 : Hid (∀ W, W = (w.alloc (.cells #[.int .i64 at_, .int .i64 1, .int .i64 ky, .int .i64 vl, .int .i64 sp] 85)).alloc (.cells #[.bool false] 4) → LB W w.heap.size 85 [.int .i64 at_, .int .i64 1, .int .i64 ky, .int .i64 vl, .int .i64 sp] ∧ LB W (w.heap.size + 1) 4 [.bool false] ∧ Below w.heap.size w W) := fun W e => by
    subst e
    have h1 := lb_new w [.int .i64 at_, .int .i64 1, .int .i64 ky, .int .i64 vl, .int .i64 sp] 85
    have h2 := lb_new (w.alloc (.cells #[.int .i64 at_, .int .i64 1, .int .i64 ky, .int .i64 vl, .int .i64 sp] 85)) [.bool false] 4
    rw [heap_one] at h2
    exact ⟨h1.kept (up0 _ _), h2, up (up0 _ _) _⟩
  have HZ0 : Hid (Z ≤ b ∧ Z ≤ gw ∧ Z ≤ w.heap.size ∧ w.heap.size ≤ w.heap.size + 1 ∧ b < w.heap.size) := ⟨h.zb, h.zg, hZw, Nat.le_succ _, h.mi.blt.2⟩
  have HGL : Hid (gw < w.heap.size) := h.wk.box.lt
  clear h
  refine callsIn_of_wp_marks Try.func42 rfl trivial ?_ rfl
  simp only [Try.ntmps42, List.size_toArray, List.length_cons, List.length_nil, Nat.reduceAdd, Nat.reduceSub, Array.replicate_succ, Array.replicate_zero, List.push_toArray, List.append_toArray, List.nil_append, List.cons_append]
  gi_upto_region 1 with fail
  obtain ⟨W1, hW1⟩ : ∃ W1, W1 = (w.alloc (.cells #[.int .i64 at_, .int .i64 1, .int .i64 ky, .int .i64 vl, .int .i64 sp] 85)).alloc (.cells #[.bool false] 4) := ⟨_, rfl⟩
  rw [← hW1]
  obtain ⟨L5, L6, b1⟩ := HW1.out W1 hW1
  obtain ⟨B5, hB5⟩ : ∃ x, x = w.heap.size := ⟨_, rfl⟩
  obtain ⟨B6, hB6⟩ : ∃ x, x = w.heap.size + 1 := ⟨_, rfl⟩
  rw [← hB6] at L6 HZ0 ⊢
  rw [← hB5] at L5 ⊢
  have HZ : Hid (Z ≤ b ∧ Z ≤ gw ∧ Z ≤ w.heap.size ∧ w.heap.size ≤ B6 ∧ b < w.heap.size) := HZ0.out
  have HNE : Hid (gw ≠ B5 ∧ gw ≠ B6) := ⟨by have := HGL.out; omega, by have := HGL.out; omega⟩
  have HL1 : Hid (LB W1 B5 85 [.int .i64 at_, .int .i64 1, .int .i64 ky, .int .i64 vl, .int .i64 sp] ∧ LB W1 B6 4 [.bool false] ∧ Below w.heap.size w W1) := ⟨L5, L6, b1⟩
  have x51 := L5.cell 1 _ rfl
  clear hW1 HW1 L5 L6 b1 hB5 hB6 HZ0
  gi_upto_region 3 with fail
  have s1 := HWS.out.kept HL1.out.2.2
  obtain ⟨Wz, hWz⟩ : ∃ x, x = W1.drew := ⟨_, rfl⟩
  have bz : Below W1.heap.size W1 Wz := by rw [hWz]; exact ⟨rfl, rfl, rfl, Nat.le_refl _, fun _ _ => rfl⟩
  have hSz : Wz.cell? ⟨gw, 0, none⟩ = some (.pointer (some ⟨g, 0, none⟩)) ∧ Wz.cell? ⟨B5, 2, none⟩ = some (.int .i64 ky) ∧ Wz.cell? ⟨B5, 3, none⟩ = some (.int .i64 vl) := ⟨(s1.kept bz).wk.box.cell 0 _ rfl, (HL1.out.1.kept bz).cell 2 _ rfl, (HL1.out.1.kept bz).cell 3 _ rfl⟩
  have HADD : Hid (Calls Try.prog 11 #[.pointer (some ⟨g, 0, none⟩), .int .i64 ky, .int .i64 vl] Wz fun e w' => ∃ v', e = .returned v' ∧ v' = .tuple #[] ∧ MI w' g b base (n + 1) (Ix.gml (ps ++ [(ky, vl)])) ∧ WK w' gw g all lo hi nv ps ∧ DF gw b w w' ∧ (∀ q, Mrow w' b q → Z ≤ q) ∧ LB w' B5 85 [.int .i64 at_, .int .i64 1, .int .i64 ky, .int .i64 vl, .int .i64 sp] ∧ LB w' B6 4 [.bool false]) := (ixadd_views g b base n (Ix.gml ps) ky vl Wz (s1.kept bz).mi hk hv (by omega)).mono fun e w' ⟨e1, e2, e3, e4, e5⟩ => by
    have sz := s1.kept bz
    obtain ⟨k1, k2, k3⟩ := sz.add (W' := w') (Nat.le_trans HZ.out.2.2.1 (Nat.le_trans HL1.out.2.2.size bz.size)) e3 e4 e5
    have keep : ∀ {q : Nat} {t : TypeId} {D : List Value}, LB Wz q t D → t ≠ 3 → LB w' q t D := fun {q t D} L ht => (e3.block q L.lt fun e => by
      unfold LB at L
      rcases e with e | e
      · subst e
        obtain ⟨es9, clock, hb9, -⟩ := sz.mi.map
        rw [hb9] at L
        cases L
      · obtain ⟨cs2, z2, h4⟩ := sz.mi.rowTI e
        rw [L] at h4
        simp at h4
        exact ht h4.2.1).trans L
    exact ⟨_, e1, rfl, by rw [Ix.gml_snoc]; exact e2, k1, (DF.of (andThen HL1.out.2.2 bz) HZ.out.2.2.2.2).trans k2, k3, keep (HL1.out.1.kept bz) (by decide), keep (HL1.out.2.1.kept bz) (by decide)⟩
  clear s1 bz x51
  refine regionIn_of1 (S := fun W : World => W.cell? ⟨gw, 0, none⟩ = some (.pointer (some ⟨g, 0, none⟩)) ∧ W.cell? ⟨B5, 2, none⟩ = some (.int .i64 ky) ∧ W.cell? ⟨B5, 3, none⟩ = some (.int .i64 vl)) (by kernel_rfl) (by kernel_rfl) (by rw [← hWz]; exact hSz) (fun _ => ?_)
  rw [← hWz]
  clear hWz
  refine zqk 0 rfl hSz ?_
  simp only [Act.put, zq1, zq2, zq3, zq4, zq5]
  refine zqk 1 rfl hSz ?_
  simp only [Act.put, zq1, zq2, zq3, zq4, zq5, zq6]
  refine zqk 2 rfl hSz ?_
  simp only [Act.put, zq1, zq2, zq3, zq4, zq5, zq6]
  refine zqk 3 rfl hSz ?_
  simp only [Act.put, zq1, zq2, zq3, zq4, zq5, zq6]
  refine zqk 4 rfl hSz ?_
  simp only [Act.put, zq1, zq2, zq3, zq4, zq5, zq6]
  refine zqk 5 rfl hSz ?_
  simp only [Act.put, zq1, zq2, zq3, zq4, zq5, zq6]
  refine zqk 6 rfl hSz ?_
  simp only [Act.put, zq1, zq2, zq3, zq4, zq5, zq6]
  refine zqk 7 rfl hSz ?_
  simp only [Act.put, zq1, zq2, zq3, zq4, zq5, zq6]
  refine zqr 8 rfl (fun K hK => ?_)
  refine st_addW rfl 20 22 24 rfl rfl rfl rfl (R := fun v' w' => v' = .tuple #[] ∧ MI w' g b base (n + 1) (Ix.gml (ps ++ [(ky, vl)])) ∧ WK w' gw g all lo hi nv ps ∧ DF gw b w w' ∧ (∀ q, Mrow w' b q → Z ≤ q) ∧ LB w' B5 85 [.int .i64 at_, .int .i64 1, .int .i64 ky, .int .i64 vl, .int .i64 sp] ∧ LB w' B6 4 [.bool false]) HADD.out ?_
  rintro v' W2 ⟨rfl, m2, k2, d2, z2, l5, l6⟩
  refine hK.out _ _ ⟨k2.box.cell 0 _ rfl, l5.cell 2 _ rfl, l5.cell 3 _ rfl⟩ fun _ => ?_
  simp only [Act.put, zq1, zq2, zq3, zq4, zq5, zq6]
  clear hK K HADD hSz
  refine wpAnyH_done (by kernel_rfl) ?_ _
  obtain ⟨Wq, hWq⟩ : ∃ x, x = W2.drew := ⟨_, rfl⟩
  have bq : Below W2.heap.size W2 Wq := by rw [hWq]; exact ⟨rfl, rfl, rfl, Nat.le_refl _, fun _ _ => rfl⟩
  have HMI : Hid (MI Wq g b base (n + 1) (Ix.gml (ps ++ [(ky, vl)]))) := m2.kept bq
  have HWK : Hid (∀ W, Below Wq.heap.size Wq W → MI W g b base (n + 1) (Ix.gml (ps ++ [(ky, vl)])) ∧ LB W gw 80 [.pointer (some ⟨g, 0, none⟩), .bool all, .int .i64 lo, .int .i64 hi, nv]) := fun W hW => ⟨(m2.kept bq).kept hW, (k2.box.kept bq).kept hW⟩
  have HPR : Hid (∀ W, Below Wq.heap.size Wq W → Pr W nv ps ∧ W.cell? ⟨gw, 4, none⟩ = some nv) := fun W hW => ⟨(k2.pr.kept bq).kept hW, ((k2.box.kept bq).kept hW).cell 4 _ rfl⟩
  have HCE : Hid (∀ W, Below Wq.heap.size Wq W → W.cell? ⟨B5, 2, none⟩ = some (.int .i64 ky) ∧ W.cell? ⟨B5, 3, none⟩ = some (.int .i64 vl)) := fun W hW => ⟨((l5.kept bq).kept hW).cell 2 _ rfl, ((l5.kept bq).kept hW).cell 3 _ rfl⟩
  have HB6 : Hid (∀ W, Below Wq.heap.size Wq W → LB W B6 4 [.bool false] ∧ B6 ≠ gw) := fun W hW => ⟨(l6.kept bq).kept hW, fun e => HNE.out.2 e.symm⟩
  have HST : Hid (∀ W, Below Wq.heap.size Wq W → ∀ u, (W.setCell ⟨gw, 4, none⟩ u).cell? ⟨B5, 2, none⟩ = some (.int .i64 ky) ∧ (W.setCell ⟨gw, 4, none⟩ u).cell? ⟨B5, 3, none⟩ = some (.int .i64 vl)) := fun W hW u => by
    have L : LB (W.setCell ⟨gw, 4, none⟩ u) B5 85 [.int .i64 at_, .int .i64 1, .int .i64 ky, .int .i64 vl, .int .i64 sp] := (show _ = _ from set_other _ _ _ _ (fun e => HNE.out.1 e.symm)).trans ((l5.kept bq).kept hW)
    exact ⟨L.cell 2 _ rfl, L.cell 3 _ rfl⟩
  have HDQ : Hid (DF gw b w Wq) := d2.trans (DF.of bq m2.blt.2)
  have HZR : Hid (∀ q, Mrow Wq b q → Z ≤ q) := fun q hq => z2 q (hq.same (bq.block b m2.blt.2))
  have HWF : Hid (∀ p ∈ ps ++ [(ky, vl)], (Lit.int .i64 p.1).wf = true ∧ (Lit.int .i64 p.2).wf = true) := fun p hp => by
    rcases List.mem_append.1 hp with hp | hp
    · exact HWS.out.wf p hp
    · rw [List.mem_singleton.1 hp]
      exact ⟨hk, hv⟩
  have hS0 := HCE.out Wq (Below.refl _ _)
  obtain ⟨va, vc, hve, -⟩ := id (HPR.out Wq (Below.refl _ _)).1
  subst hve
  clear m2 k2 d2 z2 l5 l6 bq HL1 HWS hk hv
  gi_upto_region 4 with fail
  refine regionIn_ofQ (S := fun W : World => W.cell? ⟨B5, 2, none⟩ = some (.int .i64 ky) ∧ W.cell? ⟨B5, 3, none⟩ = some (.int .i64 vl)) (by kernel_rfl) (by kernel_rfl) (by rw [← hWq]; exact hS0) (fun _ => ?_)
  rw [← hWq]
  clear hWq
  refine zqk 0 rfl hS0 ?_
  simp only [Act.put, zq1, zq2, zq3, zq4, zq5]
  refine zqk 1 rfl hS0 ?_
  simp only [Act.put, zq1, zq2, zq3, zq4, zq5, zq6]
  refine zqk 2 rfl hS0 ?_
  simp only [Act.put, zq1, zq2, zq3, zq4, zq5, zq6]
  refine zqk 3 rfl hS0 ?_
  simp only [Act.put, zq1, zq2, zq3, zq4, zq5, zq6]
  refine zqk 6 rfl hS0 ?_
  simp only [Act.put, zq1, zq2, zq3, zq4, zq5, zq6]
  refine zqk 7 rfl hS0 ?_
  simp only [Act.put, zq1, zq2, zq3, zq4, zq5, zq6]
  refine zqk 8 rfl hS0 ?_
  simp only [Act.put, zq1, zq2, zq3, zq4, zq5, zq6]
  refine zqk 9 rfl hS0 ?_
  simp only [Act.put, zq1, zq2, zq3, zq4, zq5, zq6]
  refine zqk 10 rfl hS0 ?_
  simp only [Act.put, zq1, zq2, zq3, zq4, zq5, zq6]
  have hbb : Below Wq.heap.size Wq Wq := Below.refl _ _
  refine wpAnyH_ready (rs := [4, 11]) (by kernel_rfl) (by simp) ?_
  refine AllReadyH.cons rfl (fun K hK => ?_) (AllReadyH.cons rfl (fun K hK => ?_) AllReadyH.nil)
  ·
    have y4 := (HPR.out Wq hbb).2
    go_simp
    refine hK.out _ _ (HCE.out Wq hbb) fun _ => ?_
    try simp only [Act.put, zq1, zq2, zq3, zq4, zq5, zq6]
    clear hK K y4
    refine wpAnyH_ready (rs := [5, 11]) (by kernel_rfl) (by simp) ?_
    refine AllReadyH.cons rfl (fun K hK => ?_) (AllReadyH.cons rfl (fun K hK => ?_) AllReadyH.nil)
    ·
      obtain ⟨v31, Wa, hr31, r31', f31⟩ := run_appCP Wq 55 (.slice va ps.length vc) ps (HPR.out Wq hbb).1 (by omega)
      have r31 := Mg.row_weak r31' hbb.size
      obtain ⟨ad31, cc31, e31, -⟩ := Mg.row_shape r31
      subst e31
      refine st_appR rfl 55 (.const (.slice none 0 0)) (.tmp 30) rfl rfl rfl hr31 ?_
      have hbb2 := andThen hbb f31
      refine hK.out _ _ (HCE.out Wa hbb2) fun _ => ?_
      simp only [Act.put, zq1, zq2, zq3, zq4, zq5, zq6]
      clear hK K hr31 r31'
      replace hbb := hbb2
      clear hbb2
      refine zqr 11 rfl (fun K hK => ?_)
      have u37 := up0 Wa (.cells #[.int .i64 ky, .int .i64 vl] 54)
      have l37' := lb_new Wa [.int .i64 ky, .int .i64 vl] 54
      go_simp
      obtain ⟨Wb, hWb⟩ : ∃ x, x = Wa.alloc (.cells #[.int .i64 ky, .int .i64 vl] 54) := ⟨_, rfl⟩
      have l37 : LB Wb Wa.heap.size 54 (enP (ky, vl)) := by rw [hWb]; exact l37'
      rw [← hWb] at u37 ⊢
      have hbb2 := andThen hbb u37
      refine hK.out _ _ (HCE.out Wb hbb2) fun _ => ?_
      try simp only [Act.put, zq1, zq2, zq3, zq4, zq5, zq6]
      clear hK K l37' hWb
      replace hbb := hbb2
      clear hbb2
      replace r31 := Mg.row_kept r31 u37
      refine zqr 12 rfl (fun K hK => ?_)
      obtain ⟨v38, W3, hr38, r38, g38⟩ := run_app1P Wb 55 Wq.heap.size (.slice ad31 ps.length cc31) ps r31 Wa.heap.size 1 (ky, vl) l37 (by omega) hbb.size
      have hb3 : Below Wq.heap.size Wq W3 := hbb.grown g38 hbb.size fun k e => (World.ownsRow.lt r31 k e).1
      obtain ⟨ad38, cc38, e38, -⟩ := Mg.row_shape r38
      generalize (ps ++ [(ky, vl)]).length = m38 at e38
      refine st_appR rfl 55 (.tmp 31) (.tmp 37) rfl rfl rfl hr38 ?_
      refine hK.out _ _ (HCE.out W3 hb3) fun hS3 => ?_
      subst e38
      simp only [Act.put, zq1, zq2, zq3, zq4, zq5, zq6]
      clear hK K hr38
      refine zqk 13 rfl hS3 ?_
      simp only [Act.put, zq1, zq2, zq3, zq4, zq5, zq6]
      refine zqk 14 rfl hS3 ?_
      simp only [Act.put, zq1, zq2, zq3, zq4, zq5, zq6]
      refine zqr 15 rfl (fun K hK => ?_)
      have L3 := (HWK.out W3 hb3).2
      have y3 := L3.cell 4 _ rfl
      have f3 := L3.free 4
      obtain ⟨s3, d3⟩ := WS.store (Z := Z) (n := n + 1) (HWK.out W3 hb3).1 L3 r38 HWF.out HZ.out.1 HZ.out.2.1 (fun q hq => HZR.out q (hq.same (hb3.block b (HMI.out.blt.2))))
      have L6 : LB (W3.setCell ⟨gw, 4, none⟩ (.slice ad38 m38 cc38)) B6 4 [.bool false] := (show _ = _ from set_other _ _ _ _ (HB6.out W3 hb3).2).trans (HB6.out W3 hb3).1
      have HFIN : Hid (WS Z gw g b base all lo hi (n + 1) (.slice ad38 m38 cc38) (ps ++ [(ky, vl)]) (W3.setCell ⟨gw, 4, none⟩ (.slice ad38 m38 cc38)) ∧ DF gw b w (W3.setCell ⟨gw, 4, none⟩ (.slice ad38 m38 cc38)) ∧ LB (W3.setCell ⟨gw, 4, none⟩ (.slice ad38 m38 cc38)) B6 4 [.bool false]) := ⟨s3, (HDQ.out.trans (DF.of hb3 HMI.out.blt.2)).trans d3, L6⟩
      have HSX : Hid ((W3.setCell ⟨gw, 4, none⟩ (.slice ad38 m38 cc38)).cell? ⟨B5, 2, none⟩ = some (.int .i64 ky) ∧ (W3.setCell ⟨gw, 4, none⟩ (.slice ad38 m38 cc38)).cell? ⟨B5, 3, none⟩ = some (.int .i64 vl)) := HST.out W3 hb3 _
      clear L3 s3 d3 L6 r38 g38 r31 l37 hbb hb3
      go_simp
      refine hK.out _ _ HSX.out fun _ => ?_
      try simp only [Act.put, zq1, zq2, zq3, zq4, zq5, zq6]
      clear hK K
      refine wpAnyH_done (by kernel_rfl) ?_ _
      clear y3 f3 hS3
      generalize W3.setCell ⟨gw, 4, none⟩ (.slice ad38 m38 cc38) = W4 at HFIN ⊢
      have y6 := HFIN.out.2.2.cell 0 _ rfl
      have f6 := HFIN.out.2.2.free 0
      have HLAST : Hid (WS Z gw g b base all lo hi (n + 1) (.slice ad38 m38 cc38) (ps ++ [(ky, vl)]) (W4.setCell ⟨B6, 0, none⟩ (.bool true)) ∧ DF gw b w (W4.setCell ⟨B6, 0, none⟩ (.bool true)) ∧ LB (W4.setCell ⟨B6, 0, none⟩ (.bool true)) B6 4 [.bool true]) := ⟨HFIN.out.1.box HFIN.out.2.2 (Nat.le_trans HZ.out.2.2.1 HZ.out.2.2.2.1) (by decide) (by decide) (by decide) (by decide) 0 _, HFIN.out.2.1.box HFIN.out.2.2 HZ.out.2.2.2.1 HZ.out.2.2.2.2 (by decide) 0 _, HFIN.out.2.2.set 0 _⟩
      gi_wp2
      generalize W4.setCell ⟨B6, 0, none⟩ (.bool true) = W5 at HLAST ⊢
      have z6 := HLAST.out.2.2.cell 0 _ rfl
      refine ⟨.bool true, ?_, rfl, _, _, _, (Nat.le_refl _), (by simp), HLAST.out.1, HLAST.out.2.1⟩
      simp [results, Try.f42, go_sem, z6]
    ·
      have u37 := up0 Wq (.cells #[.int .i64 ky, .int .i64 vl] 54)
      have l37' := lb_new Wq [.int .i64 ky, .int .i64 vl] 54
      go_simp
      obtain ⟨Wa, hWa⟩ : ∃ x, x = Wq.alloc (.cells #[.int .i64 ky, .int .i64 vl] 54) := ⟨_, rfl⟩
      have l37 : LB Wa Wq.heap.size 54 (enP (ky, vl)) := by rw [hWa]; exact l37'
      rw [← hWa] at u37 ⊢
      have hbb2 := andThen hbb u37
      refine hK.out _ _ (HCE.out Wa hbb2) fun _ => ?_
      try simp only [Act.put, zq1, zq2, zq3, zq4, zq5, zq6]
      clear hK K l37' hWa
      replace hbb := hbb2
      clear hbb2
      refine zqr 5 rfl (fun K hK => ?_)
      obtain ⟨v31, Wb, hr31, r31', f31⟩ := run_appCP Wa 55 (.slice va ps.length vc) ps (HPR.out Wa hbb).1 (by omega)
      have r31 := Mg.row_weak r31' hbb.size
      obtain ⟨ad31, cc31, e31, -⟩ := Mg.row_shape r31
      subst e31
      refine st_appR rfl 55 (.const (.slice none 0 0)) (.tmp 30) rfl rfl rfl hr31 ?_
      have hbb2 := andThen hbb f31
      refine hK.out _ _ (HCE.out Wb hbb2) fun _ => ?_
      simp only [Act.put, zq1, zq2, zq3, zq4, zq5, zq6]
      clear hK K hr31 r31'
      replace hbb := hbb2
      clear hbb2
      replace l37 := l37.kept f31
      refine zqr 12 rfl (fun K hK => ?_)
      obtain ⟨v38, W3, hr38, r38, g38⟩ := run_app1P Wb 55 Wq.heap.size (.slice ad31 ps.length cc31) ps r31 Wq.heap.size 1 (ky, vl) l37 (by omega) hbb.size
      have hb3 : Below Wq.heap.size Wq W3 := hbb.grown g38 hbb.size fun k e => (World.ownsRow.lt r31 k e).1
      obtain ⟨ad38, cc38, e38, -⟩ := Mg.row_shape r38
      generalize (ps ++ [(ky, vl)]).length = m38 at e38
      refine st_appR rfl 55 (.tmp 31) (.tmp 37) rfl rfl rfl hr38 ?_
      refine hK.out _ _ (HCE.out W3 hb3) fun hS3 => ?_
      subst e38
      simp only [Act.put, zq1, zq2, zq3, zq4, zq5, zq6]
      clear hK K hr38
      refine zqk 13 rfl hS3 ?_
      simp only [Act.put, zq1, zq2, zq3, zq4, zq5, zq6]
      refine zqk 14 rfl hS3 ?_
      simp only [Act.put, zq1, zq2, zq3, zq4, zq5, zq6]
      refine zqr 15 rfl (fun K hK => ?_)
      have L3 := (HWK.out W3 hb3).2
      have y3 := L3.cell 4 _ rfl
      have f3 := L3.free 4
      obtain ⟨s3, d3⟩ := WS.store (Z := Z) (n := n + 1) (HWK.out W3 hb3).1 L3 r38 HWF.out HZ.out.1 HZ.out.2.1 (fun q hq => HZR.out q (hq.same (hb3.block b (HMI.out.blt.2))))
      have L6 : LB (W3.setCell ⟨gw, 4, none⟩ (.slice ad38 m38 cc38)) B6 4 [.bool false] := (show _ = _ from set_other _ _ _ _ (HB6.out W3 hb3).2).trans (HB6.out W3 hb3).1
      have HFIN : Hid (WS Z gw g b base all lo hi (n + 1) (.slice ad38 m38 cc38) (ps ++ [(ky, vl)]) (W3.setCell ⟨gw, 4, none⟩ (.slice ad38 m38 cc38)) ∧ DF gw b w (W3.setCell ⟨gw, 4, none⟩ (.slice ad38 m38 cc38)) ∧ LB (W3.setCell ⟨gw, 4, none⟩ (.slice ad38 m38 cc38)) B6 4 [.bool false]) := ⟨s3, (HDQ.out.trans (DF.of hb3 HMI.out.blt.2)).trans d3, L6⟩
      have HSX : Hid ((W3.setCell ⟨gw, 4, none⟩ (.slice ad38 m38 cc38)).cell? ⟨B5, 2, none⟩ = some (.int .i64 ky) ∧ (W3.setCell ⟨gw, 4, none⟩ (.slice ad38 m38 cc38)).cell? ⟨B5, 3, none⟩ = some (.int .i64 vl)) := HST.out W3 hb3 _
      clear L3 s3 d3 L6 r38 g38 r31 l37 hbb hb3
      go_simp
      refine hK.out _ _ HSX.out fun _ => ?_
      try simp only [Act.put, zq1, zq2, zq3, zq4, zq5, zq6]
      clear hK K
      refine wpAnyH_done (by kernel_rfl) ?_ _
      clear y3 f3 hS3
      generalize W3.setCell ⟨gw, 4, none⟩ (.slice ad38 m38 cc38) = W4 at HFIN ⊢
      have y6 := HFIN.out.2.2.cell 0 _ rfl
      have f6 := HFIN.out.2.2.free 0
      have HLAST : Hid (WS Z gw g b base all lo hi (n + 1) (.slice ad38 m38 cc38) (ps ++ [(ky, vl)]) (W4.setCell ⟨B6, 0, none⟩ (.bool true)) ∧ DF gw b w (W4.setCell ⟨B6, 0, none⟩ (.bool true)) ∧ LB (W4.setCell ⟨B6, 0, none⟩ (.bool true)) B6 4 [.bool true]) := ⟨HFIN.out.1.box HFIN.out.2.2 (Nat.le_trans HZ.out.2.2.1 HZ.out.2.2.2.1) (by decide) (by decide) (by decide) (by decide) 0 _, HFIN.out.2.1.box HFIN.out.2.2 HZ.out.2.2.2.1 HZ.out.2.2.2.2 (by decide) 0 _, HFIN.out.2.2.set 0 _⟩
      gi_wp2
      generalize W4.setCell ⟨B6, 0, none⟩ (.bool true) = W5 at HLAST ⊢
      have z6 := HLAST.out.2.2.cell 0 _ rfl
      refine ⟨.bool true, ?_, rfl, _, _, _, (Nat.le_refl _), (by simp), HLAST.out.1, HLAST.out.2.1⟩
      simp [results, Try.f42, go_sem, z6]
  ·
    have u37 := up0 Wq (.cells #[.int .i64 ky, .int .i64 vl] 54)
    have l37' := lb_new Wq [.int .i64 ky, .int .i64 vl] 54
    go_simp
    obtain ⟨Wa, hWa⟩ : ∃ x, x = Wq.alloc (.cells #[.int .i64 ky, .int .i64 vl] 54) := ⟨_, rfl⟩
    have l37 : LB Wa Wq.heap.size 54 (enP (ky, vl)) := by rw [hWa]; exact l37'
    rw [← hWa] at u37 ⊢
    have hbb2 := andThen hbb u37
    refine hK.out _ _ (HCE.out Wa hbb2) fun _ => ?_
    try simp only [Act.put, zq1, zq2, zq3, zq4, zq5, zq6]
    clear hK K l37' hWa
    replace hbb := hbb2
    clear hbb2
    refine zqr 4 rfl (fun K hK => ?_)
    have y4 := (HPR.out Wa hbb).2
    go_simp
    refine hK.out _ _ (HCE.out Wa hbb) fun _ => ?_
    try simp only [Act.put, zq1, zq2, zq3, zq4, zq5, zq6]
    clear hK K y4
    refine zqr 5 rfl (fun K hK => ?_)
    obtain ⟨v31, Wb, hr31, r31', f31⟩ := run_appCP Wa 55 (.slice va ps.length vc) ps (HPR.out Wa hbb).1 (by omega)
    have r31 := Mg.row_weak r31' hbb.size
    obtain ⟨ad31, cc31, e31, -⟩ := Mg.row_shape r31
    subst e31
    refine st_appR rfl 55 (.const (.slice none 0 0)) (.tmp 30) rfl rfl rfl hr31 ?_
    have hbb2 := andThen hbb f31
    refine hK.out _ _ (HCE.out Wb hbb2) fun _ => ?_
    simp only [Act.put, zq1, zq2, zq3, zq4, zq5, zq6]
    clear hK K hr31 r31'
    replace hbb := hbb2
    clear hbb2
    replace l37 := l37.kept f31
    refine zqr 12 rfl (fun K hK => ?_)
    obtain ⟨v38, W3, hr38, r38, g38⟩ := run_app1P Wb 55 Wq.heap.size (.slice ad31 ps.length cc31) ps r31 Wq.heap.size 1 (ky, vl) l37 (by omega) hbb.size
    have hb3 : Below Wq.heap.size Wq W3 := hbb.grown g38 hbb.size fun k e => (World.ownsRow.lt r31 k e).1
    obtain ⟨ad38, cc38, e38, -⟩ := Mg.row_shape r38
    generalize (ps ++ [(ky, vl)]).length = m38 at e38
    refine st_appR rfl 55 (.tmp 31) (.tmp 37) rfl rfl rfl hr38 ?_
    refine hK.out _ _ (HCE.out W3 hb3) fun hS3 => ?_
    subst e38
    simp only [Act.put, zq1, zq2, zq3, zq4, zq5, zq6]
    clear hK K hr38
    refine zqk 13 rfl hS3 ?_
    simp only [Act.put, zq1, zq2, zq3, zq4, zq5, zq6]
    refine zqk 14 rfl hS3 ?_
    simp only [Act.put, zq1, zq2, zq3, zq4, zq5, zq6]
    refine zqr 15 rfl (fun K hK => ?_)
    have L3 := (HWK.out W3 hb3).2
    have y3 := L3.cell 4 _ rfl
    have f3 := L3.free 4
    obtain ⟨s3, d3⟩ := WS.store (Z := Z) (n := n + 1) (HWK.out W3 hb3).1 L3 r38 HWF.out HZ.out.1 HZ.out.2.1 (fun q hq => HZR.out q (hq.same (hb3.block b (HMI.out.blt.2))))
    have L6 : LB (W3.setCell ⟨gw, 4, none⟩ (.slice ad38 m38 cc38)) B6 4 [.bool false] := (show _ = _ from set_other _ _ _ _ (HB6.out W3 hb3).2).trans (HB6.out W3 hb3).1
    have HFIN : Hid (WS Z gw g b base all lo hi (n + 1) (.slice ad38 m38 cc38) (ps ++ [(ky, vl)]) (W3.setCell ⟨gw, 4, none⟩ (.slice ad38 m38 cc38)) ∧ DF gw b w (W3.setCell ⟨gw, 4, none⟩ (.slice ad38 m38 cc38)) ∧ LB (W3.setCell ⟨gw, 4, none⟩ (.slice ad38 m38 cc38)) B6 4 [.bool false]) := ⟨s3, (HDQ.out.trans (DF.of hb3 HMI.out.blt.2)).trans d3, L6⟩
    have HSX : Hid ((W3.setCell ⟨gw, 4, none⟩ (.slice ad38 m38 cc38)).cell? ⟨B5, 2, none⟩ = some (.int .i64 ky) ∧ (W3.setCell ⟨gw, 4, none⟩ (.slice ad38 m38 cc38)).cell? ⟨B5, 3, none⟩ = some (.int .i64 vl)) := HST.out W3 hb3 _
    clear L3 s3 d3 L6 r38 g38 r31 l37 hbb hb3
    go_simp
    refine hK.out _ _ HSX.out fun _ => ?_
    try simp only [Act.put, zq1, zq2, zq3, zq4, zq5, zq6]
    clear hK K
    refine wpAnyH_done (by kernel_rfl) ?_ _
    clear y3 f3 hS3
    generalize W3.setCell ⟨gw, 4, none⟩ (.slice ad38 m38 cc38) = W4 at HFIN ⊢
    have y6 := HFIN.out.2.2.cell 0 _ rfl
    have f6 := HFIN.out.2.2.free 0
    have HLAST : Hid (WS Z gw g b base all lo hi (n + 1) (.slice ad38 m38 cc38) (ps ++ [(ky, vl)]) (W4.setCell ⟨B6, 0, none⟩ (.bool true)) ∧ DF gw b w (W4.setCell ⟨B6, 0, none⟩ (.bool true)) ∧ LB (W4.setCell ⟨B6, 0, none⟩ (.bool true)) B6 4 [.bool true]) := ⟨HFIN.out.1.box HFIN.out.2.2 (Nat.le_trans HZ.out.2.2.1 HZ.out.2.2.2.1) (by decide) (by decide) (by decide) (by decide) 0 _, HFIN.out.2.1.box HFIN.out.2.2 HZ.out.2.2.2.1 HZ.out.2.2.2.2 (by decide) 0 _, HFIN.out.2.2.set 0 _⟩
    gi_wp2
    generalize W4.setCell ⟨B6, 0, none⟩ (.bool true) = W5 at HLAST ⊢
    have z6 := HLAST.out.2.2.cell 0 _ rfl
    refine ⟨.bool true, ?_, rfl, _, _, _, (Nat.le_refl _), (by simp), HLAST.out.1, HLAST.out.2.1⟩
    simp [results, Try.f42, go_sem, z6]
end Go.Proofs.Ytceokpklcfmadaa

/-
  IndexWithin: does: a key is dropped; no act.
-/
namespace Go.Proofs.Ytceokpklcfmadaa
open Go Go.RowKit Go.ChangeShapes Go.ChangeMaps Go.WideElems Go.Maps
open Wb
attribute [local go_sem] Oper.semAt_some

/-- a key goes: what the map holds then it held -/
theorem MI.dropV {w w' : World} {g b base n : Nat} {kvs : Ix.Gm} (h : MI w g b base n kvs) (k : Int) (hk : (Lit.int .i64 k).wf = true) (ty : TypeId) (hr : (Builtin.delete_ #[97, 3] ty #[.map (some b), .int .i64 k]).run Try.prog w = .ok (.tuple #[]) w') : ∀ v, Mval w' b v → Mval w b v := by
  obtain ⟨es, clock, hb, F, -⟩ := h.map
  obtain ⟨es', hrun, -, -, -, -, hwho⟩ := fit_drop_who (ty := ty) lawI Try.underlying97 hb F (keyI hk)
  rw [hr] at hrun
  injection hrun with _ e2
  subst e2
  rintro v ⟨es9, c9, hb9, x, hx, hv⟩
  rw [heap_setBlock_same hb _] at hb9
  cases hb9
  exact ⟨es, clock, hb, x, ((hwho x).1 hx).1, hv⟩
set_option maxRecDepth 100000 in
set_option maxHeartbeats 2000000 in
theorem ixdrop_views (g b base n : Nat) (kvs : Ix.Gm) (k : Int) (w : World) (h : MI w g b base n kvs) (hk : (Lit.int .i64 k).wf = true) (hn : n < 1000000000) :
    Calls Try.prog 15 #[.pointer (some ⟨g, 0, none⟩), .int .i64 k] w fun e w' => e = .returned (.int .i64 ((Ix.get kvs k).length : Int)) ∧ MI w' g b base n (Ix.del kvs k) ∧ IFr w w' (fun q => q = b) ∧ (∀ q, Mrow w' b q → Mrow w b q) ∧ ∀ v, Mval w' b v → Mval w b v := by
  obtain ⟨v, hr, hoi, hvl, -, -⟩ := h.at k hk hn
  obtain ⟨c9, e9⟩ := ints_shape hoi
  have e8 : c9.2.1 = (Ix.get kvs k).length := by
    rcases hoi.1.2 with ⟨e7, h7⟩ | ⟨g7, c7, u7, e7, -⟩
    · rw [e9] at e7
      simp only [Value.slice.injEq] at e7
      omega
    · rw [e9] at e7
      simp only [Value.slice.injEq] at e7
      omega
  rw [e9, e8] at hr
  obtain ⟨w', hd, H9⟩ := h.drop k hk 0
  have HE : Hid (MI w' g b base n (Ix.del kvs k) ∧ IFr w w' (fun q => q = b) ∧ (∀ q, Mrow w' b q → Mrow w b q) ∧ ∀ v, Mval w' b v → Mval w b v) := ⟨H9.1, H9.2.1, H9.2.2, h.dropV k hk 0 hd⟩
  have x0 := h.box.cell 0 _ rfl
  generalize (Ix.get kvs k).length = m at *
  clear h H9 hoi e9 e8
  go_enter Try.func15, Try.ntmps15
  go_wp2_with fail
  go_returns
  exact ⟨rfl, HE.out⟩
/-- append onto nil of a list of pairs, in a fence -/
theorem wpListIn_appCP {F : Fence} {nF : Nat} (w : World) {ops : Array Oper} {rest : List Oper} {o : Oper} {a : Act} {Q : Exit → Act → World → Prop} (hgd : o.guard = none) (x : Operand)
    (ho : o.op = .call { callee := .builtin .append, args := #[.const (.slice none 0 0), x], argTypes := #[55, 55] })
    (v : Value) (ps : List (Int × Int)) (hx : a.eval x = v) (h : Pr w v ps) (hl : ps.length ≤ 1000000)
    (hK : ∀ a' c', ∀ m' : Nat, ∀ w', w'.ownsRow w.heap.size 54 2 (.slice a' m' c') ps.length (ps.flatMap enP) → Below w.heap.size w w' → wpListIn F nF Try.prog ops Q rest (a.put o.dst (.slice a' m' c')) w') : wpListIn F nF Try.prog ops Q (o :: rest) a w := by
  obtain ⟨v', w', hr, h1, h2⟩ := run_appCP w o.type v ps h hl
  obtain ⟨ad, c', e, -⟩ := Mg.row_shape h1
  subst e
  refine wpListIn_plain hgd fun K hK' => ?_
  unfold Oper.wpIn
  refine ⟨by simp [Oper.about, ho, resolve, Target.leads, Sem.run_pure], ?_⟩
  rw [Oper.semAt_plain F _ _ (by rw [ho]; intro c hc'; cases hc')]
  have he : a.eval (.const (.slice none 0 0)) = .slice none 0 0 := rfl
  simp [execOp, ho, resolve, invoke, builtin, he, hx, hr, Result.andThen]
  exact hK' _ _ (hK ad c' _ w' h1 h2)
theorem st_rdropW {ops : Array Oper} {o : Oper} {a : Act} {W : World} {K : Act → World → Prop} {Q : Exit → Act → World → Prop} {E : Prop} (hw : Region.wanted o (yielded ops a.tmps) = true) (p q : Nat) (ho : o.op = .call { callee := .value (.func 31), args := #[.tmp p, .tmp q], argTypes := #[55, 3] }) {u0 u1 : Value} (hp : a.tmps[p]?.getD undef = u0) (hq : a.tmps[q]?.getD undef = u1) {R : Value → World → Prop} (hC : Calls Try.prog 31 #[u0, u1] W fun e W' => ∃ v', e = .returned v' ∧ R v' W') (h : ∀ v' W', R v' W' → K (a.put o.dst v') W') : if Region.wanted o (yielded ops a.tmps) = true then Oper.wp Try.prog o a W K Q else E := by
  rw [if_pos hw]
  obtain ⟨dst, op', ty, pos, after, guard⟩ := o
  simp only at ho
  subst ho
  have HC : Hid (Calls Try.prog 31 #[u0, u1] W fun e W' => ∃ v', e = .returned v' ∧ R v' W') := hC
  clear hC hw
  go_simp
  refine HC.out.mono ?_
  rintro e W' ⟨v', rfl, r⟩
  exact h v' W' r
theorem st_dropW {ops : Array Oper} {o : Oper} {a : Act} {W : World} {K : Act → World → Prop} {Q : Exit → Act → World → Prop} {E : Prop} (hw : Region.wanted o (yielded ops a.tmps) = true) (p q : Nat) (ho : o.op = .call { callee := .value (.func 15), args := #[.tmp p, .tmp q], argTypes := #[23, 3] }) {u0 u1 : Value} (hp : a.tmps[p]?.getD undef = u0) (hq : a.tmps[q]?.getD undef = u1) {R : Value → World → Prop} (hC : Calls Try.prog 15 #[u0, u1] W fun e W' => ∃ v', e = .returned v' ∧ R v' W') (h : ∀ v' W', R v' W' → K (a.put o.dst v') W') : if Region.wanted o (yielded ops a.tmps) = true then Oper.wp Try.prog o a W K Q else E := by
  rw [if_pos hw]
  obtain ⟨dst, op', ty, pos, after, guard⟩ := o
  simp only at ho
  subst ho
  have HC : Hid (Calls Try.prog 15 #[u0, u1] W fun e W' => ∃ v', e = .returned v' ∧ R v' W') := hC
  clear hC hw
  go_simp
  refine HC.out.mono ?_
  rintro e W' ⟨v', rfl, r⟩
  exact h v' W' r
set_option maxRecDepth 100000 in
set_option maxHeartbeats 8000000 in
theorem ixdoes_drop (Z gw g b base n : Nat) (all : Bool) (lo hi : Int) (nv : Value) (ps : List (Int × Int)) (fv : Value) (at_ ky vl sp : Int) (w : World) (h : WS Z gw g b base all lo hi n nv ps w) (hZw : Z ≤ w.heap.size) (hn : n < 900000000) (hl : ps.length ≤ 900000) (hk : (Lit.int .i64 ky).wf = true) :
    Calls Try.prog 42 #[.pointer (some ⟨gw, 0, none⟩), fv, .agg #[.int .i64 at_, .int .i64 2, .int .i64 ky, .int .i64 vl, .int .i64 sp]] w fun e w' => e = .returned (.bool true) ∧ DoPost Z gw g b base all lo hi n ps w w' := by
  obtain ⟨va, vc, hve, -⟩ := id h.wk.pr
  subst hve
  have HWP : Hid (∀ p ∈ ps, (Lit.int .i64 p.1).wf = true ∧ (Lit.int .i64 p.2).wf = true) := h.wf
  refine callsIn_wide (n := 5) |>.1 ?_
  have HWS : Hid (WS Z gw g b base all lo hi n (.slice va ps.length vc) ps w) := h
  have HW1 : Hid (∀ W, W = (w.alloc (.cells #[.int .i64 at_, .int .i64 2, .int .i64 ky, .int .i64 vl, .int .i64 sp] 85)).alloc (.cells #[.bool false] 4) → LB W w.heap.size 85 [.int .i64 at_, .int .i64 2, .int .i64 ky, .int .i64 vl, .int .i64 sp] ∧ LB W (w.heap.size + 1) 4 [.bool false] ∧ Below w.heap.size w W) := fun W e => by
    subst e
    have h1 := lb_new w [.int .i64 at_, .int .i64 2, .int .i64 ky, .int .i64 vl, .int .i64 sp] 85
    have h2 := lb_new (w.alloc (.cells #[.int .i64 at_, .int .i64 2, .int .i64 ky, .int .i64 vl, .int .i64 sp] 85)) [.bool false] 4
    rw [heap_one] at h2
    exact ⟨h1.kept (up0 _ _), h2, up (up0 _ _) _⟩
  have HZ0 : Hid (Z ≤ b ∧ Z ≤ gw ∧ Z ≤ w.heap.size ∧ w.heap.size ≤ w.heap.size + 1 ∧ b < w.heap.size) := ⟨h.zb, h.zg, hZw, Nat.le_succ _, h.mi.blt.2⟩
  have HGL : Hid (gw < w.heap.size) := h.wk.box.lt
  clear h
  refine callsIn_of_wp_marks Try.func42 rfl trivial ?_ rfl
  simp only [Try.ntmps42, List.size_toArray, List.length_cons, List.length_nil, Nat.reduceAdd, Nat.reduceSub, Array.replicate_succ, Array.replicate_zero, List.push_toArray, List.append_toArray, List.nil_append, List.cons_append]
  gi_upto_region 1 with fail
  obtain ⟨W1, hW1⟩ : ∃ W1, W1 = (w.alloc (.cells #[.int .i64 at_, .int .i64 2, .int .i64 ky, .int .i64 vl, .int .i64 sp] 85)).alloc (.cells #[.bool false] 4) := ⟨_, rfl⟩
  rw [← hW1]
  obtain ⟨L5, L6, b1⟩ := HW1.out W1 hW1
  obtain ⟨B5, hB5⟩ : ∃ x, x = w.heap.size := ⟨_, rfl⟩
  obtain ⟨B6, hB6⟩ : ∃ x, x = w.heap.size + 1 := ⟨_, rfl⟩
  rw [← hB6] at L6 HZ0 ⊢
  rw [← hB5] at L5 ⊢
  have HZ : Hid (Z ≤ b ∧ Z ≤ gw ∧ Z ≤ w.heap.size ∧ w.heap.size ≤ B6 ∧ b < w.heap.size) := HZ0.out
  have HNE : Hid (gw ≠ B5 ∧ gw ≠ B6) := ⟨by have := HGL.out; omega, by have := HGL.out; omega⟩
  have HL1 : Hid (LB W1 B5 85 [.int .i64 at_, .int .i64 2, .int .i64 ky, .int .i64 vl, .int .i64 sp] ∧ LB W1 B6 4 [.bool false] ∧ Below w.heap.size w W1) := ⟨L5, L6, b1⟩
  have x51 := L5.cell 1 _ rfl
  clear hW1 HW1 L5 L6 b1 hB5 hB6 HZ0
  gi_upto_region 6 with fail
  have s1 := HWS.out.kept HL1.out.2.2
  obtain ⟨Wz, hWz⟩ : ∃ x, x = W1.drew := ⟨_, rfl⟩
  have bz : Below W1.heap.size W1 Wz := by rw [hWz]; exact ⟨rfl, rfl, rfl, Nat.le_refl _, fun _ _ => rfl⟩
  have HSA : Hid (∀ W, Below Wz.heap.size Wz W → WS Z gw g b base all lo hi n (.slice va ps.length vc) ps W ∧ LB W B5 85 [.int .i64 at_, .int .i64 2, .int .i64 ky, .int .i64 vl, .int .i64 sp] ∧ LB W B6 4 [.bool false] ∧ Below w.heap.size w W) := fun W hW => ⟨(s1.kept bz).kept hW, (HL1.out.1.kept bz).kept hW, (HL1.out.2.1.kept bz).kept hW, andThen HL1.out.2.2 (andThen bz hW)⟩
  have HCA : Hid (∀ W, Below Wz.heap.size Wz W → W.cell? ⟨gw, 4, none⟩ = some (.slice va ps.length vc) ∧ W.cell? ⟨B5, 2, none⟩ = some (.int .i64 ky)) := fun W hW => ⟨(HSA.out W hW).1.wk.box.cell 4 _ rfl, (HSA.out W hW).2.1.cell 2 _ rfl⟩
  have HLP : Hid ((Ix.pdel ps ky).length ≤ ps.length) := by have := Ix.pdel_len ps ky; show (Ix.pdel ps ky).length ≤ ps.length; omega
  obtain ⟨gl, hgl⟩ : ∃ x, x = ((Ix.get (Ix.gml ps) ky).length : Int) := ⟨_, rfl⟩
  have HGQ : Hid (gl = ((Ix.get (Ix.gml ps) ky).length : Int)) := hgl
  clear hgl
  have hde : (gl != gl) = false := by simp
  have HRD : Hid (Calls Try.prog 31 #[.slice va ps.length vc, .int .i64 ky] Wz fun e w' => ∃ v', e = .returned v' ∧ ∃ ad, ∃ m c : Nat, v' = .tuple #[.slice ad m c, .int .i64 gl] ∧ w'.ownsRow Wz.heap.size 54 2 (.slice ad m c) (Ix.pdel ps ky).length ((Ix.pdel ps ky).flatMap enP) ∧ Below Wz.heap.size Wz w') := (rixdrop_any _ ps ky Wz (HSA.out Wz (Below.refl _ _)).1.wk.pr (by omega)).mono fun e w' ⟨ad, m, c, e1, e2, e3⟩ => ⟨_, e1, ad, m, c, by rw [HGQ.out], e2, e3⟩
  have hSz := HCA.out Wz (Below.refl _ _)
  clear s1 bz x51 HL1 HWS
  refine regionIn_of1 (S := fun W : World => W.cell? ⟨gw, 4, none⟩ = some (.slice va ps.length vc) ∧ W.cell? ⟨B5, 2, none⟩ = some (.int .i64 ky)) (by kernel_rfl) (by kernel_rfl) (by rw [← hWz]; exact hSz) (fun _ => ?_)
  rw [← hWz]
  clear hWz
  refine zqk 0 rfl hSz ?_
  simp only [Act.put, zq1, zq2, zq3, zq4, zq5]
  refine zqk 1 rfl hSz ?_
  simp only [Act.put, zq1, zq2, zq3, zq4, zq5, zq6]
  refine zqk 2 rfl hSz ?_
  simp only [Act.put, zq1, zq2, zq3, zq4, zq5, zq6]
  refine zqk 3 rfl hSz ?_
  simp only [Act.put, zq1, zq2, zq3, zq4, zq5, zq6]
  refine zqk 4 rfl hSz ?_
  simp only [Act.put, zq1, zq2, zq3, zq4, zq5, zq6]
  refine zqk 5 rfl hSz ?_
  simp only [Act.put, zq1, zq2, zq3, zq4, zq5, zq6]
  refine zqr 6 rfl (fun K hK => ?_)
  refine st_rdropW rfl 47 49 rfl rfl rfl (R := fun v' w' => ∃ ad, ∃ m c : Nat, v' = .tuple #[.slice ad m c, .int .i64 gl] ∧ w'.ownsRow Wz.heap.size 54 2 (.slice ad m c) (Ix.pdel ps ky).length ((Ix.pdel ps ky).flatMap enP) ∧ Below Wz.heap.size Wz w') HRD.out ?_
  rintro v' W2 ⟨ad, m, c, rfl, r2, b2⟩
  refine hK.out _ _ (HCA.out W2 b2) fun hS2 => ?_
  simp only [Act.put, zq1, zq2, zq3, zq4, zq5, zq6]
  clear hK K HRD hSz
  refine zqk 7 rfl hS2 ?_
  simp only [Act.put, zq1, zq2, zq3, zq4, zq5, zq6]
  refine zqk 8 rfl hS2 ?_
  simp only [Act.put, zq1, zq2, zq3, zq4, zq5, zq6]
  refine zqk 9 rfl hS2 ?_
  simp only [Act.put, zq1, zq2, zq3, zq4, zq5, zq6]
  refine zqk 10 rfl hS2 ?_
  simp only [Act.put, zq1, zq2, zq3, zq4, zq5, zq6]
  refine zqk 11 rfl hS2 ?_
  simp only [Act.put, zq1, zq2, zq3, zq4, zq5, zq6]
  refine wpAnyH_done (by kernel_rfl) ?_ _
  clear hS2
  obtain ⟨Wq, hWq⟩ : ∃ x, x = W2.drew := ⟨_, rfl⟩
  have bq : Below W2.heap.size W2 Wq := by rw [hWq]; exact ⟨rfl, rfl, rfl, Nat.le_refl _, fun _ _ => rfl⟩
  have b2q := andThen b2 bq
  obtain ⟨sq, l5, l6, bw⟩ := HSA.out Wq b2q
  have hSq : Wq.cell? ⟨gw, 0, none⟩ = some (.pointer (some ⟨g, 0, none⟩)) ∧ Wq.cell? ⟨B5, 2, none⟩ = some (.int .i64 ky) := ⟨sq.wk.box.cell 0 _ rfl, l5.cell 2 _ rfl⟩
  have HDD : Hid (Calls Try.prog 15 #[.pointer (some ⟨g, 0, none⟩), .int .i64 ky] Wq fun e w' => ∃ v', e = .returned v' ∧ v' = .int .i64 gl ∧ MI w' g b base n (Ix.gml (Ix.pdel ps ky)) ∧ WK w' gw g all lo hi (.slice va ps.length vc) ps ∧ DF gw b w w' ∧ (∀ q, Mrow w' b q → Z ≤ q) ∧ LB w' B5 85 [.int .i64 at_, .int .i64 2, .int .i64 ky, .int .i64 vl, .int .i64 sp] ∧ LB w' B6 4 [.bool false] ∧ Pr w' (.slice ad m c) (Ix.pdel ps ky)) := (ixdrop_views g b base n (Ix.gml ps) ky Wq sq.mi hk (by omega)).mono fun e w' ⟨e1, e2, e3, e4, e5⟩ => by
    obtain ⟨k1, k2, k3⟩ := sq.add (W' := w') (Nat.le_trans HZ.out.2.2.1 bw.size) (e3.mono fun q e => .inl e) (fun q hq => .inl (e4 q hq)) (fun u zs hu => Vw.drop sq.mi e3 e5 hu)
    have keep : ∀ {q : Nat} {t : TypeId} {D : List Value}, LB Wq q t D → LB w' q t D := fun {q t D} L => (e3.block q L.lt fun e => by
      unfold LB at L
      subst e
      obtain ⟨es9, clock, hb9, -⟩ := sq.mi.map
      rw [hb9] at L
      cases L).trans L
    refine ⟨_, e1, by rw [HGQ.out], by rw [Ix.gml_pdel]; exact e2, k1, (DF.of bw HZ.out.2.2.2.2).trans k2, k3, keep l5, keep l6, Pr.of (Mg.row_block (Mg.row_kept r2 bq) fun q e => e3.block q (World.ownsRow.lt (Mg.row_kept r2 bq) q e).2 fun e2 => ?_)⟩
    have h1 := (World.ownsRow.lt r2 q e).1
    have h2 := (HSA.out Wz (Below.refl _ _)).1.mi.blt.2
    omega
  clear sq l5 l6 bw b2 bq b2q r2 HSA HCA HGQ
  gi_upto_region 7 with fail
  refine regionIn_of1 (S := fun W : World => W.cell? ⟨gw, 0, none⟩ = some (.pointer (some ⟨g, 0, none⟩)) ∧ W.cell? ⟨B5, 2, none⟩ = some (.int .i64 ky)) (by kernel_rfl) (by kernel_rfl) (by rw [← hWq]; exact hSq) (fun _ => ?_)
  rw [← hWq]
  clear hWq
  refine zqk 0 rfl hSq ?_
  simp only [Act.put, zq1, zq2, zq3, zq4, zq5]
  refine zqk 1 rfl hSq ?_
  simp only [Act.put, zq1, zq2, zq3, zq4, zq5, zq6]
  refine zqk 2 rfl hSq ?_
  simp only [Act.put, zq1, zq2, zq3, zq4, zq5, zq6]
  refine zqk 3 rfl hSq ?_
  simp only [Act.put, zq1, zq2, zq3, zq4, zq5, zq6]
  refine zqk 4 rfl hSq ?_
  simp only [Act.put, zq1, zq2, zq3, zq4, zq5, zq6]
  refine zqk 5 rfl hSq ?_
  simp only [Act.put, zq1, zq2, zq3, zq4, zq5, zq6]
  refine zqk 7 rfl hSq ?_
  simp only [Act.put, zq1, zq2, zq3, zq4, zq5, zq6]
  refine zqr 6 rfl (fun K hK => ?_)
  refine st_dropW rfl 56 58 rfl rfl rfl (R := fun v' w' => v' = .int .i64 gl ∧ MI w' g b base n (Ix.gml (Ix.pdel ps ky)) ∧ WK w' gw g all lo hi (.slice va ps.length vc) ps ∧ DF gw b w w' ∧ (∀ q, Mrow w' b q → Z ≤ q) ∧ LB w' B5 85 [.int .i64 at_, .int .i64 2, .int .i64 ky, .int .i64 vl, .int .i64 sp] ∧ LB w' B6 4 [.bool false] ∧ Pr w' (.slice ad m c) (Ix.pdel ps ky)) HDD.out ?_
  rintro v' W3 ⟨rfl, m3, k3, d3, z3, l5, l6, p3⟩
  refine hK.out _ _ ⟨k3.box.cell 0 _ rfl, l5.cell 2 _ rfl⟩ fun hS3 => ?_
  simp only [Act.put, zq1, zq2, zq3, zq4, zq5, zq6]
  clear hK K HDD hSq
  refine zqk 8 rfl hS3 ?_
  simp only [Act.put, zq1, zq2, zq3, zq4, zq5, zq6]
  refine wpAnyH_done (by kernel_rfl) ?_ _
  have HAL : Hid (MI W3 g b base n (Ix.gml (Ix.pdel ps ky)) ∧ LB W3 gw 80 [.pointer (some ⟨g, 0, none⟩), .bool all, .int .i64 lo, .int .i64 hi, .slice va ps.length vc] ∧ DF gw b w W3 ∧ (∀ q, Mrow W3 b q → Z ≤ q) ∧ LB W3 B6 4 [.bool false] ∧ Pr W3 (.slice ad m c) (Ix.pdel ps ky)) := ⟨m3, k3.box, d3, z3, l6, p3⟩
  have HWF : Hid (∀ p ∈ Ix.pdel ps ky, (Lit.int .i64 p.1).wf = true ∧ (Lit.int .i64 p.2).wf = true) := fun p hp => HWP.out p (List.mem_filter.1 hp).1
  clear m3 k3 d3 z3 l5 l6 p3 hS3
  gi_wp2_with (gi_at_builtin; refine wpListIn_appCP _ rfl (.tmp 63) rfl (.slice ad m c) (Ix.pdel ps ky) rfl HAL.out.2.2.2.2.2 (Nat.le_trans HLP.out (by omega)) ?_)
  intro ad4 c4 m4 W4 r4 b4
  have L4 := HAL.out.2.1.kept b4
  have y4 := L4.cell 4 _ rfl
  have f4 := L4.free 4
  obtain ⟨s5, d5⟩ := WS.store (Z := Z) (n := n) (HAL.out.1.kept b4) L4 r4 HWF.out HZ.out.1 HZ.out.2.1 (fun q hq => HAL.out.2.2.2.1 q (hq.same (b4.block b (HAL.out.1.blt.2))))
  have L6 : LB (W4.setCell ⟨gw, 4, none⟩ (.slice ad4 m4 c4)) B6 4 [.bool false] := (show _ = _ from set_other _ _ _ _ (fun e => HNE.out.2 e.symm)).trans (HAL.out.2.2.2.2.1.kept b4)
  have y6 := L6.cell 0 _ rfl
  have f6 := L6.free 0
  have HFIN : Hid (WS Z gw g b base all lo hi n (.slice ad4 m4 c4) (Ix.pdel ps ky) (W4.setCell ⟨gw, 4, none⟩ (.slice ad4 m4 c4)) ∧ DF gw b w (W4.setCell ⟨gw, 4, none⟩ (.slice ad4 m4 c4)) ∧ LB (W4.setCell ⟨gw, 4, none⟩ (.slice ad4 m4 c4)) B6 4 [.bool false]) := ⟨s5, (HAL.out.2.2.1.trans (DF.of b4 HAL.out.1.blt.2)).trans d5, L6⟩
  have HLAST : Hid (∀ W, W = (W4.setCell ⟨gw, 4, none⟩ (.slice ad4 m4 c4)).setCell ⟨B6, 0, none⟩ (.bool true) → WS Z gw g b base all lo hi n (.slice ad4 m4 c4) (Ix.pdel ps ky) W ∧ DF gw b w W ∧ LB W B6 4 [.bool true]) := fun W e => by
    subst e
    exact ⟨HFIN.out.1.box HFIN.out.2.2 (Nat.le_trans HZ.out.2.2.1 HZ.out.2.2.2.1) (by decide) (by decide) (by decide) (by decide) 0 _, HFIN.out.2.1.box HFIN.out.2.2 HZ.out.2.2.2.1 HZ.out.2.2.2.2 (by decide) 0 _, HFIN.out.2.2.set 0 _⟩
  clear L4 L6 s5 d5 r4 b4 HFIN HAL
  gi_wp2_with fail
  obtain ⟨W5, hW5⟩ : ∃ W5, W5 = (W4.setCell ⟨gw, 4, none⟩ (.slice ad4 m4 c4)).setCell ⟨B6, 0, none⟩ (.bool true) := ⟨_, rfl⟩
  rw [← hW5]
  have HX := HLAST.out W5 hW5
  have z6 := HX.2.2.cell 0 _ rfl
  refine ⟨.bool true, ?_, rfl, _, _, _, Nat.le_succ _, Nat.le_trans HLP.out (Nat.le_succ _), HX.1, HX.2.1⟩
  simp [results, Try.f42, go_sem, z6]
set_option maxRecDepth 100000 in
set_option maxHeartbeats 8000000 in
theorem ixdoes_none (Z gw g b base n : Nat) (all : Bool) (lo hi : Int) (nv : Value) (ps : List (Int × Int)) (fv : Value) (at_ kd ky vl sp : Int) (w : World) (h : WS Z gw g b base all lo hi n nv ps w) (hZw : Z ≤ w.heap.size) (h1 : kd ≠ 1) (h2 : kd ≠ 2) (h3 : kd ≠ 3) (h4 : kd ≠ 4) :
    Calls Try.prog 42 #[.pointer (some ⟨gw, 0, none⟩), fv, .agg #[.int .i64 at_, .int .i64 kd, .int .i64 ky, .int .i64 vl, .int .i64 sp]] w fun e w' => e = .returned (.bool true) ∧ DoPost Z gw g b base all lo hi n ps w w' := by
  obtain ⟨va, vc, hve, -⟩ := id h.wk.pr
  subst hve
  refine callsIn_wide (n := 5) |>.1 ?_
  have HWS : Hid (WS Z gw g b base all lo hi n (.slice va ps.length vc) ps w) := h
  have HW1 : Hid (∀ W, W = (w.alloc (.cells #[.int .i64 at_, .int .i64 kd, .int .i64 ky, .int .i64 vl, .int .i64 sp] 85)).alloc (.cells #[.bool false] 4) → LB W w.heap.size 85 [.int .i64 at_, .int .i64 kd, .int .i64 ky, .int .i64 vl, .int .i64 sp] ∧ LB W (w.heap.size + 1) 4 [.bool false] ∧ Below w.heap.size w W) := fun W e => by
    subst e
    have h1 := lb_new w [.int .i64 at_, .int .i64 kd, .int .i64 ky, .int .i64 vl, .int .i64 sp] 85
    have h2 := lb_new (w.alloc (.cells #[.int .i64 at_, .int .i64 kd, .int .i64 ky, .int .i64 vl, .int .i64 sp] 85)) [.bool false] 4
    rw [heap_one] at h2
    exact ⟨h1.kept (up0 _ _), h2, up (up0 _ _) _⟩
  have HZ0 : Hid (Z ≤ b ∧ Z ≤ gw ∧ Z ≤ w.heap.size ∧ w.heap.size ≤ w.heap.size + 1 ∧ b < w.heap.size) := ⟨h.zb, h.zg, hZw, Nat.le_succ _, h.mi.blt.2⟩
  have HGL : Hid (gw < w.heap.size) := h.wk.box.lt
  clear h
  refine callsIn_of_wp_marks Try.func42 rfl trivial ?_ rfl
  simp only [Try.ntmps42, List.size_toArray, List.length_cons, List.length_nil, Nat.reduceAdd, Nat.reduceSub, Array.replicate_succ, Array.replicate_zero, List.push_toArray, List.append_toArray, List.nil_append, List.cons_append]
  gi_upto_region 1 with fail
  obtain ⟨W1, hW1⟩ : ∃ W1, W1 = (w.alloc (.cells #[.int .i64 at_, .int .i64 kd, .int .i64 ky, .int .i64 vl, .int .i64 sp] 85)).alloc (.cells #[.bool false] 4) := ⟨_, rfl⟩
  rw [← hW1]
  obtain ⟨L5, L6, b1⟩ := HW1.out W1 hW1
  obtain ⟨B5, hB5⟩ : ∃ x, x = w.heap.size := ⟨_, rfl⟩
  obtain ⟨B6, hB6⟩ : ∃ x, x = w.heap.size + 1 := ⟨_, rfl⟩
  rw [← hB6] at L6 HZ0 ⊢
  rw [← hB5] at L5 ⊢
  have HZ : Hid (Z ≤ b ∧ Z ≤ gw ∧ Z ≤ w.heap.size ∧ w.heap.size ≤ B6 ∧ b < w.heap.size) := HZ0.out
  have HNE : Hid (gw ≠ B5 ∧ gw ≠ B6) := ⟨by have := HGL.out; omega, by have := HGL.out; omega⟩
  have HL1 : Hid (LB W1 B5 85 [.int .i64 at_, .int .i64 kd, .int .i64 ky, .int .i64 vl, .int .i64 sp] ∧ LB W1 B6 4 [.bool false] ∧ Below w.heap.size w W1) := ⟨L5, L6, b1⟩
  have x51 := L5.cell 1 _ rfl
  clear hW1 HW1 L5 L6 b1 hB5 hB6 HZ0
  have h1' : (kd == 1) = false := by simp; exact h1
  have h2' : (kd == 2) = false := by simp; exact h2
  have h3' : (kd == 3) = false := by simp; exact h3
  have h4' : (kd == 4) = false := by simp; exact h4
  have y6 := HL1.out.2.1.cell 0 _ rfl
  have f6 := HL1.out.2.1.free 0
  have HLAST : Hid (∀ W, W = W1.setCell ⟨B6, 0, none⟩ (.bool true) → WS Z gw g b base all lo hi n (.slice va ps.length vc) ps W ∧ DF gw b w W ∧ LB W B6 4 [.bool true]) := fun W e => by
    subst e
    exact ⟨(HWS.out.kept HL1.out.2.2).box HL1.out.2.1 (Nat.le_trans HZ.out.2.2.1 HZ.out.2.2.2.1) (by decide) (by decide) (by decide) (by decide) 0 _, (DF.of HL1.out.2.2 HZ.out.2.2.2.2).box HL1.out.2.1 HZ.out.2.2.2.1 HZ.out.2.2.2.2 (by decide) 0 _, HL1.out.2.1.set 0 _⟩
  gi_wp2_with fail
  obtain ⟨W5, hW5⟩ : ∃ W5, W5 = W1.setCell ⟨B6, 0, none⟩ (.bool true) := ⟨_, rfl⟩
  rw [← hW5]
  have HX := HLAST.out W5 hW5
  have z6 := HX.2.2.cell 0 _ rfl
  refine ⟨.bool true, ?_, rfl, _, _, _, Nat.le_succ _, Nat.le_succ _, HX.1, HX.2.1⟩
  simp [results, Try.f42, go_sem, z6]
end Go.Proofs.Ytceokpklcfmadaa
