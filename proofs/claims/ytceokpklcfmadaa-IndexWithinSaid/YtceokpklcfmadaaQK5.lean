import Derived.Test.YtceokpklcfmadaaQK4
import Derived.Test.YtceokpklcfmadaaQM1
/-
  IndexWithin: does: the same answer is gone through, to its end or not.
-/
namespace Go.Proofs.Ytceokpklcfmadaa
open Go Go.RowKit Go.ChangeShapes
open Wb
attribute [local go_sem] Oper.semAt_some

/-- the boxes of does in its range -/
structure TD (w : World) (B5 B6 B9 B10 : Nat) (AG : List Value) (wv : Value) (wl : List (Int × Int)) (cnt : Int) (W : World) : Prop where
  bel : Below w.heap.size w W
  act : LB W B5 85 AG
  res : LB W B6 4 [.bool false]
  wbx : LB W B9 55 [wv]
  row : W.ownsRow w.heap.size 54 2 wv wl.length (wl.flatMap enP)
  ctr : LB W B10 3 [.int .i64 cnt]
  r6 : w.heap.size ≤ B6
  r10 : w.heap.size ≤ B10
section
variable {w : World} {B5 B6 B9 B10 : Nat} {AG : List Value} {wv : Value} {wl : List (Int × Int)} {cnt : Int} {W W' : World}
theorem TD.kept (h : TD w B5 B6 B9 B10 AG wv wl cnt W) (hb : Below W.heap.size W W') : TD w B5 B6 B9 B10 AG wv wl cnt W' := ⟨andThen h.bel hb, h.act.kept hb, h.res.kept hb, h.wbx.kept hb, Mg.row_kept h.row hb, h.ctr.kept hb, h.r6, h.r10⟩
theorem TD.nonc (h : TD w B5 B6 B9 B10 AG wv wl cnt W) {Z : Nat} (hw : w.heap.size ≤ Z) {row : Option Nat} (hg : W.grownBy W' row) (hr : ∀ r, row = some r → Z ≤ r ∧ ∃ o : Obj, W.heap[r]? = some o ∧ o.isCells = false) : TD w B5 B6 B9 B10 AG wv wl cnt W' := by
  have hr2 : ∀ r, row = some r → ∃ o : Obj, W.heap[r]? = some o ∧ o.isCells = false := fun r e => (hr r e).2
  refine ⟨h.bel.grown hg h.bel.size fun k e => Nat.le_trans hw (hr k e).1, lb_nonc h.act hg hr2, lb_nonc h.res hg hr2, lb_nonc h.wbx hg hr2, Mg.row_other h.row hg fun q hq e2 => ?_, lb_nonc h.ctr hg hr2, h.r6, h.r10⟩
  obtain ⟨o, h1, h2⟩ := hr2 q e2
  obtain ⟨cur, h9⟩ := Mg.row_type h.row q hq
  rw [h9] at h1
  obtain rfl := Option.some.inj h1
  cases h2
/-- the counter is written -/
theorem TD.set (h : TD w B5 B6 B9 B10 AG wv wl cnt W) (y : Int) : TD w B5 B6 B9 B10 AG wv wl y (W.setCell ⟨B10, 0, none⟩ (.int .i64 y)) := by
  have L := h.ctr
  have far : ∀ {q : Nat} {t : TypeId} {D : List Value}, LB W q t D → t ≠ 3 → LB (W.setCell ⟨B10, 0, none⟩ (.int .i64 y)) q t D := fun {q t D} Lq ht => (show _ = _ from set_other _ _ _ _ fun e => by
    subst e
    unfold LB at L Lq
    rw [L] at Lq
    simp at Lq
    exact ht Lq.2.symm).trans Lq
  refine ⟨h.bel.setCell (p := ⟨B10, 0, none⟩) h.r10 _, far h.act (by decide), far h.res (by decide), far h.wbx (by decide), Mg.row_block h.row fun q e => set_other _ _ _ _ fun e2 => ?_, L.set 0 _, h.r6, h.r10⟩
  subst e2
  obtain ⟨cur, h9⟩ := Mg.row_type h.row _ e
  unfold LB at L
  rw [L] at h9
  simp at h9
/-- the pair at a place of the wanted list -/
theorem TD.at (h : TD w B5 B6 B9 B10 AG wv wl cnt W) (j : Nat) (hj : j < wl.length) : ∃ q, ∃ c : Nat, wv = .slice (some ⟨q, 0, none⟩) wl.length c ∧ W.cell? ⟨q, j * 2, none⟩ = some (.int .i64 wl[j].1) ∧ W.cell? ⟨q, j * 2 + 1, none⟩ = some (.int .i64 wl[j].2) := by
  rcases h.row.2 with ⟨e, e0⟩ | ⟨q, c, cur, e, -⟩
  · omega
  · have hr := h.row
    subst e
    obtain ⟨f0, f1⟩ := flat_at wl j hj
    have c0 := World.ownsRow.cellAt hr (j * 2) (by omega)
    have c1 := World.ownsRow.cellAt hr (j * 2 + 1) (by omega)
    rw [f0] at c0
    rw [f1] at c1
    exact ⟨q, c, rfl, c0, c1⟩
end
def ITD (w : World) (B5 B6 B9 B10 : Nat) (AG : List Value) (wv : Value) (wl : List (Int × Int)) (pre : List PI) (W : World) : Prop := TD w B5 B6 B9 B10 AG wv wl (pre.length : Int) W
def IXD (w : World) (B6 : Nat) (wl : List (Int × Int)) (c : Code) (pre : List PI) (W : World) : Prop := c = .ret ∧ ((∃ (pre0 : List PI) (x : PI), pre = pre0 ++ [x] ∧ wl[pre0.length]? ≠ some x.1) ∨ (LB W B6 4 [.bool true] ∧ Below w.heap.size w W))
theorem ITD_own {w : World} {B5 B6 B9 B10 : Nat} {AG : List Value} {wv : Value} {wl : List (Int × Int)} {Z : Nat} (hw : w.heap.size ≤ Z) : OwnFrom Z (ITD w B5 B6 B9 B10 AG wv wl) := by
  rintro s A A' row h hg hr
  exact TD.nonc h hw hg hr
theorem IXD_own {w : World} {B6 : Nat} {wl : List (Int × Int)} {Z : Nat} (hw : w.heap.size ≤ Z) (c : Code) : OwnFrom Z (IXD w B6 wl c) := by
  rintro s A A' row ⟨h1, h2⟩ hg hr
  exact ⟨h1, h2.imp id fun h => ⟨lb_nonc h.1 hg fun r e => (hr r e).2, h.2.grown hg h.2.size fun k e => Nat.le_trans hw (hr k e).1⟩⟩
/-- what does not stand in the list at its place is not given -/
theorem no_badD {wl : List (Int × Int)} {pre0 : List PI} {x : PI} (h : (pre0 ++ [x]).map (fun q : PI => q.1) <+: wl) : wl[pre0.length]? = some x.1 := by
  obtain ⟨t, ht⟩ := h
  rw [← ht, List.map_append, List.append_assoc, List.getElem?_append_right (by simp)]
  simp
set_option maxRecDepth 100000 in
set_option maxHeartbeats 8000000 in
theorem ixdoes_go3 (Z gw g b base n mA : Nat) (all : Bool) (lo hi l2 h2 : Int) (nv : Value) (ps : List (Int × Int)) (at_ ky vl sp : Int) (w : World) (h : WS Z gw g b base all lo hi n nv ps w) (hZw : Z ≤ w.heap.size) (hl : ps.length ≤ 900000) (hit : TItB w g mA l2 h2) (hl2 : l2 = if all then -9223372036854775808 else lo) (hh2 : h2 = if all then 9223372036854775807 else hi) :
    Calls Try.prog 42 #[.pointer (some ⟨gw, 0, none⟩), .func (.func 57) #[] #[.pointer (some ⟨mA, 0, none⟩), .pointer (some ⟨mA + 1, 0, none⟩), .pointer (some ⟨mA + 2, 0, none⟩)], .agg #[.int .i64 at_, .int .i64 3, .int .i64 ky, .int .i64 vl, .int .i64 sp]] w fun e w' => e = .returned (.bool true) ∧ DoPost Z gw g b base all lo hi n ps w w' := by
  obtain ⟨va, vc, hve, -⟩ := id h.wk.pr
  subst hve
  have HIT : Hid (TItB w g mA l2 h2) := hit
  have HTO : Hid (∀ W, Below w.heap.size w W → Calls Try.prog 41 #[.pointer (some ⟨gw, 0, none⟩)] W fun e w' => ∃ v', e = .returned v' ∧ w'.ownsRow W.heap.size 54 2 v' (wtold all lo hi ps).length ((wtold all lo hi ps).flatMap enP) ∧ Below W.heap.size W w') := fun W hW => ixwtold_any gw g all lo hi _ ps W (h.wk.kept hW) (by omega) fun p hp => by
    have h9 := (h.wf p hp).1
    simp [Lit.wf, IntKind.min, IntKind.max, IntKind.signed, IntKind.bits] at h9
    omega
  have HWL : Hid (wtold all lo hi ps = prs (within (Ix.gml ps) l2 h2)) := by rw [hl2, hh2]; exact rfl
  have HPL : Hid ((wtold all lo hi ps).length ≤ ps.length) := by
    have h1 := Ix.within_total (Ix.gml ps) (if all then -9223372036854775808 else lo) (if all then 9223372036854775807 else hi)
    rw [(Ix.gml_fine ps).tot] at h1
    show (wtold all lo hi ps).length ≤ ps.length
    unfold wtold
    rw [Ix.prs_len]
    exact h1
  have HGM : Hid ((Ix.gml ps).length ≤ 10000000) := Nat.le_trans (Ix.gml_fine ps).len (by omega)
  refine callsIn_wide (n := 5) |>.1 ?_
  have HWS : Hid (WS Z gw g b base all lo hi n (.slice va ps.length vc) ps w) := h
  have HW1 : Hid (∀ W, W = (w.alloc (.cells #[.int .i64 at_, .int .i64 3, .int .i64 ky, .int .i64 vl, .int .i64 sp] 85)).alloc (.cells #[.bool false] 4) → LB W w.heap.size 85 [.int .i64 at_, .int .i64 3, .int .i64 ky, .int .i64 vl, .int .i64 sp] ∧ LB W (w.heap.size + 1) 4 [.bool false] ∧ Below w.heap.size w W) := fun W e => by
    subst e
    have h1 := lb_new w [.int .i64 at_, .int .i64 3, .int .i64 ky, .int .i64 vl, .int .i64 sp] 85
    have h2 := lb_new (w.alloc (.cells #[.int .i64 at_, .int .i64 3, .int .i64 ky, .int .i64 vl, .int .i64 sp] 85)) [.bool false] 4
    rw [heap_one] at h2
    exact ⟨h1.kept (up0 _ _), h2, up (up0 _ _) _⟩
  have HZ0 : Hid (Z ≤ b ∧ Z ≤ gw ∧ Z ≤ w.heap.size ∧ w.heap.size ≤ w.heap.size + 1 ∧ b < w.heap.size) := ⟨h.zb, h.zg, hZw, Nat.le_succ _, h.mi.blt.2⟩
  have HGL : Hid (gw < w.heap.size) := h.wk.box.lt
  clear h
  refine callsIn_of_wp_marks Try.func42 rfl trivial ?_ rfl
  simp only [Try.ntmps42, List.size_toArray, List.length_cons, List.length_nil, Nat.reduceAdd, Nat.reduceSub, Array.replicate_succ, Array.replicate_zero, List.push_toArray, List.append_toArray, List.nil_append, List.cons_append]
  gi_upto_region 1 with fail
  obtain ⟨W1, hW1⟩ : ∃ W1, W1 = (w.alloc (.cells #[.int .i64 at_, .int .i64 3, .int .i64 ky, .int .i64 vl, .int .i64 sp] 85)).alloc (.cells #[.bool false] 4) := ⟨_, rfl⟩
  rw [← hW1]
  obtain ⟨L5, L6, b1⟩ := HW1.out W1 hW1
  obtain ⟨B5, hB5⟩ : ∃ x, x = w.heap.size := ⟨_, rfl⟩
  obtain ⟨B6, hB6⟩ : ∃ x, x = w.heap.size + 1 := ⟨_, rfl⟩
  rw [← hB6] at L6 HZ0 ⊢
  rw [← hB5] at L5 ⊢
  have HZ : Hid (Z ≤ b ∧ Z ≤ gw ∧ Z ≤ w.heap.size ∧ w.heap.size ≤ B6 ∧ b < w.heap.size) := HZ0.out
  have HNE : Hid (gw ≠ B5 ∧ gw ≠ B6) := ⟨by have := HGL.out; omega, by have := HGL.out; omega⟩
  have HL1 : Hid (LB W1 B5 85 [.int .i64 at_, .int .i64 3, .int .i64 ky, .int .i64 vl, .int .i64 sp] ∧ LB W1 B6 4 [.bool false] ∧ Below w.heap.size w W1) := ⟨L5, L6, b1⟩
  have x51 := L5.cell 1 _ rfl
  clear hW1 HW1 L5 L6 b1 hB5 hB6 HZ0
  clear hl2 hh2 hit
  generalize wtold all lo hi ps = wl at HTO HWL HPL
  gi_upto_region 12 with fail
  gi_wp2
  refine ⟨trivial, (callsIn_wide.2 (HTO.out W1 HL1.out.2.2)).mono ?_⟩
  rintro e W2 ⟨wv, rfl, r2, b2⟩
  obtain ⟨wa, wc, e2, -⟩ := Mg.row_shape r2
  subst e2
  have HBX : Hid (∀ W, W = (W2.alloc (.cells #[.slice wa wl.length wc] 55)).alloc (.cells #[.int .i64 0] 3) → TD w B5 B6 W2.heap.size (W2.heap.size + 1) [.int .i64 at_, .int .i64 3, .int .i64 ky, .int .i64 vl, .int .i64 sp] (.slice wa wl.length wc) wl 0 W) := fun W e => by
    have h1 := lb_new W2 [.slice wa wl.length wc] 55
    have h2 := lb_new (W2.alloc (.cells #[.slice wa wl.length wc] 55)) [.int .i64 0] 3
    rw [heap_one] at h2
    have hb : Below W2.heap.size W2 W := by
      rw [e]
      exact up (up0 _ _) _
    have hw2 : w.heap.size ≤ W2.heap.size := Nat.le_trans HL1.out.2.2.size b2.size
    exact ⟨andThen (andThen HL1.out.2.2 b2) hb, (HL1.out.1.kept b2).kept hb, (HL1.out.2.1.kept b2).kept hb, by rw [e]; exact h1.kept (up0 _ _), Mg.row_kept (Mg.row_weak r2 HL1.out.2.2.size) hb, by rw [e]; exact h2, HZ.out.2.2.2.1, by omega⟩
  clear r2 b2 x51 HL1 HTO
  gi_wp2
  obtain ⟨V, hV⟩ : ∃ V, V = (W2.alloc (.cells #[.slice wa wl.length wc] 55)).alloc (.cells #[.int .i64 0] 3) := ⟨_, rfl⟩
  rw [← hV]
  have h1 := HBX.out V hV
  obtain ⟨B10, hB10⟩ : ∃ q, q = W2.heap.size + 1 := ⟨_, rfl⟩
  rw [← hB10] at h1 ⊢
  obtain ⟨B9, hB9⟩ : ∃ q, q = W2.heap.size := ⟨_, rfl⟩
  rw [← hB9] at h1 ⊢
  have HS1 : Hid (TD w B5 B6 B9 B10 [.int .i64 at_, .int .i64 3, .int .i64 ky, .int .i64 vl, .int .i64 sp] (.slice wa wl.length wc) wl 0 V) := h1
  clear hV HBX hB9 hB10 h1
  have HLW : Hid (wl.length ≤ 900000) := Nat.le_trans HPL.out hl
  have HMR : Hid (∀ W q, Below w.heap.size w W → w.heap.size ≤ q → ¬ Mrow W b q) := fun W q hW hq hm9 => by
    have h9 := (HWS.out.mi.row (hm9.same (hW.block b HWS.out.mi.blt.2))).2
    omega
  refine wpIn_rangeFunc_ownF rfl (by omega) (gf := 57) (lb := #[.pointer (some ⟨mA, 0, none⟩), .pointer (some ⟨mA + 1, 0, none⟩), .pointer (some ⟨mA + 2, 0, none⟩)]) rfl trivial (enters_of Try.func57 (by kernel_rfl) rfl) (encs := encsP) (Kp := KpI (fun k => k = B10) 54) (S := fun xs : List PI => xs.map (·.1) = wl) (Sp := fun pre : List PI => pre.map (fun q : PI => q.1) <+: wl) (N := wl.length) (w0 := V) ?sq1 KpI.trans (fun W l o o' _ h1 h2 _ => kpI_b W l o o' h1 h2) (Below.refl _ _) (fun _ => rfl) (ITD w B5 B6 B9 B10 [.int .i64 at_, .int .i64 3, .int .i64 ky, .int .i64 vl, .int .i64 sp] (.slice wa wl.length wc) wl) (IXD w B6 wl) (ITD_own HS1.out.bel.size) (IXD_own HS1.out.bel.size) ?hz1 ?a1 ?as1 ?bo1 ?do1 ?st1
  case as1 =>
    intro l x W K hK
    unfold encsP
    gi_wp2
    exact hK
  case sq1 =>
    intro l J Jx W hW hJ _ hY h0
    have hs := HS1.out.kept hW
    have hY2 := hY
    have h9 := ixrange1_in 4 l (fun k => k = B10) 54 g b base n (Ix.gml ps) l2 h2 mA (mA + 1) (mA + 2) W (HWS.out.mi.kept hs.bel) HGM.out ((HIT.out.1.kept hs.bel).cell 0 _ rfl) ((HIT.out.2.1.kept hs.bel).cell 0 _ rfl) ((HIT.out.2.2.kept hs.bel).cell 0 _ rfl) (fun q hq => by
      subst hq
      exact ⟨hs.ctr.lt, HMR.out W q hs.bel hs.r10⟩) (by decide) (by decide) J Jx hJ (by rw [← HWL.out]; exact hY) h0
    rw [← HWL.out] at h9
    exact h9
  case hz1 => exact HS1.out
  case bo1 =>
    rintro l pre ⟨⟨k, v⟩, hwk, hwv⟩ WW hs hlen
    have HSS : Hid (TD w B5 B6 B9 B10 [.int .i64 at_, .int .i64 3, .int .i64 ky, .int .i64 vl, .int .i64 sp] (.slice wa wl.length wc) wl (pre.length : Int) WW) := hs
    have hs9 : TD w B5 B6 B9 B10 [.int .i64 at_, .int .i64 3, .int .i64 ky, .int .i64 vl, .int .i64 sp] (.slice wa wl.length wc) wl (pre.length : Int) WW := hs
    obtain ⟨q9, c9, he9, c0, c1⟩ := hs9.at pre.length hlen
    simp only [Value.slice.injEq] at he9
    obtain ⟨rfl, -, rfl⟩ := he9
    obtain ⟨p0, hp0⟩ : ∃ p0, p0 = wl[pre.length] := ⟨_, rfl⟩
    rw [← hp0] at c0 c1
    have HP0 : Hid (wl[pre.length]? = some p0) := by
      rw [hp0]
      exact List.getElem?_eq_getElem hlen
    obtain ⟨k0, v0⟩ := p0
    simp only at c0 c1
    have hpl : (pre.length : Int) ≤ 900000 := by have := HLW.out; omega
    have hwp : IntKind.i64.wrap ((pre.length : Int) + 1) = (pre.length : Int) + 1 := IntWalk.i64_in _ (by omega)
    have hge : ((wl.length : Int) ≤ (pre.length : Int)) = False := by simp; omega
    have y9 := hs9.wbx.cell 0 _ rfl
    have y10 := hs9.ctr.cell 0 _ rfl
    have f10 := hs9.ctr.free 0
    have y6 := hs9.res.cell 0 _ rfl
    have f6 := hs9.res.free 0
    have T1 := hs9.set ((pre.length : Int) + 1)
    have z10 := T1.ctr.cell 0 _ rfl
    have z51 := T1.act.cell 1 _ rfl
    have z54 := T1.act.cell 4 _ rfl
    have z6 := T1.res.cell 0 _ rfl
    have g6 := T1.res.free 0
    have HT1 : Hid (TD w B5 B6 B9 B10 [.int .i64 at_, .int .i64 3, .int .i64 ky, .int .i64 vl, .int .i64 sp] (.slice (some ⟨q9, 0, none⟩) wl.length wc) wl ((pre.length : Int) + 1) (WW.setCell ⟨B10, 0, none⟩ (.int .i64 ((pre.length : Int) + 1)))) := T1
    have HKO : Hid (KeepsOthers WW (WW.setCell ⟨B6, 0, none⟩ (.bool false))) := KeepsOthers.setCell _ _ _
    have HK2 : Hid (KeepsOthers WW (WW.setCell ⟨B10, 0, none⟩ (.int .i64 ((pre.length : Int) + 1))) ∧ KpI (fun k => k = B10) 54 WW (WW.setCell ⟨B10, 0, none⟩ (.int .i64 ((pre.length : Int) + 1)))) := ⟨KeepsOthers.setCell _ _ _, kpI_set _ _ _ _ _ rfl⟩
    clear hs hs9 T1 hp0
    by_cases hk : k0 = k
    · subst hk
      by_cases hv : v0 = v
      · subst hv
        gi_wp2
        refine ⟨HK2.out.1, HK2.out.2, ?_⟩
        unfold ITD
        rw [List.length_append]
        exact HT1.out
      · have hv' : (v0 == v) = false := by simp; exact hv
        gi_wp2
        exact ⟨HKO.out, rfl, .inl ⟨pre, _, rfl, by rw [HP0.out]; intro e; simp at e; exact hv e⟩⟩
    · have hk' : (k0 == k) = false := by simp; exact hk
      gi_wp2
      exact ⟨HKO.out, rfl, .inl ⟨pre, _, rfl, by rw [HP0.out]; intro e; simp at e; exact hk e.1⟩⟩
  case st1 =>
    rintro D c pre W hD hSp ⟨rfl, h9⟩ hK
    rcases h9 with ⟨pre0, x, rfl, hbad⟩ | ⟨l6, e6⟩
    · exact absurd (no_badD hSp) hbad
    · have HLA : Hid (LB W B6 4 [.bool true] ∧ Below w.heap.size w W) := ⟨l6, e6⟩
      have HDW : Hid (w.heap.size ≤ D) := Nat.le_trans HS1.out.bel.size hD
      clear l6 e6
      gi_wp2
      have l0 := lb_putObj HLA.out.1 hK rfl (.deferred none)
      have e0 := below_putObj HLA.out.2 HDW.out (.deferred none)
      refine ⟨by simp, .inl ⟨_, _, rfl, run_takeDeferred hK, ?_⟩⟩
      have z9 := l0.cell 0 _ rfl
      refine ⟨.bool true, ?_, rfl, _, _, _, Nat.le_succ _, Nat.le_succ _, HWS.out.kept e0, DF.of e0 HWS.out.mi.blt.2⟩
      simp [results, Try.f42, go_sem, z9]
  case do1 =>
    rintro D xs W hD hxs hs hK
    have hxl : xs.length = wl.length := by rw [← hxs, List.length_map]
    unfold ITD at hs
    rw [hxl] at hs
    have y9 := hs.wbx.cell 0 _ rfl
    have y10 := hs.ctr.cell 0 _ rfl
    have y6 := hs.res.cell 0 _ rfl
    have f6 := hs.res.free 0
    have hwe : ((wl.length : Int) == (wl.length : Int)) = true := by simp
    have HLA : Hid (∀ W', W' = W.setCell ⟨B6, 0, none⟩ (.bool true) → LB W' B6 4 [.bool true] ∧ Below w.heap.size w W' ∧ W'.heap[D]? = some (.deferred (some []))) := fun W' e => by
      subst e
      exact ⟨hs.res.set 0 _, hs.bel.setCell (p := ⟨B6, 0, none⟩) hs.r6 _, (KeepsOthers.setCell W ⟨B6, 0, none⟩ (.bool true)).same D _ hK rfl⟩
    have HDW : Hid (w.heap.size ≤ D) := Nat.le_trans HS1.out.bel.size hD
    clear hs hxs hK hxl
    gi_wp2
    obtain ⟨W5, hW5⟩ : ∃ W5, W5 = W.setCell ⟨B6, 0, none⟩ (.bool true) := ⟨_, rfl⟩
    rw [← hW5]
    obtain ⟨a1, a2, a3⟩ := HLA.out W5 hW5
    have l0 := lb_putObj a1 a3 rfl (.deferred none)
    have e0 := below_putObj a2 HDW.out (.deferred none)
    refine ⟨by simp, .inl ⟨_, _, rfl, run_takeDeferred a3, ?_⟩⟩
    have z9 := l0.cell 0 _ rfl
    refine ⟨.bool true, ?_, rfl, _, _, _, Nat.le_succ _, Nat.le_succ _, HWS.out.kept e0, DF.of e0 HWS.out.mi.blt.2⟩
    simp [results, Try.f42, go_sem, z9]
set_option maxRecDepth 100000 in
set_option maxHeartbeats 8000000 in
theorem ixdoes_go4 (Z gw g b base n mA : Nat) (all : Bool) (lo hi l2 h2 : Int) (nv : Value) (ps : List (Int × Int)) (at_ ky vl sp : Int) (w : World) (h : WS Z gw g b base all lo hi n nv ps w) (hZw : Z ≤ w.heap.size) (hl : ps.length ≤ 900000) (hit : TItB w g mA l2 h2) (hl2 : l2 = if all then -9223372036854775808 else lo) (hh2 : h2 = if all then 9223372036854775807 else hi) :
    Calls Try.prog 42 #[.pointer (some ⟨gw, 0, none⟩), .func (.func 57) #[] #[.pointer (some ⟨mA, 0, none⟩), .pointer (some ⟨mA + 1, 0, none⟩), .pointer (some ⟨mA + 2, 0, none⟩)], .agg #[.int .i64 at_, .int .i64 4, .int .i64 ky, .int .i64 vl, .int .i64 sp]] w fun e w' => e = .returned (.bool true) ∧ DoPost Z gw g b base all lo hi n ps w w' := by
  obtain ⟨va, vc, hve, -⟩ := id h.wk.pr
  subst hve
  have HIT : Hid (TItB w g mA l2 h2) := hit
  have HTO : Hid (∀ W, Below w.heap.size w W → Calls Try.prog 41 #[.pointer (some ⟨gw, 0, none⟩)] W fun e w' => ∃ v', e = .returned v' ∧ w'.ownsRow W.heap.size 54 2 v' (wtold all lo hi ps).length ((wtold all lo hi ps).flatMap enP) ∧ Below W.heap.size W w') := fun W hW => ixwtold_any gw g all lo hi _ ps W (h.wk.kept hW) (by omega) fun p hp => by
    have h9 := (h.wf p hp).1
    simp [Lit.wf, IntKind.min, IntKind.max, IntKind.signed, IntKind.bits] at h9
    omega
  have HWL : Hid (wtold all lo hi ps = prs (within (Ix.gml ps) l2 h2)) := by rw [hl2, hh2]; exact rfl
  have HPL : Hid ((wtold all lo hi ps).length ≤ ps.length) := by
    have h1 := Ix.within_total (Ix.gml ps) (if all then -9223372036854775808 else lo) (if all then 9223372036854775807 else hi)
    rw [(Ix.gml_fine ps).tot] at h1
    show (wtold all lo hi ps).length ≤ ps.length
    unfold wtold
    rw [Ix.prs_len]
    exact h1
  have HGM : Hid ((Ix.gml ps).length ≤ 10000000) := Nat.le_trans (Ix.gml_fine ps).len (by omega)
  refine callsIn_wide (n := 5) |>.1 ?_
  have HWS : Hid (WS Z gw g b base all lo hi n (.slice va ps.length vc) ps w) := h
  have HW1 : Hid (∀ W, W = (w.alloc (.cells #[.int .i64 at_, .int .i64 4, .int .i64 ky, .int .i64 vl, .int .i64 sp] 85)).alloc (.cells #[.bool false] 4) → LB W w.heap.size 85 [.int .i64 at_, .int .i64 4, .int .i64 ky, .int .i64 vl, .int .i64 sp] ∧ LB W (w.heap.size + 1) 4 [.bool false] ∧ Below w.heap.size w W) := fun W e => by
    subst e
    have h1 := lb_new w [.int .i64 at_, .int .i64 4, .int .i64 ky, .int .i64 vl, .int .i64 sp] 85
    have h2 := lb_new (w.alloc (.cells #[.int .i64 at_, .int .i64 4, .int .i64 ky, .int .i64 vl, .int .i64 sp] 85)) [.bool false] 4
    rw [heap_one] at h2
    exact ⟨h1.kept (up0 _ _), h2, up (up0 _ _) _⟩
  have HZ0 : Hid (Z ≤ b ∧ Z ≤ gw ∧ Z ≤ w.heap.size ∧ w.heap.size ≤ w.heap.size + 1 ∧ b < w.heap.size) := ⟨h.zb, h.zg, hZw, Nat.le_succ _, h.mi.blt.2⟩
  have HGL : Hid (gw < w.heap.size) := h.wk.box.lt
  clear h
  refine callsIn_of_wp_marks Try.func42 rfl trivial ?_ rfl
  simp only [Try.ntmps42, List.size_toArray, List.length_cons, List.length_nil, Nat.reduceAdd, Nat.reduceSub, Array.replicate_succ, Array.replicate_zero, List.push_toArray, List.append_toArray, List.nil_append, List.cons_append]
  gi_upto_region 1 with fail
  obtain ⟨W1, hW1⟩ : ∃ W1, W1 = (w.alloc (.cells #[.int .i64 at_, .int .i64 4, .int .i64 ky, .int .i64 vl, .int .i64 sp] 85)).alloc (.cells #[.bool false] 4) := ⟨_, rfl⟩
  rw [← hW1]
  obtain ⟨L5, L6, b1⟩ := HW1.out W1 hW1
  obtain ⟨B5, hB5⟩ : ∃ x, x = w.heap.size := ⟨_, rfl⟩
  obtain ⟨B6, hB6⟩ : ∃ x, x = w.heap.size + 1 := ⟨_, rfl⟩
  rw [← hB6] at L6 HZ0 ⊢
  rw [← hB5] at L5 ⊢
  have HZ : Hid (Z ≤ b ∧ Z ≤ gw ∧ Z ≤ w.heap.size ∧ w.heap.size ≤ B6 ∧ b < w.heap.size) := HZ0.out
  have HNE : Hid (gw ≠ B5 ∧ gw ≠ B6) := ⟨by have := HGL.out; omega, by have := HGL.out; omega⟩
  have HL1 : Hid (LB W1 B5 85 [.int .i64 at_, .int .i64 4, .int .i64 ky, .int .i64 vl, .int .i64 sp] ∧ LB W1 B6 4 [.bool false] ∧ Below w.heap.size w W1) := ⟨L5, L6, b1⟩
  have x51 := L5.cell 1 _ rfl
  clear hW1 HW1 L5 L6 b1 hB5 hB6 HZ0
  clear hl2 hh2 hit
  generalize wtold all lo hi ps = wl at HTO HWL HPL
  gi_upto_region 12 with fail
  gi_wp2
  refine ⟨trivial, (callsIn_wide.2 (HTO.out W1 HL1.out.2.2)).mono ?_⟩
  rintro e W2 ⟨wv, rfl, r2, b2⟩
  obtain ⟨wa, wc, e2, -⟩ := Mg.row_shape r2
  subst e2
  have HBX : Hid (∀ W, W = (W2.alloc (.cells #[.slice wa wl.length wc] 55)).alloc (.cells #[.int .i64 0] 3) → TD w B5 B6 W2.heap.size (W2.heap.size + 1) [.int .i64 at_, .int .i64 4, .int .i64 ky, .int .i64 vl, .int .i64 sp] (.slice wa wl.length wc) wl 0 W) := fun W e => by
    have h1 := lb_new W2 [.slice wa wl.length wc] 55
    have h2 := lb_new (W2.alloc (.cells #[.slice wa wl.length wc] 55)) [.int .i64 0] 3
    rw [heap_one] at h2
    have hb : Below W2.heap.size W2 W := by
      rw [e]
      exact up (up0 _ _) _
    have hw2 : w.heap.size ≤ W2.heap.size := Nat.le_trans HL1.out.2.2.size b2.size
    exact ⟨andThen (andThen HL1.out.2.2 b2) hb, (HL1.out.1.kept b2).kept hb, (HL1.out.2.1.kept b2).kept hb, by rw [e]; exact h1.kept (up0 _ _), Mg.row_kept (Mg.row_weak r2 HL1.out.2.2.size) hb, by rw [e]; exact h2, HZ.out.2.2.2.1, by omega⟩
  clear r2 b2 x51 HL1 HTO
  gi_wp2
  obtain ⟨V, hV⟩ : ∃ V, V = (W2.alloc (.cells #[.slice wa wl.length wc] 55)).alloc (.cells #[.int .i64 0] 3) := ⟨_, rfl⟩
  rw [← hV]
  have h1 := HBX.out V hV
  obtain ⟨B10, hB10⟩ : ∃ q, q = W2.heap.size + 1 := ⟨_, rfl⟩
  rw [← hB10] at h1 ⊢
  obtain ⟨B9, hB9⟩ : ∃ q, q = W2.heap.size := ⟨_, rfl⟩
  rw [← hB9] at h1 ⊢
  have HS1 : Hid (TD w B5 B6 B9 B10 [.int .i64 at_, .int .i64 4, .int .i64 ky, .int .i64 vl, .int .i64 sp] (.slice wa wl.length wc) wl 0 V) := h1
  clear hV HBX hB9 hB10 h1
  have HLW : Hid (wl.length ≤ 900000) := Nat.le_trans HPL.out hl
  have HMR : Hid (∀ W q, Below w.heap.size w W → w.heap.size ≤ q → ¬ Mrow W b q) := fun W q hW hq hm9 => by
    have h9 := (HWS.out.mi.row (hm9.same (hW.block b HWS.out.mi.blt.2))).2
    omega
  refine wpIn_rangeFunc_ownF rfl (by omega) (gf := 57) (lb := #[.pointer (some ⟨mA, 0, none⟩), .pointer (some ⟨mA + 1, 0, none⟩), .pointer (some ⟨mA + 2, 0, none⟩)]) rfl trivial (enters_of Try.func57 (by kernel_rfl) rfl) (encs := encsP) (Kp := KpI (fun k => k = B10) 54) (S := fun xs : List PI => xs.map (·.1) = wl) (Sp := fun pre : List PI => pre.map (fun q : PI => q.1) <+: wl) (N := wl.length) (w0 := V) ?sq1 KpI.trans (fun W l o o' _ h1 h2 _ => kpI_b W l o o' h1 h2) (Below.refl _ _) (fun _ => rfl) (ITD w B5 B6 B9 B10 [.int .i64 at_, .int .i64 4, .int .i64 ky, .int .i64 vl, .int .i64 sp] (.slice wa wl.length wc) wl) (IXD w B6 wl) (ITD_own HS1.out.bel.size) (IXD_own HS1.out.bel.size) ?hz1 ?a1 ?as1 ?bo1 ?do1 ?st1
  case as1 =>
    intro l x W K hK
    unfold encsP
    gi_wp2
    exact hK
  case sq1 =>
    intro l J Jx W hW hJ _ hY h0
    have hs := HS1.out.kept hW
    have hY2 := hY
    have h9 := ixrange1_in 4 l (fun k => k = B10) 54 g b base n (Ix.gml ps) l2 h2 mA (mA + 1) (mA + 2) W (HWS.out.mi.kept hs.bel) HGM.out ((HIT.out.1.kept hs.bel).cell 0 _ rfl) ((HIT.out.2.1.kept hs.bel).cell 0 _ rfl) ((HIT.out.2.2.kept hs.bel).cell 0 _ rfl) (fun q hq => by
      subst hq
      exact ⟨hs.ctr.lt, HMR.out W q hs.bel hs.r10⟩) (by decide) (by decide) J Jx hJ (by rw [← HWL.out]; exact hY) h0
    rw [← HWL.out] at h9
    exact h9
  case hz1 => exact HS1.out
  case bo1 =>
    rintro l pre ⟨⟨k, v⟩, hwk, hwv⟩ WW hs hlen
    have HSS : Hid (TD w B5 B6 B9 B10 [.int .i64 at_, .int .i64 4, .int .i64 ky, .int .i64 vl, .int .i64 sp] (.slice wa wl.length wc) wl (pre.length : Int) WW) := hs
    have hs9 : TD w B5 B6 B9 B10 [.int .i64 at_, .int .i64 4, .int .i64 ky, .int .i64 vl, .int .i64 sp] (.slice wa wl.length wc) wl (pre.length : Int) WW := hs
    obtain ⟨q9, c9, he9, c0, c1⟩ := hs9.at pre.length hlen
    simp only [Value.slice.injEq] at he9
    obtain ⟨rfl, -, rfl⟩ := he9
    obtain ⟨p0, hp0⟩ : ∃ p0, p0 = wl[pre.length] := ⟨_, rfl⟩
    rw [← hp0] at c0 c1
    have HP0 : Hid (wl[pre.length]? = some p0) := by
      rw [hp0]
      exact List.getElem?_eq_getElem hlen
    obtain ⟨k0, v0⟩ := p0
    simp only at c0 c1
    have hpl : (pre.length : Int) ≤ 900000 := by have := HLW.out; omega
    have hwp : IntKind.i64.wrap ((pre.length : Int) + 1) = (pre.length : Int) + 1 := IntWalk.i64_in _ (by omega)
    have hge : ((wl.length : Int) ≤ (pre.length : Int)) = False := by simp; omega
    have y9 := hs9.wbx.cell 0 _ rfl
    have y10 := hs9.ctr.cell 0 _ rfl
    have f10 := hs9.ctr.free 0
    have y6 := hs9.res.cell 0 _ rfl
    have f6 := hs9.res.free 0
    have T1 := hs9.set ((pre.length : Int) + 1)
    have z10 := T1.ctr.cell 0 _ rfl
    have z51 := T1.act.cell 1 _ rfl
    have z54 := T1.act.cell 4 _ rfl
    have z6 := T1.res.cell 0 _ rfl
    have g6 := T1.res.free 0
    have HT1 : Hid (TD w B5 B6 B9 B10 [.int .i64 at_, .int .i64 4, .int .i64 ky, .int .i64 vl, .int .i64 sp] (.slice (some ⟨q9, 0, none⟩) wl.length wc) wl ((pre.length : Int) + 1) (WW.setCell ⟨B10, 0, none⟩ (.int .i64 ((pre.length : Int) + 1)))) := T1
    have HKO : Hid (KeepsOthers WW (WW.setCell ⟨B6, 0, none⟩ (.bool false))) := KeepsOthers.setCell _ _ _
    have HK2 : Hid (KeepsOthers WW (WW.setCell ⟨B10, 0, none⟩ (.int .i64 ((pre.length : Int) + 1))) ∧ KpI (fun k => k = B10) 54 WW (WW.setCell ⟨B10, 0, none⟩ (.int .i64 ((pre.length : Int) + 1)))) := ⟨KeepsOthers.setCell _ _ _, kpI_set _ _ _ _ _ rfl⟩
    clear hs hs9 T1 hp0
    by_cases hk : k0 = k
    · subst hk
      by_cases hv : v0 = v
      · subst hv
        by_cases hst : (pre.length : Int) + 1 = sp
        · have hst' : ((pre.length : Int) + 1 == sp) = true := by simp; exact hst
          have HLS : Hid (∀ W', W' = (WW.setCell ⟨B10, 0, none⟩ (.int .i64 ((pre.length : Int) + 1))).setCell ⟨B6, 0, none⟩ (.bool true) → KeepsOthers WW W' ∧ LB W' B6 4 [.bool true] ∧ Below w.heap.size w W') := fun W' e => by
            subst e
            exact ⟨(KeepsOthers.setCell _ _ _).trans (KeepsOthers.setCell _ _ _), HT1.out.res.set 0 _, HT1.out.bel.setCell (p := ⟨B6, 0, none⟩) HT1.out.r6 _⟩
          clear hst
          gi_wp2
          exact ⟨(HLS.out _ rfl).1, rfl, .inr (HLS.out _ rfl).2⟩
        · have hst' : ((pre.length : Int) + 1 == sp) = false := by simp; exact hst
          clear hst
          gi_wp2
          refine ⟨HK2.out.1, HK2.out.2, ?_⟩
          unfold ITD
          rw [List.length_append]
          exact HT1.out
      · have hv' : (v0 == v) = false := by simp; exact hv
        gi_wp2
        exact ⟨HKO.out, rfl, .inl ⟨pre, _, rfl, by rw [HP0.out]; intro e; simp at e; exact hv e⟩⟩
    · have hk' : (k0 == k) = false := by simp; exact hk
      gi_wp2
      exact ⟨HKO.out, rfl, .inl ⟨pre, _, rfl, by rw [HP0.out]; intro e; simp at e; exact hk e.1⟩⟩
  case st1 =>
    rintro D c pre W hD hSp ⟨rfl, h9⟩ hK
    rcases h9 with ⟨pre0, x, rfl, hbad⟩ | ⟨l6, e6⟩
    · exact absurd (no_badD hSp) hbad
    · have HLA : Hid (LB W B6 4 [.bool true] ∧ Below w.heap.size w W) := ⟨l6, e6⟩
      have HDW : Hid (w.heap.size ≤ D) := Nat.le_trans HS1.out.bel.size hD
      clear l6 e6
      gi_wp2
      have l0 := lb_putObj HLA.out.1 hK rfl (.deferred none)
      have e0 := below_putObj HLA.out.2 HDW.out (.deferred none)
      refine ⟨by simp, .inl ⟨_, _, rfl, run_takeDeferred hK, ?_⟩⟩
      have z9 := l0.cell 0 _ rfl
      refine ⟨.bool true, ?_, rfl, _, _, _, Nat.le_succ _, Nat.le_succ _, HWS.out.kept e0, DF.of e0 HWS.out.mi.blt.2⟩
      simp [results, Try.f42, go_sem, z9]
  case do1 =>
    rintro D xs W hD hxs hs hK
    have hxl : xs.length = wl.length := by rw [← hxs, List.length_map]
    unfold ITD at hs
    rw [hxl] at hs
    have y9 := hs.wbx.cell 0 _ rfl
    have y10 := hs.ctr.cell 0 _ rfl
    have y6 := hs.res.cell 0 _ rfl
    have f6 := hs.res.free 0
    have hwe : ((wl.length : Int) == (wl.length : Int)) = true := by simp
    have HLA : Hid (∀ W', W' = W.setCell ⟨B6, 0, none⟩ (.bool true) → LB W' B6 4 [.bool true] ∧ Below w.heap.size w W' ∧ W'.heap[D]? = some (.deferred (some []))) := fun W' e => by
      subst e
      exact ⟨hs.res.set 0 _, hs.bel.setCell (p := ⟨B6, 0, none⟩) hs.r6 _, (KeepsOthers.setCell W ⟨B6, 0, none⟩ (.bool true)).same D _ hK rfl⟩
    have HDW : Hid (w.heap.size ≤ D) := Nat.le_trans HS1.out.bel.size hD
    clear hs hxs hK hxl
    gi_wp2
    obtain ⟨W5, hW5⟩ : ∃ W5, W5 = W.setCell ⟨B6, 0, none⟩ (.bool true) := ⟨_, rfl⟩
    rw [← hW5]
    obtain ⟨a1, a2, a3⟩ := HLA.out W5 hW5
    have l0 := lb_putObj a1 a3 rfl (.deferred none)
    have e0 := below_putObj a2 HDW.out (.deferred none)
    refine ⟨by simp, .inl ⟨_, _, rfl, run_takeDeferred a3, ?_⟩⟩
    have z9 := l0.cell 0 _ rfl
    refine ⟨.bool true, ?_, rfl, _, _, _, Nat.le_succ _, Nat.le_succ _, HWS.out.kept e0, DF.of e0 HWS.out.mi.blt.2⟩
    simp [results, Try.f42, go_sem, z9]
end Go.Proofs.Ytceokpklcfmadaa
