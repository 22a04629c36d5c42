import Derived.Test.YtjepeeopjjnglabQN19
/-
  The document's disk: Arm, Read, List, Free.
-/
namespace Go.Proofs.Ytjepeeopjjnglab
open Go Go.RowKit Go.ChangeShapes
open Wb
open Rd
set_option maxRecDepth 100000 in
set_option maxHeartbeats 8000000 in
theorem rkarm_any (ok : Nat → Prop) (R : RS) (v : Value) (n : Int) (w : World) (h : RdM ok w R v) :
    Calls Try.prog 63 #[v, .int .i64 n] w fun e w' => ∃ v', e = .returned v' ∧ RdM (fun q => ok q ∨ w.heap.size ≤ q) w' (rarm R n) v' ∧ Below w.heap.size w w' := by
  obtain ⟨xs, tv, nv, lv, cv, rfl, hxs, hS⟩ := h
  have HV0 : Hid (SM ok w xs R.nm R.la R.ch tv nv lv cv) := hS
  have HXS : Hid (R.th = xs.map (·.2)) := hxs
  obtain ⟨a1, c1, m1, h1, h2, h3⟩ := row_at hS.rt.row
  subst m1
  obtain ⟨a2, c2, m2, n1, n2, n3⟩ := row_at hS.rn.row
  subst m2
  obtain ⟨a3, c3, rfl⟩ := rw_slice hS.rl
  obtain ⟨a4, c4, rfl⟩ := rw_slice hS.rc
  unfold maxLen at h2 n2
  clear hS hxs
  have HRD : Hid (rarm R n = if R.down = true then R else { R with left := if n < 0 then -1 else n }) := rfl
  generalize rarm R n = RD at *
  obtain ⟨l2, l3, b2⟩ := lb_new2 w [.int .i64 R.quota, .slice a1 xs.length c1, .slice a2 R.nm.length c2, .slice a3 R.la.length c3, .slice a4 R.ch.length c4, .int .i64 R.left, .bool R.down] [.int .i64 0, .slice none 0 0, .slice none 0 0, .slice none 0 0, .slice none 0 0, .int .i64 0, .bool false] 54 54
  go_enter Try.func63, Try.ntmps63
  go_upto_region 1 with fail
  obtain ⟨W3, hW3⟩ : ∃ W, W = (w.alloc (.cells #[.int .i64 R.quota, .slice a1 xs.length c1, .slice a2 R.nm.length c2, .slice a3 R.la.length c3, .slice a4 R.ch.length c4, .int .i64 R.left, .bool R.down] 54)).alloc (.cells #[.int .i64 0, .slice none 0 0, .slice none 0 0, .slice none 0 0, .slice none 0 0, .int .i64 0, .bool false] 54) := ⟨_, rfl⟩
  rw [← hW3]
  obtain ⟨p2, hp2⟩ : ∃ p, p = w.heap.size := ⟨_, rfl⟩
  obtain ⟨p4, hp4⟩ : ∃ p, p = w.heap.size + 1 := ⟨_, rfl⟩
  rw [← hp4, ← hp2]
  have HB3 : Hid (LB W3 p2 54 [.int .i64 R.quota, .slice a1 xs.length c1, .slice a2 R.nm.length c2, .slice a3 R.la.length c3, .slice a4 R.ch.length c4, .int .i64 R.left, .bool R.down] ∧ LB W3 p4 54 [.int .i64 0, .slice none 0 0, .slice none 0 0, .slice none 0 0, .slice none 0 0, .int .i64 0, .bool false] ∧ Below w.heap.size w W3) := by
    rw [hp2, hp4, hW3]
    exact ⟨l2, l3, b2⟩
  have HPB : Hid (w.heap.size ≤ p2 ∧ w.heap.size ≤ p4) := ⟨by omega, by omega⟩
  have HNE : Hid (p4 ≠ p2) := by
    show p4 ≠ p2
    omega
  have n24 : (p2 = p4) = False := eq_false (Ne.symm HNE.out)
  have n42 : (p4 = p2) = False := eq_false HNE.out
  clear l2 l3 b2 hW3 hp2 hp4
  obtain ⟨ok2, hok2⟩ : ∃ f : Nat → Prop, f = fun q => (ok q ∧ q < w.heap.size) ∨ W3.heap.size ≤ q := ⟨_, rfl⟩
  have HOK2 : Hid (∀ q, ok2 q → q ≠ p2 ∧ q ≠ p4 ∧ q ≠ p4) := fun q hq => by
    rw [hok2] at hq
    have k2 := HB3.out.1.lt
    have k4 := HB3.out.2.1.lt
    have kp := HPB.out
    rcases hq with ⟨-, h9⟩ | h9
    · exact ⟨by omega, by omega, by omega⟩
    · exact ⟨by omega, by omega, by omega⟩
  have HLOW : Hid (∀ q, ok q ∧ q < w.heap.size → ok2 q) := fun q hq => by rw [hok2]; exact .inl hq
  have HMO : Hid (∀ q, ok2 q → ok q ∨ w.heap.size ≤ q) := fun q hq => by
    rw [hok2] at hq
    rcases hq with ⟨h9, -⟩ | h9
    · exact .inl h9
    · exact .inr (Nat.le_trans HB3.out.2.2.size h9)
  clear hok2
  have z0 := HB3.out.2.1.cell 0 _ rfl
  have g0 := HB3.out.2.1.free 0
  have z1 := HB3.out.2.1.cell 1 _ rfl
  have g1 := HB3.out.2.1.free 1
  have z2 := HB3.out.2.1.cell 2 _ rfl
  have g2 := HB3.out.2.1.free 2
  have z3 := HB3.out.2.1.cell 3 _ rfl
  have g3 := HB3.out.2.1.free 3
  have z4 := HB3.out.2.1.cell 4 _ rfl
  have g4 := HB3.out.2.1.free 4
  have z5 := HB3.out.2.1.cell 5 _ rfl
  have g5 := HB3.out.2.1.free 5
  have z6 := HB3.out.2.1.cell 6 _ rfl
  have g6 := HB3.out.2.1.free 6
  have d0 := HB3.out.1.cell 0 _ rfl
  have f0 := HB3.out.1.free 0
  have d1 := HB3.out.1.cell 1 _ rfl
  have f1 := HB3.out.1.free 1
  have d2 := HB3.out.1.cell 2 _ rfl
  have f2 := HB3.out.1.free 2
  have d3 := HB3.out.1.cell 3 _ rfl
  have f3 := HB3.out.1.free 3
  have d4 := HB3.out.1.cell 4 _ rfl
  have f4 := HB3.out.1.free 4
  have d5 := HB3.out.1.cell 5 _ rfl
  have f5 := HB3.out.1.free 5
  have d6 := HB3.out.1.cell 6 _ rfl
  have f6 := HB3.out.1.free 6
  cases hdn : R.down with
  | true =>
    have HE1 : Hid (RD = R) := by rw [HRD.out, if_pos hdn]; rfl
    have hdn2 : Hid (R.down = true) := hdn
    rw [hdn] at d6
    clear HRD hdn
    go_wp2_with fail
    have LZ := (((((((HB3.out.2.1.set 0 (.int .i64 R.quota)).set 1 (.slice a1 xs.length c1)).set 2 (.slice a2 R.nm.length c2)).set 3 (.slice a3 R.la.length c3)).set 4 (.slice a4 R.ch.length c4)).set 5 (.int .i64 R.left)).set 6 (.bool true))
    refine bodyPost_ret (results_cell_mid rfl _ _ p4 [.int .i64 R.quota, .slice a1 xs.length c1, .slice a2 R.nm.length c2, .slice a3 R.la.length c3, .slice a4 R.ch.length c4, .int .i64 R.left, .bool true] _ rfl LZ.range Try.underlying54 rfl (by kernel_rfl)) rfl ?_
    have far : ∀ q, q ≠ p2 → q ≠ p4 → q ≠ p4 → (((((((W3.setCell ⟨p4, 0, none⟩ (.int .i64 R.quota)).setCell ⟨p4, 1, none⟩ (.slice a1 xs.length c1)).setCell ⟨p4, 2, none⟩ (.slice a2 R.nm.length c2)).setCell ⟨p4, 3, none⟩ (.slice a3 R.la.length c3)).setCell ⟨p4, 4, none⟩ (.slice a4 R.ch.length c4)).setCell ⟨p4, 5, none⟩ (.int .i64 R.left)).setCell ⟨p4, 6, none⟩ (.bool true)).heap[q]? = W3.heap[q]? := fun q h2 h4 _ => by
      rw [set_other _ _ _ _ h4, set_other _ _ _ _ h4, set_other _ _ _ _ h4, set_other _ _ _ _ h4, set_other _ _ _ _ h4, set_other _ _ _ _ h4, set_other _ _ _ _ h4]
    have bl := (((((((HB3.out.2.2.setCell (p := ⟨p4, 0, none⟩) HPB.out.2 (.int .i64 R.quota)).setCell (p := ⟨p4, 1, none⟩) HPB.out.2 (.slice a1 xs.length c1)).setCell (p := ⟨p4, 2, none⟩) HPB.out.2 (.slice a2 R.nm.length c2)).setCell (p := ⟨p4, 3, none⟩) HPB.out.2 (.slice a3 R.la.length c3)).setCell (p := ⟨p4, 4, none⟩) HPB.out.2 (.slice a4 R.ch.length c4)).setCell (p := ⟨p4, 5, none⟩) HPB.out.2 (.int .i64 R.left)).setCell (p := ⟨p4, 6, none⟩) HPB.out.2 (.bool true))
    rw [HE1.out]
    exact ⟨_, rfl, dk_fin ((HV0.out.lo.mono fun q hq => HLOW.out q hq).kept HB3.out.2.2) far HOK2.out HMO.out ⟨HXS.out, rfl, rfl, rfl, rfl, rfl, hdn2.out⟩, bl⟩
  | false =>
    have hdn2 : Hid (R.down = false) := hdn
    have HRD2 : Hid (RD = { R with left := if n < 0 then -1 else n }) := by rw [HRD.out, if_neg (by rw [hdn]; simp)]; rfl
    rw [hdn] at d6
    clear HRD hdn
    by_cases hn : n < 0
    · have HE1 : Hid (RD = { R with left := -1 }) := by rw [HRD2.out, if_pos hn]; rfl
      have xn : (n < 0) = True := eq_true hn
      clear HRD2 hn
      go_wp2_with fail
      have LZ := (((((((((HB3.out.2.1.other ⟨p2, 5, none⟩ (.int .i64 n) HNE.out).other ⟨p2, 5, none⟩ (.int .i64 (-1)) HNE.out).set 0 (.int .i64 R.quota)).set 1 (.slice a1 xs.length c1)).set 2 (.slice a2 R.nm.length c2)).set 3 (.slice a3 R.la.length c3)).set 4 (.slice a4 R.ch.length c4)).set 5 (.int .i64 (-1))).set 6 (.bool false))
      refine bodyPost_ret (results_cell_mid rfl _ _ p4 [.int .i64 R.quota, .slice a1 xs.length c1, .slice a2 R.nm.length c2, .slice a3 R.la.length c3, .slice a4 R.ch.length c4, .int .i64 (-1), .bool false] _ rfl LZ.range Try.underlying54 rfl (by kernel_rfl)) rfl ?_
      have far : ∀ q, q ≠ p2 → q ≠ p4 → q ≠ p4 → (((((((((W3.setCell ⟨p2, 5, none⟩ (.int .i64 n)).setCell ⟨p2, 5, none⟩ (.int .i64 (-1))).setCell ⟨p4, 0, none⟩ (.int .i64 R.quota)).setCell ⟨p4, 1, none⟩ (.slice a1 xs.length c1)).setCell ⟨p4, 2, none⟩ (.slice a2 R.nm.length c2)).setCell ⟨p4, 3, none⟩ (.slice a3 R.la.length c3)).setCell ⟨p4, 4, none⟩ (.slice a4 R.ch.length c4)).setCell ⟨p4, 5, none⟩ (.int .i64 (-1))).setCell ⟨p4, 6, none⟩ (.bool false)).heap[q]? = W3.heap[q]? := fun q h2 h4 _ => by
        rw [set_other _ _ _ _ h4, set_other _ _ _ _ h4, set_other _ _ _ _ h4, set_other _ _ _ _ h4, set_other _ _ _ _ h4, set_other _ _ _ _ h4, set_other _ _ _ _ h4, set_other _ _ _ _ h2, set_other _ _ _ _ h2]
      have bl := (((((((((HB3.out.2.2.setCell (p := ⟨p2, 5, none⟩) HPB.out.1 (.int .i64 n)).setCell (p := ⟨p2, 5, none⟩) HPB.out.1 (.int .i64 (-1))).setCell (p := ⟨p4, 0, none⟩) HPB.out.2 (.int .i64 R.quota)).setCell (p := ⟨p4, 1, none⟩) HPB.out.2 (.slice a1 xs.length c1)).setCell (p := ⟨p4, 2, none⟩) HPB.out.2 (.slice a2 R.nm.length c2)).setCell (p := ⟨p4, 3, none⟩) HPB.out.2 (.slice a3 R.la.length c3)).setCell (p := ⟨p4, 4, none⟩) HPB.out.2 (.slice a4 R.ch.length c4)).setCell (p := ⟨p4, 5, none⟩) HPB.out.2 (.int .i64 (-1))).setCell (p := ⟨p4, 6, none⟩) HPB.out.2 (.bool false))
      rw [HE1.out]
      exact ⟨_, rfl, dk_fin ((HV0.out.lo.mono fun q hq => HLOW.out q hq).kept HB3.out.2.2) far HOK2.out HMO.out ⟨HXS.out, rfl, rfl, rfl, rfl, rfl, hdn2.out⟩, bl⟩
    · have HE1 : Hid (RD = { R with left := n }) := by rw [HRD2.out, if_neg hn]; rfl
      have xn : (n < 0) = False := eq_false hn
      clear HRD2 hn
      go_wp2_with fail
      have LZ := ((((((((HB3.out.2.1.other ⟨p2, 5, none⟩ (.int .i64 n) HNE.out).set 0 (.int .i64 R.quota)).set 1 (.slice a1 xs.length c1)).set 2 (.slice a2 R.nm.length c2)).set 3 (.slice a3 R.la.length c3)).set 4 (.slice a4 R.ch.length c4)).set 5 (.int .i64 n)).set 6 (.bool false))
      refine bodyPost_ret (results_cell_mid rfl _ _ p4 [.int .i64 R.quota, .slice a1 xs.length c1, .slice a2 R.nm.length c2, .slice a3 R.la.length c3, .slice a4 R.ch.length c4, .int .i64 n, .bool false] _ rfl LZ.range Try.underlying54 rfl (by kernel_rfl)) rfl ?_
      have far : ∀ q, q ≠ p2 → q ≠ p4 → q ≠ p4 → ((((((((W3.setCell ⟨p2, 5, none⟩ (.int .i64 n)).setCell ⟨p4, 0, none⟩ (.int .i64 R.quota)).setCell ⟨p4, 1, none⟩ (.slice a1 xs.length c1)).setCell ⟨p4, 2, none⟩ (.slice a2 R.nm.length c2)).setCell ⟨p4, 3, none⟩ (.slice a3 R.la.length c3)).setCell ⟨p4, 4, none⟩ (.slice a4 R.ch.length c4)).setCell ⟨p4, 5, none⟩ (.int .i64 n)).setCell ⟨p4, 6, none⟩ (.bool false)).heap[q]? = W3.heap[q]? := fun q h2 h4 _ => by
        rw [set_other _ _ _ _ h4, set_other _ _ _ _ h4, set_other _ _ _ _ h4, set_other _ _ _ _ h4, set_other _ _ _ _ h4, set_other _ _ _ _ h4, set_other _ _ _ _ h4, set_other _ _ _ _ h2]
      have bl := ((((((((HB3.out.2.2.setCell (p := ⟨p2, 5, none⟩) HPB.out.1 (.int .i64 n)).setCell (p := ⟨p4, 0, none⟩) HPB.out.2 (.int .i64 R.quota)).setCell (p := ⟨p4, 1, none⟩) HPB.out.2 (.slice a1 xs.length c1)).setCell (p := ⟨p4, 2, none⟩) HPB.out.2 (.slice a2 R.nm.length c2)).setCell (p := ⟨p4, 3, none⟩) HPB.out.2 (.slice a3 R.la.length c3)).setCell (p := ⟨p4, 4, none⟩) HPB.out.2 (.slice a4 R.ch.length c4)).setCell (p := ⟨p4, 5, none⟩) HPB.out.2 (.int .i64 n)).setCell (p := ⟨p4, 6, none⟩) HPB.out.2 (.bool false))
      rw [HE1.out]
      exact ⟨_, rfl, dk_fin ((HV0.out.lo.mono fun q hq => HLOW.out q hq).kept HB3.out.2.2) far HOK2.out HMO.out ⟨HXS.out, rfl, rfl, rfl, rfl, rfl, hdn2.out⟩, bl⟩
set_option maxRecDepth 100000 in
set_option maxHeartbeats 8000000 in
theorem rkfree_any (ok : Nat → Prop) (R : RS) (v : Value) (w : World) (h : RdM ok w R v) (hq : 0 ≤ R.quota ∧ R.quota ≤ 4194304) (htk : tkn R.th ≤ 4194304) :
    Calls Try.prog 27 #[v] w fun e w' => e = .returned (.int .i64 (rfree R)) ∧ Below w.heap.size w w' := by
  obtain ⟨xs, tv, nv, lv, cv, rfl, hxs, hS⟩ := h
  have HV0 : Hid (SM ok w xs R.nm R.la R.ch tv nv lv cv) := hS
  have HXS : Hid (R.th = xs.map (·.2)) := hxs
  obtain ⟨a1, c1, m1, h1, h2, h3⟩ := row_at hS.rt.row
  subst m1
  obtain ⟨a2, c2, m2, n1, n2, n3⟩ := row_at hS.rn.row
  subst m2
  obtain ⟨a3, c3, rfl⟩ := rw_slice hS.rl
  obtain ⟨a4, c4, rfl⟩ := rw_slice hS.rc
  unfold maxLen at h2 n2
  clear hS hxs
  have b1 := up0 w (.cells #[.int .i64 R.quota, .slice a1 xs.length c1, .slice a2 R.nm.length c2, .slice a3 R.la.length c3, .slice a4 R.ch.length c4, .int .i64 R.left, .bool R.down] 54)
  have l1 := lb_new w [.int .i64 R.quota, .slice a1 xs.length c1, .slice a2 R.nm.length c2, .slice a3 R.la.length c3, .slice a4 R.ch.length c4, .int .i64 R.left, .bool R.down] 54
  obtain ⟨W2, hW2⟩ : ∃ W, W = w.alloc (.cells #[.int .i64 R.quota, .slice a1 xs.length c1, .slice a2 R.nm.length c2, .slice a3 R.la.length c3, .slice a4 R.ch.length c4, .int .i64 R.left, .bool R.down] 54) := ⟨_, rfl⟩
  obtain ⟨p2, hp2⟩ : ∃ p, p = w.heap.size := ⟨_, rfl⟩
  have HB2 : Hid (LB W2 p2 54 [.int .i64 R.quota, .slice a1 xs.length c1, .slice a2 R.nm.length c2, .slice a3 R.la.length c3, .slice a4 R.ch.length c4, .int .i64 R.left, .bool R.down] ∧ Below w.heap.size w W2) := by
    rw [hW2, hp2]
    exact ⟨l1, b1⟩
  have HW2 : Hid (w.alloc (.cells #[.int .i64 R.quota, .slice a1 xs.length c1, .slice a2 R.nm.length c2, .slice a3 R.la.length c3, .slice a4 R.ch.length c4, .int .i64 R.left, .bool R.down] 54) = W2 ∧ w.heap.size = p2) := ⟨hW2.symm, hp2.symm⟩
  clear b1 l1 hW2 hp2
  have d0 := HB2.out.1.cell 0 _ rfl
  have d1 := HB2.out.1.cell 1 _ rfl
  have d2 := HB2.out.1.cell 2 _ rfl
  have d3 := HB2.out.1.cell 3 _ rfl
  have d4 := HB2.out.1.cell 4 _ rfl
  have d5 := HB2.out.1.cell 5 _ rfl
  have d6 := HB2.out.1.cell 6 _ rfl
  have b1 := up0 W2 (.cells #[.slice a1 xs.length c1, .slice a2 R.nm.length c2, .slice a3 R.la.length c3, .slice a4 R.ch.length c4] 52)
  have l1 := lb_new W2 [.slice a1 xs.length c1, .slice a2 R.nm.length c2, .slice a3 R.la.length c3, .slice a4 R.ch.length c4] 52
  obtain ⟨W3, hW3⟩ : ∃ W, W = W2.alloc (.cells #[.slice a1 xs.length c1, .slice a2 R.nm.length c2, .slice a3 R.la.length c3, .slice a4 R.ch.length c4] 52) := ⟨_, rfl⟩
  obtain ⟨p3, hp3⟩ : ∃ p, p = W2.heap.size := ⟨_, rfl⟩
  have HB3 : Hid (LB W3 p3 52 [.slice a1 xs.length c1, .slice a2 R.nm.length c2, .slice a3 R.la.length c3, .slice a4 R.ch.length c4] ∧ LB W3 p2 54 [.int .i64 R.quota, .slice a1 xs.length c1, .slice a2 R.nm.length c2, .slice a3 R.la.length c3, .slice a4 R.ch.length c4, .int .i64 R.left, .bool R.down] ∧ Below w.heap.size w W3) := by
    rw [hW3, hp3]
    exact ⟨l1, HB2.out.1.kept b1, andThen HB2.out.2 b1⟩
  have HW3 : Hid (W2.alloc (.cells #[.slice a1 xs.length c1, .slice a2 R.nm.length c2, .slice a3 R.la.length c3, .slice a4 R.ch.length c4] 52) = W3 ∧ W2.heap.size = p3) := ⟨hW3.symm, hp3.symm⟩
  clear b1 l1 hW3 hp3
  cases hdn : R.down with
  | true =>
    have HE : Hid (rfree R = 0) := by
      show rfree R = 0
      unfold rfree
      rw [if_pos hdn]
    rw [hdn] at d6 HW2
    clear hdn
    go_enter Try.func27, Try.ntmps27
    go_upto_region 1 with fail
    rw [HW2.out.1, HW2.out.2]
    go_wp2_with fail
    go_returns
    exact ⟨by rw [HE.out]; rfl, HB2.out.2⟩
  | false =>
    have HE : Hid (rfree R = R.quota - (tkn R.th : Int)) := by
      show rfree R = _
      unfold rfree
      rw [if_neg (by rw [hdn]; simp)]
    rw [hdn] at d6 HW2
    clear hdn
    obtain ⟨T, hT⟩ : ∃ T, T = tkn R.th := ⟨_, rfl⟩
    have HTN : Hid (Calls Try.prog 52 #[.agg #[.slice a1 xs.length c1, .slice a2 R.nm.length c2, .slice a3 R.la.length c3, .slice a4 R.ch.length c4]] W3 fun e w' => e = .returned (.int .i64 (T : Int)) ∧ Below W3.heap.size W3 w') := by
      have h9 := rktaken_any ok xs R.nm R.la R.ch _ _ _ _ W3 (HV0.out.kept HB3.out.2.2) (by rw [← HXS.out]; omega)
      rw [← HXS.out, ← hT] at h9
      exact h9
    rw [← hT] at HE htk
    have hw : IntKind.i64.wrap (R.quota - (T : Int)) = R.quota - (T : Int) := IntWalk.i64_in _ (by omega)
    clear hT
    go_enter Try.func27, Try.ntmps27
    go_upto_region 1 with fail
    rw [HW2.out.1, HW2.out.2]
    go_upto_region 4 with fail
    rw [HW3.out.1, HW3.out.2]
    have s0 := HB3.out.1.cell 0 _ rfl
    have s1 := HB3.out.1.cell 1 _ rfl
    have s2 := HB3.out.1.cell 2 _ rfl
    have s3 := HB3.out.1.cell 3 _ rfl
    go_wp2_with fail
    refine HTN.out.mono ?_
    rintro e W4 ⟨rfl, b4⟩
    have HB4 : Hid (Below w.heap.size w W4) := andThen HB3.out.2.2 b4
    have d0 := (HB3.out.2.1.kept b4).cell 0 _ rfl
    clear b4 HTN
    go_wp2_with fail
    go_returns
    exact ⟨by rw [HE.out]; rfl, HB4.out⟩
set_option maxRecDepth 100000 in
set_option maxHeartbeats 8000000 in
theorem rkread_any (ok : Nat → Prop) (R : RS) (v : Value) (s : ByteArray) (w : World) (h : RdM ok w R v) (hs : s.size ≤ maxLen) (hok : okl R.th R.nm) (hln : ∀ t ∈ R.th, t.data.length ≤ 1000000000) :
    Calls Try.prog 81 #[v, .string s] w fun e w' => ∃ v' E, e = .returned (.tuple #[v', .int .i64 E]) ∧ (rread R s.data.toList).2 = E ∧ Own w.heap.size w' v' (rread R s.data.toList).1 ∧ Below w.heap.size w w' := by
  obtain ⟨xs, tv, nv, lv, cv, rfl, hxs, hS⟩ := h
  have HV0 : Hid (SM ok w xs R.nm R.la R.ch tv nv lv cv) := hS
  have HXS : Hid (R.th = xs.map (·.2)) := hxs
  obtain ⟨a1, c1, m1, h1, h2, h3⟩ := row_at hS.rt.row
  subst m1
  obtain ⟨a2, c2, m2, n1, n2, n3⟩ := row_at hS.rn.row
  subst m2
  obtain ⟨a3, c3, rfl⟩ := rw_slice hS.rl
  obtain ⟨a4, c4, rfl⟩ := rw_slice hS.rc
  unfold maxLen at h2 n2
  clear hS hxs
  have HPA0 : Hid (∀ W, Calls Try.prog 66 #[.string s] W fun e w' => e = .returned (.bool (Dk.isNm s.data.toList)) ∧ W = w') := fun W => (rkpath_any s W hs).mono fun e w' ⟨h1, h2⟩ => ⟨h1, h2.symm⟩
  obtain ⟨sa, hsa⟩ : ∃ a : List UInt8, s = ⟨a.toArray⟩ := ⟨s.data.toList, by simp⟩
  subst hsa
  have ea : (⟨sa.toArray⟩ : ByteArray).data.toList = sa := rfl
  rw [ea] at HPA0 ⊢
  have HRD : Hid (rread R sa = if R.down = true then ([], (60 : Int)) else if Dk.isNm sa = false then ([], (61 : Int)) else match Dk.get R.nm sa with | none => ([], (63 : Int)) | some i => ((R.th.getD i ⟨[], 0, false⟩).data, (0 : Int))) := rfl
  generalize rread R sa = RD at *
  clear hs
  have b1 := up0 w (.cells #[.int .i64 R.quota, .slice a1 xs.length c1, .slice a2 R.nm.length c2, .slice a3 R.la.length c3, .slice a4 R.ch.length c4, .int .i64 R.left, .bool R.down] 54)
  have l1 := lb_new w [.int .i64 R.quota, .slice a1 xs.length c1, .slice a2 R.nm.length c2, .slice a3 R.la.length c3, .slice a4 R.ch.length c4, .int .i64 R.left, .bool R.down] 54
  obtain ⟨W2, hW2⟩ : ∃ W, W = w.alloc (.cells #[.int .i64 R.quota, .slice a1 xs.length c1, .slice a2 R.nm.length c2, .slice a3 R.la.length c3, .slice a4 R.ch.length c4, .int .i64 R.left, .bool R.down] 54) := ⟨_, rfl⟩
  obtain ⟨p2, hp2⟩ : ∃ p, p = w.heap.size := ⟨_, rfl⟩
  have HB2 : Hid (LB W2 p2 54 [.int .i64 R.quota, .slice a1 xs.length c1, .slice a2 R.nm.length c2, .slice a3 R.la.length c3, .slice a4 R.ch.length c4, .int .i64 R.left, .bool R.down] ∧ Below w.heap.size w W2) := by
    rw [hW2, hp2]
    exact ⟨l1, b1⟩
  have HW2 : Hid (w.alloc (.cells #[.int .i64 R.quota, .slice a1 xs.length c1, .slice a2 R.nm.length c2, .slice a3 R.la.length c3, .slice a4 R.ch.length c4, .int .i64 R.left, .bool R.down] 54) = W2 ∧ w.heap.size = p2) := ⟨hW2.symm, hp2.symm⟩
  clear b1 l1 hW2 hp2
  have d0 := HB2.out.1.cell 0 _ rfl
  have d1 := HB2.out.1.cell 1 _ rfl
  have d2 := HB2.out.1.cell 2 _ rfl
  have d3 := HB2.out.1.cell 3 _ rfl
  have d4 := HB2.out.1.cell 4 _ rfl
  have d5 := HB2.out.1.cell 5 _ rfl
  have d6 := HB2.out.1.cell 6 _ rfl
  have b1 := up0 W2 (.cells #[.slice a1 xs.length c1, .slice a2 R.nm.length c2, .slice a3 R.la.length c3, .slice a4 R.ch.length c4] 52)
  have l1 := lb_new W2 [.slice a1 xs.length c1, .slice a2 R.nm.length c2, .slice a3 R.la.length c3, .slice a4 R.ch.length c4] 52
  obtain ⟨W3, hW3⟩ : ∃ W, W = W2.alloc (.cells #[.slice a1 xs.length c1, .slice a2 R.nm.length c2, .slice a3 R.la.length c3, .slice a4 R.ch.length c4] 52) := ⟨_, rfl⟩
  obtain ⟨p3, hp3⟩ : ∃ p, p = W2.heap.size := ⟨_, rfl⟩
  have HB3 : Hid (LB W3 p3 52 [.slice a1 xs.length c1, .slice a2 R.nm.length c2, .slice a3 R.la.length c3, .slice a4 R.ch.length c4] ∧ LB W3 p2 54 [.int .i64 R.quota, .slice a1 xs.length c1, .slice a2 R.nm.length c2, .slice a3 R.la.length c3, .slice a4 R.ch.length c4, .int .i64 R.left, .bool R.down] ∧ Below w.heap.size w W3) := by
    rw [hW3, hp3]
    exact ⟨l1, HB2.out.1.kept b1, andThen HB2.out.2 b1⟩
  have HW3 : Hid (W2.alloc (.cells #[.slice a1 xs.length c1, .slice a2 R.nm.length c2, .slice a3 R.la.length c3, .slice a4 R.ch.length c4] 52) = W3 ∧ W2.heap.size = p3) := ⟨hW3.symm, hp3.symm⟩
  clear b1 l1 hW3 hp3
  cases hdn : R.down with
  | true =>
    have HE : Hid (RD = ([], 60)) := by rw [HRD.out, if_pos hdn]; rfl
    rw [hdn] at d6 HW2
    clear hdn
    go_enter Try.func81, Try.ntmps81
    go_upto_region 1 with fail
    rw [HW2.out.1, HW2.out.2]
    go_wp2_with fail
    go_returns
    rw [HE.out]
    exact ⟨_, _, rfl, rfl, Own.nil _ _, HB2.out.2⟩
  | false =>
    have HRD2 : Hid (RD = if Dk.isNm sa = false then ([], (61 : Int)) else match Dk.get R.nm sa with | none => ([], (63 : Int)) | some i => ((R.th.getD i ⟨[], 0, false⟩).data, (0 : Int))) := by rw [HRD.out, if_neg (by rw [hdn]; simp)]; rfl
    rw [hdn] at d6 HW2
    have HPA : Hid (Calls Try.prog 66 #[.string ⟨sa.toArray⟩] W2 fun e w' => e = .returned (.bool (Dk.isNm sa)) ∧ W2 = w') := HPA0.out W2
    clear hdn HPA0 HRD
    cases hna : Dk.isNm sa with
    | false =>
      have HE : Hid (RD = ([], 61)) := by rw [HRD2.out, if_pos hna]; rfl
      rw [hna] at HPA
      clear hna
      go_enter Try.func81, Try.ntmps81
      go_upto_region 1 with fail
      rw [HW2.out.1, HW2.out.2]
      go_wp2_with fail
      refine HPA.out.mono ?_
      rintro e Wf ⟨rfl, rfl⟩
      go_wp2_with fail
      go_returns
      rw [HE.out]
      exact ⟨_, _, rfl, rfl, Own.nil _ _, HB2.out.2⟩
    | true =>
      have HRD3 : Hid (RD = match Dk.get R.nm sa with | none => ([], (63 : Int)) | some i => ((R.th.getD i ⟨[], 0, false⟩).data, (0 : Int))) := by rw [HRD2.out, if_neg (by rw [hna]; simp)]; rfl
      rw [hna] at HPA
      clear hna HRD2
      have HFN : Hid (Calls Try.prog 88 #[.slice a2 R.nm.length c2, .string ⟨sa.toArray⟩] W3 fun e w' => ∃ r, e = .returned (.int .i64 r) ∧ FnP R.nm sa r ∧ W3 = w') := (rkfind_any ok _ R.nm sa W3 (HV0.out.kept HB3.out.2.2).rn).mono fun e w' ⟨r, h1, h2, h3⟩ => ⟨r, h1, h2, h3.symm⟩
      go_enter Try.func81, Try.ntmps81
      go_upto_region 1 with fail
      rw [HW2.out.1, HW2.out.2]
      go_wp2_with fail
      refine HPA.out.mono ?_
      rintro e Wf ⟨rfl, rfl⟩
      go_upto_region 7 with fail
      rw [HW3.out.1, HW3.out.2]
      have s0 := HB3.out.1.cell 0 _ rfl
      have s1 := HB3.out.1.cell 1 _ rfl
      go_wp2_with fail
      refine HFN.out.mono ?_
      rintro e Wf ⟨r, rfl, hF, rfl⟩
      clear HFN
      rcases hF with ⟨rfl, hg⟩ | ⟨j, hj, rfl, -, hg⟩
      · have HE : Hid (RD = ([], 63)) := by rw [HRD3.out, hg]; rfl
        clear hg
        go_wp2_with fail
        go_returns
        rw [HE.out]
        exact ⟨_, _, rfl, rfl, Own.nil _ _, HB3.out.2.2⟩
      · have hil : R.nm[j].2 < xs.length := by
          have h9 := tok_lt (get_tok hok hg)
          rw [HXS.out, List.length_map] at h9
          exact h9
        obtain ⟨i, hi⟩ : ∃ i, i = R.nm[j].2 := ⟨_, rfl⟩
        obtain ⟨nb, hnb⟩ := n3 (List.ne_nil_of_length_pos (by omega))
        subst hnb
        obtain ⟨-, y9⟩ := (HV0.out.kept HB3.out.2.2).rn.cells j hj
        rw [← hi] at hil y9 hg
        obtain ⟨xv, td, ts, tt, hxi⟩ : ∃ xv td ts tt, xs[i]? = some (xv, (⟨td, ts, tt⟩ : Th)) := ⟨xs[i].1, xs[i].2.data, xs[i].2.syn, xs[i].2.there, List.getElem?_eq_getElem hil⟩
        have hx9 : R.th[i]? = some ⟨td, ts, tt⟩ := by rw [HXS.out, List.getElem?_map, hxi]; rfl
        have HE : Hid (RD = (td, 0)) := by
          show RD = (td, 0)
          rw [HRD3.out, hg]
          show ((R.th.getD i _).data, (0 : Int)) = _
          rw [List.getD_eq_getElem?_getD, hx9]
          rfl
        have hO := ((HV0.out.kept HB3.out.2.2).od _ (List.mem_of_getElem? hxi)).1
        obtain ⟨ta0, tc0, ev, -⟩ := Mg.row_shape hO.row
        simp only at ev hO
        subst ev
        obtain ⟨tb, htb⟩ := h3 (List.ne_nil_of_length_pos (by omega))
        subst htb
        have y0 := row_cellx enT_len (HV0.out.kept HB3.out.2.2).rt.row i _ hxi 0 _ rfl
        simp only [Nat.add_zero] at y0
        have hln9 : td.length ≤ 1000000000 := hln _ (List.mem_of_getElem? hx9)
        have HO : Hid (∀ W, Below W3.heap.size W3 W → Calls Try.prog 49 #[.slice ta0 td.length tc0, .int .i64 0, .int .i64 (td.length : Int)] W fun e w' => ∃ v', e = .returned v' ∧ Own W.heap.size w' v' td ∧ Below W.heap.size W w') := fun W hW => (rkpart_any _ td td.length W (hO.kept hW).bs (Nat.le_refl _) (by omega)).mono fun e w' ⟨v', h1, h2, h3⟩ => ⟨v', h1, by rw [List.take_length] at h2; exact h2, h3⟩
        clear hg hxi hx9 hi hO hln hok
        go_wp2_with fail
        go_quiet (fail)
        go_wp2_with fail
        refine (HO.out _ (bel_drewN (Below.refl _ _) _)).mono ?_
        rintro e W9 ⟨v9, rfl, o9, b9⟩
        have H9 : Hid (Own w.heap.size W9 v9 td ∧ Below w.heap.size w W9) := by
          have k9 := andThen HB3.out.2.2 (bel_drewN (Below.refl W3.heap.size W3) nq)
          exact ⟨o9.mono k9.size, andThen k9 b9⟩
        clear o9 b9
        go_wp2_with fail
        go_returns
        rw [HE.out]
        exact ⟨_, _, rfl, rfl, H9.out.1, H9.out.2⟩
set_option maxRecDepth 100000 in
set_option maxHeartbeats 8000000 in
theorem rklist_any (ok : Nat → Prop) (R : RS) (v : Value) (w : World) (h : RdM ok w R v) (hl : R.nm.length ≤ 300000000) :
    Calls Try.prog 83 #[v] w fun e w' => ∃ v', e = .returned v' ∧ w'.ownsRow w.heap.size 9 1 v' (rlst R).length ((rlst R).flatMap enN) ∧ Below w.heap.size w w' := by
  obtain ⟨xs, tv, nv, lv, cv, rfl, hxs, hS⟩ := h
  have HV0 : Hid (SM ok w xs R.nm R.la R.ch tv nv lv cv) := hS
  have HXS : Hid (R.th = xs.map (·.2)) := hxs
  obtain ⟨a1, c1, m1, h1, h2, h3⟩ := row_at hS.rt.row
  subst m1
  obtain ⟨a2, c2, m2, n1, n2, n3⟩ := row_at hS.rn.row
  subst m2
  obtain ⟨a3, c3, rfl⟩ := rw_slice hS.rl
  obtain ⟨a4, c4, rfl⟩ := rw_slice hS.rc
  unfold maxLen at h2 n2
  clear hS hxs
  have b1 := up0 w (.cells #[.int .i64 R.quota, .slice a1 xs.length c1, .slice a2 R.nm.length c2, .slice a3 R.la.length c3, .slice a4 R.ch.length c4, .int .i64 R.left, .bool R.down] 54)
  have l1 := lb_new w [.int .i64 R.quota, .slice a1 xs.length c1, .slice a2 R.nm.length c2, .slice a3 R.la.length c3, .slice a4 R.ch.length c4, .int .i64 R.left, .bool R.down] 54
  obtain ⟨W2, hW2⟩ : ∃ W, W = w.alloc (.cells #[.int .i64 R.quota, .slice a1 xs.length c1, .slice a2 R.nm.length c2, .slice a3 R.la.length c3, .slice a4 R.ch.length c4, .int .i64 R.left, .bool R.down] 54) := ⟨_, rfl⟩
  obtain ⟨p2, hp2⟩ : ∃ p, p = w.heap.size := ⟨_, rfl⟩
  have HB2 : Hid (LB W2 p2 54 [.int .i64 R.quota, .slice a1 xs.length c1, .slice a2 R.nm.length c2, .slice a3 R.la.length c3, .slice a4 R.ch.length c4, .int .i64 R.left, .bool R.down] ∧ Below w.heap.size w W2) := by
    rw [hW2, hp2]
    exact ⟨l1, b1⟩
  have HW2 : Hid (w.alloc (.cells #[.int .i64 R.quota, .slice a1 xs.length c1, .slice a2 R.nm.length c2, .slice a3 R.la.length c3, .slice a4 R.ch.length c4, .int .i64 R.left, .bool R.down] 54) = W2 ∧ w.heap.size = p2) := ⟨hW2.symm, hp2.symm⟩
  clear b1 l1 hW2 hp2
  have d0 := HB2.out.1.cell 0 _ rfl
  have d1 := HB2.out.1.cell 1 _ rfl
  have d2 := HB2.out.1.cell 2 _ rfl
  have d3 := HB2.out.1.cell 3 _ rfl
  have d4 := HB2.out.1.cell 4 _ rfl
  have d5 := HB2.out.1.cell 5 _ rfl
  have d6 := HB2.out.1.cell 6 _ rfl
  have b1 := up0 W2 (.cells #[.slice a1 xs.length c1, .slice a2 R.nm.length c2, .slice a3 R.la.length c3, .slice a4 R.ch.length c4] 52)
  have l1 := lb_new W2 [.slice a1 xs.length c1, .slice a2 R.nm.length c2, .slice a3 R.la.length c3, .slice a4 R.ch.length c4] 52
  obtain ⟨W3, hW3⟩ : ∃ W, W = W2.alloc (.cells #[.slice a1 xs.length c1, .slice a2 R.nm.length c2, .slice a3 R.la.length c3, .slice a4 R.ch.length c4] 52) := ⟨_, rfl⟩
  obtain ⟨p3, hp3⟩ : ∃ p, p = W2.heap.size := ⟨_, rfl⟩
  have HB3 : Hid (LB W3 p3 52 [.slice a1 xs.length c1, .slice a2 R.nm.length c2, .slice a3 R.la.length c3, .slice a4 R.ch.length c4] ∧ LB W3 p2 54 [.int .i64 R.quota, .slice a1 xs.length c1, .slice a2 R.nm.length c2, .slice a3 R.la.length c3, .slice a4 R.ch.length c4, .int .i64 R.left, .bool R.down] ∧ Below w.heap.size w W3) := by
    rw [hW3, hp3]
    exact ⟨l1, HB2.out.1.kept b1, andThen HB2.out.2 b1⟩
  have HW3 : Hid (W2.alloc (.cells #[.slice a1 xs.length c1, .slice a2 R.nm.length c2, .slice a3 R.la.length c3, .slice a4 R.ch.length c4] 52) = W3 ∧ W2.heap.size = p3) := ⟨hW3.symm, hp3.symm⟩
  clear b1 l1 hW3 hp3
  cases hdn : R.down with
  | true =>
    have HE : Hid (rlst R = []) := by
      show rlst R = []
      unfold rlst
      rw [if_pos hdn]
    rw [hdn] at d6 HW2
    clear hdn
    go_enter Try.func83, Try.ntmps83
    go_upto_region 1 with fail
    rw [HW2.out.1, HW2.out.2]
    go_wp2_with fail
    go_returns
    rw [HE.out]
    exact ⟨_, rfl, World.ownsRow_nil _ _ _ _, HB2.out.2⟩
  | false =>
    have HE : Hid (rlst R = R.nm.map (·.1)) := by
      show rlst R = _
      unfold rlst
      rw [if_neg (by rw [hdn]; simp)]
    rw [hdn] at d6 HW2
    clear hdn
    obtain ⟨L, hL⟩ : ∃ L, L = R.nm.map (·.1) := ⟨_, rfl⟩
    have HLL : Hid (L = R.nm.map (·.1)) := hL
    rw [← hL] at HE
    clear hL
    go_enter Try.func83, Try.ntmps83
    go_upto_region 1 with fail
    rw [HW2.out.1, HW2.out.2]
    go_upto_region 4 with fail
    rw [HW3.out.1, HW3.out.2]
    go_wp2_with fail
    go_loopw [4, 5] (fun o i wr => ∃ k : Nat, k ≤ R.nm.length ∧ i = .int .i64 (k : Int) ∧ wr.ownsRow W3.heap.size 9 1 o (L.take k).length ((L.take k).flatMap enN) ∧ Below W3.heap.size W3 wr) (fun _ i _ => R.nm.length - (intOf i).toNat)
    case atStart => exact ⟨0, Nat.zero_le _, rfl, World.ownsRow_nil _ _ _ _, Below.refl _ _⟩
    case round =>
      obtain ⟨k, hk, rfl, ho, hb⟩ := hrel
      have HO : Hid (wr.ownsRow W3.heap.size 9 1 u4 (L.take k).length ((L.take k).flatMap enN) ∧ Below W3.heap.size W3 wr) := ⟨ho, hb⟩
      have s1 := (HB3.out.1.kept hb).cell 1 _ rfl
      clear ho hb
      by_cases hlt : k < R.nm.length
      · obtain ⟨b, hbe⟩ := n3 (List.ne_nil_of_length_pos (by omega))
        subst hbe
        obtain ⟨y0, -⟩ := (HV0.out.kept (andThen HB3.out.2.2 HO.out.2)).rn.cells k hlt
        have HT : Hid (L.take (k + 1) = L.take k ++ [R.nm[k].1]) := by
          show L.take (k + 1) = _
          rw [HLL.out, List.take_succ_eq_append_getElem (by rw [List.length_map]; exact hlt), List.getElem_map]
        generalize R.nm[k].1 = n9 at *
        have b1 := up0 wr (.cells #[.string ⟨n9.toArray⟩] 9)
        obtain ⟨v', W5, hr, g3, -, g4⟩ := row_app1 tiN enN_len (Mg.row_kept HO.out.1 b1) n9 wr.heap.size 1 (fun u hu => by simp [enN] at hu; rw [hu]; rfl) (lb_new wr [.string ⟨n9.toArray⟩] 9) (by rw [List.length_take]; omega) (Nat.le_trans HO.out.2.size b1.size) 32
        have HX : Hid (W5.ownsRow W3.heap.size 9 1 v' (L.take (k + 1)).length ((L.take (k + 1)).flatMap enN) ∧ Below W3.heap.size W3 W5) := ⟨by rw [HT.out]; exact g3, (andThen HO.out.2 b1).trans g4⟩
        clear b1 g3 g4
        go_wp2_with (at_builtin; refine wpList_appRun rfl (.tmp 17) (.tmp 24) 32 rfl rfl rfl hr ?_)
        clear hr
        go_wp2_with fail
        go_roundw
        case rel => exact ⟨k + 1, by omega, by go_num, HX.out.1, HX.out.2⟩
        case measure => simp [intOf]; omega
      · have HT : Hid (L.take k = L) := List.take_of_length_le (by rw [HLL.out, List.length_map]; omega)
        go_wp2_with fail
        go_returns
        have h9 := HO.out
        rw [HT.out] at h9
        rw [HE.out]
        exact ⟨_, rfl, row_low h9.1 HB3.out.2.2.size, andThen HB3.out.2.2 h9.2⟩
end Go.Proofs.Ytjepeeopjjnglab
