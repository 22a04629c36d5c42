import Derived.Deep.RegionHeld3
import Derived.Test.YtjepeeopjjnglabQN20
/-
  The document's disk: left, Files.
-/
namespace Go.Proofs.Ytjepeeopjjnglab
open Go Go.RowKit Go.ChangeShapes
open Wb
open Rd
/-- append by its run, in a region that draws -/
theorem step_appRun {P : Program} {w W : World} {ops : Array Oper} {o : Oper} {a : Act} {K : Act → World → Prop} {Q : Exit → Act → World → Prop} {E : Prop} {v u y : Value} (hw : Region.wanted o (yielded ops a.tmps) = true) (s x : Operand) (t : TypeId) (ho : o.op = .call { callee := .builtin .append, args := #[s, x], argTypes := #[t, t] }) (hs : a.eval s = u) (hx : a.eval x = y) (hr : (Builtin.append_ #[t, t] o.type #[u, y]).run P w = .ok v W) (h : K (a.put o.dst v) W) : if Region.wanted o (yielded ops a.tmps) = true then Oper.wp P o a w K Q else E := by
  rw [if_pos hw]
  unfold Oper.wp
  simp [execOp, ho, resolve, invoke, builtin, hs, hx, hr, Result.andThen]
  exact h
set_option maxRecDepth 100000 in
set_option maxHeartbeats 8000000 in
theorem rkleft_any (dv : Value) (td : List Nat) (ts : Nat) (tt : Bool) (ck cz : Int) (w : World) (hO : Bs w dv td) (hs : ts ≤ td.length) (hl : td.length ≤ 1000000000) :
    Calls Try.prog 80 #[.agg #[dv, .int .i64 (ts : Int), .bool tt], .agg #[.int .i64 ck, .int .i64 cz]] w fun e w' => ∃ v', e = .returned v' ∧ Own w.heap.size w' v' (Dk.lv ⟨td, ts⟩ (ck, cz)) ∧ Below w.heap.size w w' := by
  obtain ⟨u, hu⟩ : ∃ u : Nat, u = td.length - ts := ⟨_, rfl⟩
  obtain ⟨kp, hkp⟩ : ∃ k : Nat, k = Dk.kp ⟨td, ts⟩ ck := ⟨_, rfl⟩
  obtain ⟨zr, hzr⟩ : ∃ k : Nat, k = Dk.zr ⟨td, ts⟩ ck cz := ⟨_, rfl⟩
  have e1 : Dk.wth ck (u : Int) = (kp : Int) := by
    rw [hkp]
    unfold Dk.kp
    show _ = (((Dk.wth ck ((td.length - ts : Nat) : Int)).toNat : Nat) : Int)
    rw [← hu]
    unfold Dk.wth
    omega
  have k1 : kp ≤ u := by
    unfold Dk.wth at e1
    omega
  have e2 : Dk.wth cz ((u - kp : Nat) : Int) = (zr : Int) := by
    rw [hzr]
    unfold Dk.zr
    show _ = (((Dk.wth cz ((td.length - ts - Dk.kp ⟨td, ts⟩ ck : Nat) : Int)).toNat : Nat) : Int)
    rw [← hu, ← hkp]
    unfold Dk.wth
    omega
  have k2 : zr ≤ u - kp := by
    unfold Dk.wth at e2
    omega
  have HLV : Hid (Dk.lv ⟨td, ts⟩ (ck, cz) = td.take (ts + kp) ++ List.replicate zr 0) := by
    rw [hkp, hzr]
    rfl
  have HCI1 : Hid (∀ W, Calls Try.prog 78 #[.int .i64 ck, .int .i64 0, .int .i64 (u : Int)] W fun e w' => e = .returned (.int .i64 (kp : Int)) ∧ W = w') := fun W => (rkinto_any _ _ _ _).mono fun e w' ⟨h1, h2⟩ => ⟨by rw [h1, Rd.into_wth _ _ (by omega), e1], h2.symm⟩
  have HCI2 : Hid (∀ W, Calls Try.prog 78 #[.int .i64 cz, .int .i64 0, .int .i64 ((u - kp : Nat) : Int)] W fun e w' => e = .returned (.int .i64 (zr : Int)) ∧ W = w') := fun W => (rkinto_any _ _ _ _).mono fun e w' ⟨h1, h2⟩ => ⟨by rw [h1, Rd.into_wth _ _ (by omega), e2], h2.symm⟩
  obtain ⟨da, dc, ev, -⟩ := hO.shape
  subst ev
  have hb := lb_new2 w [.slice da td.length dc, .int .i64 (ts : Int), .bool tt] [.int .i64 ck, .int .i64 cz] 98 104
  have w1 : IntKind.i64.wrap ((td.length : Int) - (ts : Int)) = (u : Int) := by
    rw [show (td.length : Int) - (ts : Int) = (u : Int) by omega]
    exact IntWalk.i64_in _ (by omega)
  have w2 : IntKind.i64.wrap ((u : Int) - (kp : Int)) = ((u - kp : Nat) : Int) := by
    rw [show (u : Int) - (kp : Int) = ((u - kp : Nat) : Int) by omega]
    exact IntWalk.i64_in _ (by omega)
  have w3 : IntKind.i64.wrap ((ts : Int) + (kp : Int)) = ((ts + kp : Nat) : Int) := by
    rw [show (ts : Int) + (kp : Int) = ((ts + kp : Nat) : Int) by omega]
    exact IntWalk.i64_in _ (by omega)
  have HLE : Hid (ts + kp ≤ td.length ∧ zr ≤ td.length ∧ td.length ≤ 1000000000) := ⟨by omega, by omega, hl⟩
  clear e1 e2 k1 k2 hu hkp hzr hs
  obtain ⟨W1, hW1⟩ : ∃ W, W = (w.alloc (.cells #[.slice da td.length dc, .int .i64 (ts : Int), .bool tt] 98)).alloc (.cells #[.int .i64 ck, .int .i64 cz] 104) := ⟨_, rfl⟩
  have HB : Hid (LB W1 w.heap.size 98 [.slice da td.length dc, .int .i64 (ts : Int), .bool tt] ∧ LB W1 (w.heap.size + 1) 104 [.int .i64 ck, .int .i64 cz] ∧ Below w.heap.size w W1) := by
    rw [hW1]
    exact hb
  have HW : Hid ((w.alloc (.cells #[.slice da td.length dc, .int .i64 (ts : Int), .bool tt] 98)).alloc (.cells #[.int .i64 ck, .int .i64 cz] 104) = W1) := hW1.symm
  have HCP : Hid (Calls Try.prog 49 #[.slice da td.length dc, .int .i64 0, .int .i64 ((ts + kp : Nat) : Int)] W1 fun e w' => ∃ v', e = .returned v' ∧ Own W1.heap.size w' v' (td.take (ts + kp)) ∧ Below W1.heap.size W1 w') := rkpart_any _ td (ts + kp) W1 (hO.kept HB.out.2.2) HLE.out.1 (by have := HLE.out; omega)
  have t0 := HB.out.1.cell 0 _ rfl
  have t1 := HB.out.1.cell 1 _ rfl
  have c0 := HB.out.2.1.cell 0 _ rfl
  have c1 := HB.out.2.1.cell 1 _ rfl
  clear hb hW1 hO
  go_enter Try.func80, Try.ntmps80
  go_upto_region 1 with fail
  rw [HW.out]
  go_wp2_with fail
  refine (HCI1.out _).mono ?_
  rintro e Wf ⟨rfl, rfl⟩
  go_wp2_with fail
  refine (HCI2.out _).mono ?_
  rintro e Wf ⟨rfl, rfl⟩
  go_wp2_with fail
  refine HCP.out.mono ?_
  rintro e W2 ⟨v2, rfl, o2, b2⟩
  have H2 : Hid (Own W1.heap.size W2 v2 (td.take (ts + kp)) ∧ Below W1.heap.size W1 W2) := ⟨o2, b2⟩
  clear o2 b2 HCP t0 t1 c0 c1 HCI1 HCI2
  have hz9 : zr ≤ 1000000000 := by have := HLE.out; omega
  go_wp2_with fail
  go_loopw [8, 9] (fun o i wr => ∃ k : Nat, k ≤ zr ∧ i = .int .i64 (k : Int) ∧ Own W1.heap.size wr o (td.take (ts + kp) ++ List.replicate k 0) ∧ Below W1.heap.size W1 wr) (fun _ i _ => zr - (intOf i).toNat)
  case atStart => exact ⟨0, Nat.zero_le _, rfl, by simpa using H2.out.1, H2.out.2⟩
  case round =>
    obtain ⟨k, hk, rfl, ho, hb⟩ := hrel
    have HO : Hid (Own W1.heap.size wr u8 (td.take (ts + kp) ++ List.replicate k 0) ∧ Below W1.heap.size W1 wr) := ⟨ho, hb⟩
    clear ho hb
    by_cases hlt : k < zr
    · have b1 := up0 wr (.cells #[.int .u8 0] 5)
      obtain ⟨v', W4, hr, h3, h4, -⟩ := run_appB (wr.alloc (.cells #[.int .u8 0] 5)) 29 W1.heap.size u8 _ (HO.out.1.kept b1) _ [0] (Bs.one wr 0 (by decide) _ rfl) (by rw [List.length_append, List.length_take, List.length_replicate, List.length_singleton]; have := HLE.out; omega) (Nat.le_trans HO.out.2.size b1.size)
      have HX : Hid (Own W1.heap.size W4 v' (td.take (ts + kp) ++ List.replicate (k + 1) 0) ∧ Below W1.heap.size W1 W4) := ⟨by rw [List.replicate_succ', ← List.append_assoc]; exact h3, (andThen HO.out.2 b1).trans ((Below.refl _ _).grown h4 (Nat.le_trans HO.out.2.size b1.size) fun q e => (World.ownsRow.lt (HO.out.1.kept b1).row q e).1)⟩
      clear b1 h3 h4
      go_wp2_with (at_builtin; refine wpList_appRun rfl (.tmp 38) (.tmp 39) 29 rfl rfl rfl hr ?_)
      clear hr
      go_wp2_with fail
      go_roundw
      case rel => exact ⟨k + 1, by omega, by go_num, HX.out.1, HX.out.2⟩
      case measure => simp [intOf]; omega
    · obtain rfl : k = zr := by omega
      go_wp2_with fail
      go_returns
      rw [HLV.out]
      exact ⟨_, rfl, HO.out.1.mono HB.out.2.2.size, andThen HB.out.2.2 HO.out.2⟩
set_option maxRecDepth 100000 in
set_option maxHeartbeats 8000000 in
theorem rkfiles_any (ok : Nat → Prop) (R : RS) (v : Value) (w : World) (h : RdM ok w R v) (hl : R.nm.length ≤ 300000000) (hok : okl R.th R.nm) (hln : ∀ t ∈ R.th, t.data.length ≤ 1000000000) :
    Calls Try.prog 24 #[v] w fun e w' => ∃ v', e = .returned v' ∧ Fls (w.heap.size ≤ ·) w' v' (rfiles R) ∧ Below w.heap.size w w' := by
  obtain ⟨xs, tv, nv, lv, cv, rfl, hxs, hS⟩ := h
  have HV0 : Hid (SM ok w xs R.nm R.la R.ch tv nv lv cv) := hS
  have HXS : Hid (R.th = xs.map (·.2)) := hxs
  obtain ⟨a1, c1, m1, h1, h2, h3⟩ := row_at hS.rt.row
  subst m1
  obtain ⟨a2, c2, m2, n1, n2, n3⟩ := row_at hS.rn.row
  subst m2
  obtain ⟨a3, c3, rfl⟩ := rw_slice hS.rl
  obtain ⟨a4, c4, rfl⟩ := rw_slice hS.rc
  unfold maxLen at h2 n2
  clear hS hxs
  have b1 := up0 w (.cells #[.int .i64 R.quota, .slice a1 xs.length c1, .slice a2 R.nm.length c2, .slice a3 R.la.length c3, .slice a4 R.ch.length c4, .int .i64 R.left, .bool R.down] 54)
  have l1 := lb_new w [.int .i64 R.quota, .slice a1 xs.length c1, .slice a2 R.nm.length c2, .slice a3 R.la.length c3, .slice a4 R.ch.length c4, .int .i64 R.left, .bool R.down] 54
  obtain ⟨W2, hW2⟩ : ∃ W, W = w.alloc (.cells #[.int .i64 R.quota, .slice a1 xs.length c1, .slice a2 R.nm.length c2, .slice a3 R.la.length c3, .slice a4 R.ch.length c4, .int .i64 R.left, .bool R.down] 54) := ⟨_, rfl⟩
  obtain ⟨p2, hp2⟩ : ∃ p, p = w.heap.size := ⟨_, rfl⟩
  have HB2 : Hid (LB W2 p2 54 [.int .i64 R.quota, .slice a1 xs.length c1, .slice a2 R.nm.length c2, .slice a3 R.la.length c3, .slice a4 R.ch.length c4, .int .i64 R.left, .bool R.down] ∧ Below w.heap.size w W2) := by
    rw [hW2, hp2]
    exact ⟨l1, b1⟩
  have HW2 : Hid (w.alloc (.cells #[.int .i64 R.quota, .slice a1 xs.length c1, .slice a2 R.nm.length c2, .slice a3 R.la.length c3, .slice a4 R.ch.length c4, .int .i64 R.left, .bool R.down] 54) = W2 ∧ w.heap.size = p2) := ⟨hW2.symm, hp2.symm⟩
  clear b1 l1 hW2 hp2
  have d0 := HB2.out.1.cell 0 _ rfl
  have d1 := HB2.out.1.cell 1 _ rfl
  have d2 := HB2.out.1.cell 2 _ rfl
  have d3 := HB2.out.1.cell 3 _ rfl
  have d4 := HB2.out.1.cell 4 _ rfl
  have d5 := HB2.out.1.cell 5 _ rfl
  have d6 := HB2.out.1.cell 6 _ rfl
  have b1 := up0 W2 (.cells #[.slice a1 xs.length c1, .slice a2 R.nm.length c2, .slice a3 R.la.length c3, .slice a4 R.ch.length c4] 52)
  have l1 := lb_new W2 [.slice a1 xs.length c1, .slice a2 R.nm.length c2, .slice a3 R.la.length c3, .slice a4 R.ch.length c4] 52
  obtain ⟨W3, hW3⟩ : ∃ W, W = W2.alloc (.cells #[.slice a1 xs.length c1, .slice a2 R.nm.length c2, .slice a3 R.la.length c3, .slice a4 R.ch.length c4] 52) := ⟨_, rfl⟩
  obtain ⟨p3, hp3⟩ : ∃ p, p = W2.heap.size := ⟨_, rfl⟩
  have HB3 : Hid (LB W3 p3 52 [.slice a1 xs.length c1, .slice a2 R.nm.length c2, .slice a3 R.la.length c3, .slice a4 R.ch.length c4] ∧ LB W3 p2 54 [.int .i64 R.quota, .slice a1 xs.length c1, .slice a2 R.nm.length c2, .slice a3 R.la.length c3, .slice a4 R.ch.length c4, .int .i64 R.left, .bool R.down] ∧ Below w.heap.size w W3) := by
    rw [hW3, hp3]
    exact ⟨l1, HB2.out.1.kept b1, andThen HB2.out.2 b1⟩
  have HW3 : Hid (W2.alloc (.cells #[.slice a1 xs.length c1, .slice a2 R.nm.length c2, .slice a3 R.la.length c3, .slice a4 R.ch.length c4] 52) = W3 ∧ W2.heap.size = p3) := ⟨hW3.symm, hp3.symm⟩
  clear b1 l1 hW3 hp3
  have HOL : Hid (okl R.th R.nm ∧ ∀ t ∈ R.th, t.data.length ≤ 1000000000) := ⟨hok, hln⟩
  clear hok hln
  go_enter Try.func24, Try.ntmps24
  go_upto_region 1 with fail
  rw [HW2.out.1, HW2.out.2]
  go_upto_region 2 with fail
  rw [HW3.out.1, HW3.out.2]
  clear d0 d1 d2 d3 d4 d5 d6
  go_wp2_with fail
  go_loopw [4, 5] (fun o i wr => ∃ (k : Nat) (ys : List (List UInt8 × Value × List Nat)), k ≤ R.nm.length ∧ i = .int .i64 (k : Int) ∧ FO W3.heap.size wr o ys ∧ (ys.map fun x => (x.1, x.2.2)) = (rfiles R).take k ∧ Below W3.heap.size W3 wr) (fun _ i _ => R.nm.length - (intOf i).toNat)
  case atStart => exact ⟨0, [], Nat.zero_le _, rfl, FO.nil _ _, rfl, Below.refl _ _⟩
  case round =>
    obtain ⟨k, ys, hk, rfl, hfo, hys, hb⟩ := hrel
    have HO : Hid (FO W3.heap.size wr u4 ys ∧ (ys.map fun x => (x.1, x.2.2)) = (rfiles R).take k ∧ Below W3.heap.size W3 wr) := ⟨hfo, hys, hb⟩
    have hyl : ys.length ≤ 300000000 := by
      have h9 := congrArg List.length hys
      rw [List.length_map, List.length_take] at h9
      omega
    have s0 := (HB3.out.1.kept hb).cell 0 _ rfl
    have s1 := (HB3.out.1.kept hb).cell 1 _ rfl
    clear hfo hys hb
    by_cases hlt : k < R.nm.length
    · obtain ⟨nb, hbe⟩ := n3 (List.ne_nil_of_length_pos (by omega))
      subst hbe
      have HSM := HV0.out.kept (andThen HB3.out.2.2 HO.out.2.2)
      obtain ⟨y0, y9⟩ := HSM.rn.cells k hlt
      have HYN0 : ∀ W, Below W3.heap.size W3 W → W.cell? ⟨nb, k * 2, none⟩ = some (.string ⟨R.nm[k].1.toArray⟩) := fun W hW => ((HV0.out.kept (andThen HB3.out.2.2 hW)).rn.cells k hlt).1
      obtain ⟨p, hp⟩ : ∃ p, p = R.nm[k] := ⟨_, rfl⟩
      have hpm : p ∈ R.nm := by rw [hp]; exact List.getElem_mem hlt
      have htk := (HOL.out.1 p hpm).2
      have HTK : Hid ((rfiles R).take (k + 1) = (rfiles R).take k ++ [(p.1, (R.th.getD p.2 ⟨[], 0, false⟩).data)]) := by
        show (rfiles R).take (k + 1) = _
        unfold rfiles
        rw [List.take_succ_eq_append_getElem (by rw [List.length_map]; exact hlt), List.getElem_map, hp]
      rw [← hp] at y0 y9 HYN0
      obtain ⟨n9, i⟩ := p
      simp only at y0 y9 htk HTK HYN0
      have HYN : Hid (∀ W, Below W3.heap.size W3 W → W.cell? ⟨nb, k * 2, none⟩ = some (.string ⟨n9.toArray⟩)) := HYN0
      clear HYN0
      have hil : i < xs.length := by
        have h9 := tok_lt htk
        rw [HXS.out, List.length_map] at h9
        exact h9
      obtain ⟨xv, td, ts, tt, hxi⟩ : ∃ xv td ts tt, xs[i]? = some (xv, (⟨td, ts, tt⟩ : Th)) := ⟨xs[i].1, xs[i].2.data, xs[i].2.syn, xs[i].2.there, List.getElem?_eq_getElem hil⟩
      have hx9 : R.th[i]? = some ⟨td, ts, tt⟩ := by rw [HXS.out, List.getElem?_map, hxi]; rfl
      rw [List.getD_eq_getElem?_getD, hx9] at HTK
      have hO := (HSM.od _ (List.mem_of_getElem? hxi)).1
      obtain ⟨ta0, tc0, ev, -⟩ := Mg.row_shape hO.row
      simp only at ev hO
      subst ev
      obtain ⟨tb, htb⟩ := h3 (List.ne_nil_of_length_pos (by omega))
      subst htb
      have y5 := row_cellx enT_len HSM.rt.row i _ hxi 0 _ rfl
      simp only [Nat.add_zero] at y5
      have hln9 : td.length ≤ 1000000000 := HOL.out.2 _ (List.mem_of_getElem? hx9)
      have HPT : Hid (∀ W, Below wr.heap.size wr W → Calls Try.prog 49 #[.slice ta0 td.length tc0, .int .i64 0, .int .i64 (td.length : Int)] W fun e w' => ∃ b9 n9 c9, e = .returned (.slice b9 n9 c9) ∧ Own W.heap.size w' (.slice b9 n9 c9) td ∧ Below W.heap.size W w') := fun W hW => (rkpart_any _ td td.length W (hO.kept hW).bs (Nat.le_refl _) (by omega)).mono fun e w' ⟨v', h1, h2, h3⟩ => by
        rw [List.take_length] at h2
        obtain ⟨b9, c9, rfl, -⟩ := Mg.row_shape h2.row
        exact ⟨b9, _, c9, h1, h2, h3⟩
      have HAP : Hid (∀ (W W2 : World) (b9 : Option Addr) (n8 c9 : Nat), Below wr.heap.size wr W → Below W.heap.size W W2 → Own W.heap.size W2 (.slice b9 n8 c9) td → ∃ o4 W4, (Builtin.append_ #[35, 35] 35 #[u4, .slice (some ⟨W2.heap.size, 0, none⟩) 1 1]).run Try.prog (W2.alloc (.cells #[.string ⟨n9.toArray⟩, .slice b9 n8 c9] 65)) = .ok o4 W4 ∧ FO W3.heap.size W4 o4 (ys ++ [(n9, .slice b9 n8 c9, td)]) ∧ Below W3.heap.size W3 W4) := fun W W2 b9 n8 c9 h1 h2 h3 => by
        have b3 := up0 W2 (.cells #[.string ⟨n9.toArray⟩, .slice b9 n8 c9] 65)
        have L3 : LB (W2.alloc (.cells #[.string ⟨n9.toArray⟩, .slice b9 n8 c9] 65)) W2.heap.size 65 (enF (n9, .slice b9 n8 c9, td)) := lb_new W2 [.string ⟨n9.toArray⟩, .slice b9 n8 c9] 65
        have h4 := andThen h1 h2
        have f3 := (HO.out.1.kept h4).kept b3
        obtain ⟨o4, W4, hr4, f4, b4⟩ := f3.app 35 (n9, .slice b9 n8 c9, td) ((h3.mono (Nat.le_trans HO.out.2.2.size h1.size)).kept b3) W2.heap.size 1 L3 (by omega) (Nat.le_trans HO.out.2.2.size (Nat.le_trans h4.size b3.size))
        exact ⟨o4, W4, hr4, f4, (andThen (andThen HO.out.2.2 h4) b3).trans b4⟩
      have HCK : Hid (∀ W, Below W3.heap.size W3 W → W.cell? ⟨p3, 1, none⟩ = some (.slice (some ⟨nb, 0, none⟩) R.nm.length c2) ∧ W.cell? ⟨nb, k * 2, none⟩ = some (.string ⟨n9.toArray⟩)) := fun W hW => ⟨(HB3.out.1.kept hW).cell 1 _ rfl, HYN.out W hW⟩
      clear hp hpm htk hxi hx9 hO HSM
      go_wp2_with fail
      go_quiet (fail)
      obtain ⟨Wq, hWq⟩ : ∃ W, W = wr.drewN nq := ⟨_, rfl⟩
      have HBQ : Hid (Below wr.heap.size wr Wq) := by rw [hWq]; exact bel_drewN (Below.refl _ _) _
      rw [← hWq]
      clear hWq s0 s1 y0 y9 y5
      obtain ⟨s1, y0⟩ := HCK.out Wq (andThen HO.out.2.2 HBQ.out)
      go_wp2_with fail
      go_region_held3 (fun w' => w'.cell? ⟨p3, 1, none⟩ = some (.slice (some ⟨nb, 0, none⟩) R.nm.length c2) ∧ w'.cell? ⟨nb, k * 2, none⟩ = some (.string ⟨n9.toArray⟩)) (first | go_keep | (exact HCK.out _ (andThen HO.out.2.2 (andThen HBQ.out (andThen (Below.drew (Below.refl _ _)) hb')))) | (exact HCK.out _ b4))
        (first | (go_at_call 49; refine (HPT.out _ ?_).mono ?_; (exact andThen HBQ.out (Below.drew (Below.refl _ _))); rintro e w' ⟨b9, n8, c9, rfl, o9, hb'⟩; (obtain ⟨o4, W4, hr4, f4, b4⟩ := HAP.out _ w' b9 n8 c9 (andThen HBQ.out (Below.drew (Below.refl _ _))) hb' o9)) | (refine step_appRun rfl (.tmp 27) (.tmp 39) 35 rfl rfl rfl hr4 ?_))
      have H4 : Hid (FO W3.heap.size W4 o4 (ys ++ [(n9, .slice b9 n8 c9, td)]) ∧ Below W3.heap.size W3 W4) := ⟨f4, b4⟩
      clear hr4 f4 b4 o9 hb' s1 y0
      go_wp2_with fail
      go_roundw
      case rel =>
        refine ⟨k + 1, _, by omega, by go_num, H4.out.1, ?_, H4.out.2⟩
        rw [List.map_append, HO.out.2.1, HTK.out]
        rfl
      case measure => simp [intOf]; omega
    · have HE : Hid ((ys.map fun x => (x.1, x.2.2)) = rfiles R) := by
        have h9 := HO.out.2.1
        rw [List.take_of_length_le (by unfold rfiles; rw [List.length_map]; omega)] at h9
        exact h9
      go_wp2_with fail
      go_returns
      have h9 := HO.out.1.fls
      rw [HE.out] at h9
      exact ⟨_, rfl, h9.mono fun q hq => Nat.le_trans HB3.out.2.2.size hq, andThen HB3.out.2.2 HO.out.2.2⟩
end Go.Proofs.Ytjepeeopjjnglab
