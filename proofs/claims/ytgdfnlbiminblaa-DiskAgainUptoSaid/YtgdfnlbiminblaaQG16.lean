import Derived.Deep.RegionHeld3
import Derived.Deep.RegionHeldLaw
import Derived.Test.YtgdfnlbiminblaaQG15
import Derived.Test.YtgdfnlbiminblaaQG2
/-
  The document's disk: left, Files.
-/
namespace Go.Proofs.Ytgdfnlbiminblaa
open Go Go.RowKit Go.ChangeShapes
open Wb
open Rd
/-- append by its run, in a region that draws -/
theorem step_appRun {P : Program} {w W : World} {ops : Array Oper} {o : Oper} {a : Act} {K : Act → World → Prop} {Q : Exit → Act → World → Prop} {E : Prop} {v u y : Value} (hw : Region.wanted o (yielded ops a.tmps) = true) (s x : Operand) (t : TypeId) (ho : o.op = .call { callee := .builtin .append, args := #[s, x], argTypes := #[t, t] }) (hs : a.eval s = u) (hx : a.eval x = y) (hr : (Builtin.append_ #[t, t] o.type #[u, y]).run P w = .ok v W) (h : K (a.put o.dst v) W) : if Region.wanted o (yielded ops a.tmps) = true then Oper.wp P o a w K Q else E := by
  rw [if_pos hw]
  unfold Oper.wp
  simp [execOp, ho, resolve, invoke, builtin, hs, hx, hr, Result.andThen]
  exact h
set_option maxRecDepth 100000 in
set_option maxHeartbeats 8000000 in
theorem rkleft_any (dv : Value) (td : List Nat) (ts : Nat) (tt : Bool) (ck cz : Int) (w : World) (hO : Bs w dv td) (hs : ts ≤ td.length) (hl : td.length ≤ 1000000000) :
    Calls Try.prog 32 #[.agg #[dv, .int .i64 (ts : Int), .bool tt], .agg #[.int .i64 ck, .int .i64 cz]] w fun e w' => ∃ v', e = .returned v' ∧ Own w.heap.size w' v' (Dk.lv ⟨td, ts⟩ (ck, cz)) ∧ Below w.heap.size w w' := by
  obtain ⟨u, hu⟩ : ∃ u : Nat, u = td.length - ts := ⟨_, rfl⟩
  obtain ⟨kp, hkp⟩ : ∃ k : Nat, k = Dk.kp ⟨td, ts⟩ ck := ⟨_, rfl⟩
  obtain ⟨zr, hzr⟩ : ∃ k : Nat, k = Dk.zr ⟨td, ts⟩ ck cz := ⟨_, rfl⟩
  have e1 : Dk.wth ck (u : Int) = (kp : Int) := by
    rw [hkp]
    unfold Dk.kp
    show _ = (((Dk.wth ck ((td.length - ts : Nat) : Int)).toNat : Nat) : Int)
    rw [← hu]
    unfold Dk.wth
    omega
  have k1 : kp ≤ u := by
    unfold Dk.wth at e1
    omega
  have e2 : Dk.wth cz ((u - kp : Nat) : Int) = (zr : Int) := by
    rw [hzr]
    unfold Dk.zr
    show _ = (((Dk.wth cz ((td.length - ts - Dk.kp ⟨td, ts⟩ ck : Nat) : Int)).toNat : Nat) : Int)
    rw [← hu, ← hkp]
    unfold Dk.wth
    omega
  have k2 : zr ≤ u - kp := by
    unfold Dk.wth at e2
    omega
  have HLV : Hid (Dk.lv ⟨td, ts⟩ (ck, cz) = td.take (ts + kp) ++ List.replicate zr 0) := by
    rw [hkp, hzr]
    rfl
  have HCI1 : Hid (∀ W, Calls Try.prog 30 #[.int .i64 ck, .int .i64 0, .int .i64 (u : Int)] W fun e w' => e = .returned (.int .i64 (kp : Int)) ∧ W = w') := fun W => (rkinto_any _ _ _ _).mono fun e w' ⟨h1, h2⟩ => ⟨by rw [h1, Rd.into_wth _ _ (by omega), e1], h2.symm⟩
  have HCI2 : Hid (∀ W, Calls Try.prog 30 #[.int .i64 cz, .int .i64 0, .int .i64 ((u - kp : Nat) : Int)] W fun e w' => e = .returned (.int .i64 (zr : Int)) ∧ W = w') := fun W => (rkinto_any _ _ _ _).mono fun e w' ⟨h1, h2⟩ => ⟨by rw [h1, Rd.into_wth _ _ (by omega), e2], h2.symm⟩
  obtain ⟨da, dc, ev, -⟩ := hO.shape
  subst ev
  have hb := lb_new2 w [.slice da td.length dc, .int .i64 (ts : Int), .bool tt] [.int .i64 ck, .int .i64 cz] 68 32
  have w1 : IntKind.i64.wrap ((td.length : Int) - (ts : Int)) = (u : Int) := by
    rw [show (td.length : Int) - (ts : Int) = (u : Int) by omega]
    exact IntWalk.i64_in _ (by omega)
  have w2 : IntKind.i64.wrap ((u : Int) - (kp : Int)) = ((u - kp : Nat) : Int) := by
    rw [show (u : Int) - (kp : Int) = ((u - kp : Nat) : Int) by omega]
    exact IntWalk.i64_in _ (by omega)
  have w3 : IntKind.i64.wrap ((ts : Int) + (kp : Int)) = ((ts + kp : Nat) : Int) := by
    rw [show (ts : Int) + (kp : Int) = ((ts + kp : Nat) : Int) by omega]
    exact IntWalk.i64_in _ (by omega)
  have HLE : Hid (ts + kp ≤ td.length ∧ zr ≤ td.length ∧ td.length ≤ 1000000000) := ⟨by omega, by omega, hl⟩
  clear e1 e2 k1 k2 hu hkp hzr hs
  obtain ⟨W1, hW1⟩ : ∃ W, W = (w.alloc (.cells #[.slice da td.length dc, .int .i64 (ts : Int), .bool tt] 68)).alloc (.cells #[.int .i64 ck, .int .i64 cz] 32) := ⟨_, rfl⟩
  have HB : Hid (LB W1 w.heap.size 68 [.slice da td.length dc, .int .i64 (ts : Int), .bool tt] ∧ LB W1 (w.heap.size + 1) 32 [.int .i64 ck, .int .i64 cz] ∧ Below w.heap.size w W1) := by
    rw [hW1]
    exact hb
  have HW : Hid ((w.alloc (.cells #[.slice da td.length dc, .int .i64 (ts : Int), .bool tt] 68)).alloc (.cells #[.int .i64 ck, .int .i64 cz] 32) = W1) := hW1.symm
  have HCP : Hid (Calls Try.prog 26 #[.slice da td.length dc, .int .i64 0, .int .i64 ((ts + kp : Nat) : Int)] W1 fun e w' => ∃ v', e = .returned v' ∧ Own W1.heap.size w' v' (td.take (ts + kp)) ∧ Below W1.heap.size W1 w') := rkpart_any _ td (ts + kp) W1 (hO.kept HB.out.2.2) HLE.out.1 (by have := HLE.out; omega)
  have t0 := HB.out.1.cell 0 _ rfl
  have t1 := HB.out.1.cell 1 _ rfl
  have c0 := HB.out.2.1.cell 0 _ rfl
  have c1 := HB.out.2.1.cell 1 _ rfl
  clear hb hW1 hO
  go_enter Try.func32, Try.ntmps32
  go_upto_region 1 with fail
  rw [HW.out]
  go_wp2_with fail
  refine (HCI1.out _).mono ?_
  rintro e Wf ⟨rfl, rfl⟩
  go_wp2_with fail
  refine (HCI2.out _).mono ?_
  rintro e Wf ⟨rfl, rfl⟩
  go_wp2_with fail
  refine HCP.out.mono ?_
  rintro e W2 ⟨v2, rfl, o2, b2⟩
  have H2 : Hid (Own W1.heap.size W2 v2 (td.take (ts + kp)) ∧ Below W1.heap.size W1 W2) := ⟨o2, b2⟩
  clear o2 b2 HCP t0 t1 c0 c1 HCI1 HCI2
  have hz9 : zr ≤ 1000000000 := by have := HLE.out; omega
  go_wp2_with fail
  go_loopw [8, 9] (fun o i wr => ∃ k : Nat, k ≤ zr ∧ i = .int .i64 (k : Int) ∧ Own W1.heap.size wr o (td.take (ts + kp) ++ List.replicate k 0) ∧ Below W1.heap.size W1 wr) (fun _ i _ => zr - (intOf i).toNat)
  case atStart => exact ⟨0, Nat.zero_le _, rfl, by simpa using H2.out.1, H2.out.2⟩
  case round =>
    obtain ⟨k, hk, rfl, ho, hb⟩ := hrel
    have HO : Hid (Own W1.heap.size wr u8 (td.take (ts + kp) ++ List.replicate k 0) ∧ Below W1.heap.size W1 wr) := ⟨ho, hb⟩
    clear ho hb
    by_cases hlt : k < zr
    · have b1 := up0 wr (.cells #[.int .u8 0] 5)
      obtain ⟨v', W4, hr, h3, h4, -⟩ := run_appB (wr.alloc (.cells #[.int .u8 0] 5)) 23 W1.heap.size u8 _ (HO.out.1.kept b1) _ [0] (Bs.one wr 0 (by decide) _ rfl) (by rw [List.length_append, List.length_take, List.length_replicate, List.length_singleton]; have := HLE.out; omega) (Nat.le_trans HO.out.2.size b1.size)
      have HX : Hid (Own W1.heap.size W4 v' (td.take (ts + kp) ++ List.replicate (k + 1) 0) ∧ Below W1.heap.size W1 W4) := ⟨by rw [List.replicate_succ', ← List.append_assoc]; exact h3, (andThen HO.out.2 b1).trans ((Below.refl _ _).grown h4 (Nat.le_trans HO.out.2.size b1.size) fun q e => (World.ownsRow.lt (HO.out.1.kept b1).row q e).1)⟩
      clear b1 h3 h4
      go_wp2_with (at_builtin; refine wpList_appRun rfl (.tmp 38) (.tmp 39) 23 rfl rfl rfl hr ?_)
      clear hr
      go_wp2_with fail
      go_roundw
      case rel => exact ⟨k + 1, by omega, by go_num, HX.out.1, HX.out.2⟩
      case measure => simp [intOf]; omega
    · obtain rfl : k = zr := by omega
      go_wp2_with fail
      go_returns
      rw [HLV.out]
      exact ⟨_, rfl, HO.out.1.mono HB.out.2.2.size, andThen HB.out.2.2 HO.out.2⟩
set_option maxRecDepth 100000 in
set_option maxHeartbeats 8000000 in
theorem rkfiles_any (ok : Nat → Prop) (R : RS) (v : Value) (w : World) (h : RdM ok w R v) (hl : R.nm.length ≤ 300000000) (hok : okl R.th R.nm) (hln : ∀ t ∈ R.th, t.data.length ≤ 1000000000) :
    Calls Try.prog 11 #[v] w fun e w' => ∃ v', e = .returned v' ∧ Fls (w.heap.size ≤ ·) w' v' (rfiles R) ∧ Below w.heap.size w w' := by
  obtain ⟨xs, tv, nv, lv, cv, rfl, hxs, hS⟩ := h
  have HV0 : Hid (SM ok w xs R.nm R.la R.ch tv nv lv cv) := hS
  have HXS : Hid (R.th = xs.map (·.2)) := hxs
  obtain ⟨a1, c1, m1, h1, h2, h3⟩ := row_at hS.rt.row
  subst m1
  obtain ⟨a2, c2, m2, n1, n2, n3⟩ := row_at hS.rn.row
  subst m2
  obtain ⟨a3, c3, rfl⟩ := rw_slice hS.rl
  obtain ⟨a4, c4, rfl⟩ := rw_slice hS.rc
  unfold maxLen at h2 n2
  clear hS hxs
  have b1 := up0 w (.cells #[.int .i64 R.quota, .slice a1 xs.length c1, .slice a2 R.nm.length c2, .slice a3 R.la.length c3, .slice a4 R.ch.length c4, .int .i64 R.left, .bool R.down] 45)
  have l1 := lb_new w [.int .i64 R.quota, .slice a1 xs.length c1, .slice a2 R.nm.length c2, .slice a3 R.la.length c3, .slice a4 R.ch.length c4, .int .i64 R.left, .bool R.down] 45
  obtain ⟨W2, hW2⟩ : ∃ W, W = w.alloc (.cells #[.int .i64 R.quota, .slice a1 xs.length c1, .slice a2 R.nm.length c2, .slice a3 R.la.length c3, .slice a4 R.ch.length c4, .int .i64 R.left, .bool R.down] 45) := ⟨_, rfl⟩
  obtain ⟨p2, hp2⟩ : ∃ p, p = w.heap.size := ⟨_, rfl⟩
  have HB2 : Hid (LB W2 p2 45 [.int .i64 R.quota, .slice a1 xs.length c1, .slice a2 R.nm.length c2, .slice a3 R.la.length c3, .slice a4 R.ch.length c4, .int .i64 R.left, .bool R.down] ∧ Below w.heap.size w W2) := by
    rw [hW2, hp2]
    exact ⟨l1, b1⟩
  have HW2 : Hid (w.alloc (.cells #[.int .i64 R.quota, .slice a1 xs.length c1, .slice a2 R.nm.length c2, .slice a3 R.la.length c3, .slice a4 R.ch.length c4, .int .i64 R.left, .bool R.down] 45) = W2 ∧ w.heap.size = p2) := ⟨hW2.symm, hp2.symm⟩
  clear b1 l1 hW2 hp2
  have d0 := HB2.out.1.cell 0 _ rfl
  have d1 := HB2.out.1.cell 1 _ rfl
  have d2 := HB2.out.1.cell 2 _ rfl
  have d3 := HB2.out.1.cell 3 _ rfl
  have d4 := HB2.out.1.cell 4 _ rfl
  have d5 := HB2.out.1.cell 5 _ rfl
  have d6 := HB2.out.1.cell 6 _ rfl
  have b1 := up0 W2 (.cells #[.slice a1 xs.length c1, .slice a2 R.nm.length c2, .slice a3 R.la.length c3, .slice a4 R.ch.length c4] 43)
  have l1 := lb_new W2 [.slice a1 xs.length c1, .slice a2 R.nm.length c2, .slice a3 R.la.length c3, .slice a4 R.ch.length c4] 43
  obtain ⟨W3, hW3⟩ : ∃ W, W = W2.alloc (.cells #[.slice a1 xs.length c1, .slice a2 R.nm.length c2, .slice a3 R.la.length c3, .slice a4 R.ch.length c4] 43) := ⟨_, rfl⟩
  obtain ⟨p3, hp3⟩ : ∃ p, p = W2.heap.size := ⟨_, rfl⟩
  have HB3 : Hid (LB W3 p3 43 [.slice a1 xs.length c1, .slice a2 R.nm.length c2, .slice a3 R.la.length c3, .slice a4 R.ch.length c4] ∧ LB W3 p2 45 [.int .i64 R.quota, .slice a1 xs.length c1, .slice a2 R.nm.length c2, .slice a3 R.la.length c3, .slice a4 R.ch.length c4, .int .i64 R.left, .bool R.down] ∧ Below w.heap.size w W3) := by
    rw [hW3, hp3]
    exact ⟨l1, HB2.out.1.kept b1, andThen HB2.out.2 b1⟩
  have HW3 : Hid (W2.alloc (.cells #[.slice a1 xs.length c1, .slice a2 R.nm.length c2, .slice a3 R.la.length c3, .slice a4 R.ch.length c4] 43) = W3 ∧ W2.heap.size = p3) := ⟨hW3.symm, hp3.symm⟩
  clear b1 l1 hW3 hp3
  have HOL : Hid (okl R.th R.nm ∧ ∀ t ∈ R.th, t.data.length ≤ 1000000000) := ⟨hok, hln⟩
  clear hok hln
  go_enter Try.func11, Try.ntmps11
  go_upto_region 1 with fail
  rw [HW2.out.1, HW2.out.2]
  go_upto_region 2 with fail
  rw [HW3.out.1, HW3.out.2]
  clear d0 d1 d2 d3 d4 d5 d6
  go_wp2_with fail
  go_loopw [4, 5] (fun o i wr => ∃ (k : Nat) (ys : List (List UInt8 × Value × List Nat)), k ≤ R.nm.length ∧ i = .int .i64 (k : Int) ∧ FO W3.heap.size wr o ys ∧ (ys.map fun x => (x.1, x.2.2)) = (rfiles R).take k ∧ Below W3.heap.size W3 wr) (fun _ i _ => R.nm.length - (intOf i).toNat)
  case atStart => exact ⟨0, [], Nat.zero_le _, rfl, FO.nil _ _, rfl, Below.refl _ _⟩
  case round =>
    obtain ⟨k, ys, hk, rfl, hfo, hys, hb⟩ := hrel
    have HO : Hid (FO W3.heap.size wr u4 ys ∧ (ys.map fun x => (x.1, x.2.2)) = (rfiles R).take k ∧ Below W3.heap.size W3 wr) := ⟨hfo, hys, hb⟩
    have hyl : ys.length ≤ 300000000 := by
      have h9 := congrArg List.length hys
      rw [List.length_map, List.length_take] at h9
      omega
    have s0 := (HB3.out.1.kept hb).cell 0 _ rfl
    have s1 := (HB3.out.1.kept hb).cell 1 _ rfl
    clear hfo hys hb
    by_cases hlt : k < R.nm.length
    · obtain ⟨nb, hbe⟩ := n3 (List.ne_nil_of_length_pos (by omega))
      subst hbe
      have HSM := HV0.out.kept (andThen HB3.out.2.2 HO.out.2.2)
      obtain ⟨y0, y9⟩ := HSM.rn.cells k hlt
      have HYN0 : ∀ W, Below W3.heap.size W3 W → W.cell? ⟨nb, k * 2, none⟩ = some (.string ⟨R.nm[k].1.toArray⟩) := fun W hW => ((HV0.out.kept (andThen HB3.out.2.2 hW)).rn.cells k hlt).1
      obtain ⟨p, hp⟩ : ∃ p, p = R.nm[k] := ⟨_, rfl⟩
      have hpm : p ∈ R.nm := by rw [hp]; exact List.getElem_mem hlt
      have htk := (HOL.out.1 p hpm).2
      have HTK : Hid ((rfiles R).take (k + 1) = (rfiles R).take k ++ [(p.1, (R.th.getD p.2 ⟨[], 0, false⟩).data)]) := by
        show (rfiles R).take (k + 1) = _
        unfold rfiles
        rw [List.take_succ_eq_append_getElem (by rw [List.length_map]; exact hlt), List.getElem_map, hp]
      rw [← hp] at y0 y9 HYN0
      obtain ⟨n9, i⟩ := p
      simp only at y0 y9 htk HTK HYN0
      have HYN : Hid (∀ W, Below W3.heap.size W3 W → W.cell? ⟨nb, k * 2, none⟩ = some (.string ⟨n9.toArray⟩)) := HYN0
      clear HYN0
      have hil : i < xs.length := by
        have h9 := tok_lt htk
        rw [HXS.out, List.length_map] at h9
        exact h9
      obtain ⟨xv, td, ts, tt, hxi⟩ : ∃ xv td ts tt, xs[i]? = some (xv, (⟨td, ts, tt⟩ : Th)) := ⟨xs[i].1, xs[i].2.data, xs[i].2.syn, xs[i].2.there, List.getElem?_eq_getElem hil⟩
      have hx9 : R.th[i]? = some ⟨td, ts, tt⟩ := by rw [HXS.out, List.getElem?_map, hxi]; rfl
      rw [List.getD_eq_getElem?_getD, hx9] at HTK
      have hO := (HSM.od _ (List.mem_of_getElem? hxi)).1
      obtain ⟨ta0, tc0, ev, -⟩ := Mg.row_shape hO.row
      simp only at ev hO
      subst ev
      obtain ⟨tb, htb⟩ := h3 (List.ne_nil_of_length_pos (by omega))
      subst htb
      have y5 := row_cellx enT_len HSM.rt.row i _ hxi 0 _ rfl
      simp only [Nat.add_zero] at y5
      have hln9 : td.length ≤ 1000000000 := HOL.out.2 _ (List.mem_of_getElem? hx9)
      have HPT : Hid (∀ W, Below wr.heap.size wr W → Calls Try.prog 26 #[.slice ta0 td.length tc0, .int .i64 0, .int .i64 (td.length : Int)] W fun e w' => ∃ b9 n9 c9, e = .returned (.slice b9 n9 c9) ∧ Own W.heap.size w' (.slice b9 n9 c9) td ∧ Below W.heap.size W w') := fun W hW => (rkpart_any _ td td.length W (hO.kept hW).bs (Nat.le_refl _) (by omega)).mono fun e w' ⟨v', h1, h2, h3⟩ => by
        rw [List.take_length] at h2
        obtain ⟨b9, c9, rfl, -⟩ := Mg.row_shape h2.row
        exact ⟨b9, _, c9, h1, h2, h3⟩
      have HAP : Hid (∀ (W W2 : World) (b9 : Option Addr) (n8 c9 : Nat), Below wr.heap.size wr W → Below W.heap.size W W2 → Own W.heap.size W2 (.slice b9 n8 c9) td → ∃ o4 W4, (Builtin.append_ #[22, 22] 22 #[u4, .slice (some ⟨W2.heap.size, 0, none⟩) 1 1]).run Try.prog (W2.alloc (.cells #[.string ⟨n9.toArray⟩, .slice b9 n8 c9] 30)) = .ok o4 W4 ∧ FO W3.heap.size W4 o4 (ys ++ [(n9, .slice b9 n8 c9, td)]) ∧ Below W3.heap.size W3 W4) := fun W W2 b9 n8 c9 h1 h2 h3 => by
        have b3 := up0 W2 (.cells #[.string ⟨n9.toArray⟩, .slice b9 n8 c9] 30)
        have L3 : LB (W2.alloc (.cells #[.string ⟨n9.toArray⟩, .slice b9 n8 c9] 30)) W2.heap.size 30 (enF (n9, .slice b9 n8 c9, td)) := lb_new W2 [.string ⟨n9.toArray⟩, .slice b9 n8 c9] 30
        have h4 := andThen h1 h2
        have f3 := (HO.out.1.kept h4).kept b3
        obtain ⟨o4, W4, hr4, f4, b4⟩ := f3.app 22 (n9, .slice b9 n8 c9, td) ((h3.mono (Nat.le_trans HO.out.2.2.size h1.size)).kept b3) W2.heap.size 1 L3 (by omega) (Nat.le_trans HO.out.2.2.size (Nat.le_trans h4.size b3.size))
        exact ⟨o4, W4, hr4, f4, (andThen (andThen HO.out.2.2 h4) b3).trans b4⟩
      have HCK : Hid (∀ W, Below W3.heap.size W3 W → W.cell? ⟨p3, 1, none⟩ = some (.slice (some ⟨nb, 0, none⟩) R.nm.length c2) ∧ W.cell? ⟨nb, k * 2, none⟩ = some (.string ⟨n9.toArray⟩)) := fun W hW => ⟨(HB3.out.1.kept hW).cell 1 _ rfl, HYN.out W hW⟩
      clear hp hpm htk hxi hx9 hO HSM
      go_wp2_with fail
      go_quiet (fail)
      obtain ⟨Wq, hWq⟩ : ∃ W, W = wr.drewN nq := ⟨_, rfl⟩
      have HBQ : Hid (Below wr.heap.size wr Wq) := by rw [hWq]; exact bel_drewN (Below.refl _ _) _
      rw [← hWq]
      clear hWq s0 s1 y0 y9 y5
      obtain ⟨s1, y0⟩ := HCK.out Wq (andThen HO.out.2.2 HBQ.out)
      go_wp2_with fail
      go_region_held3 (fun w' => w'.cell? ⟨p3, 1, none⟩ = some (.slice (some ⟨nb, 0, none⟩) R.nm.length c2) ∧ w'.cell? ⟨nb, k * 2, none⟩ = some (.string ⟨n9.toArray⟩)) (first | go_keep | (exact HCK.out _ (andThen HO.out.2.2 (andThen HBQ.out (andThen (Below.drew (Below.refl _ _)) hb')))) | (exact HCK.out _ b4))
        (first | (go_at_call 26; refine (HPT.out _ ?_).mono ?_; (exact andThen HBQ.out (Below.drew (Below.refl _ _))); rintro e w' ⟨b9, n8, c9, rfl, o9, hb'⟩; (obtain ⟨o4, W4, hr4, f4, b4⟩ := HAP.out _ w' b9 n8 c9 (andThen HBQ.out (Below.drew (Below.refl _ _))) hb' o9)) | (refine step_appRun rfl (.tmp 27) (.tmp 39) 22 rfl rfl rfl hr4 ?_))
      have H4 : Hid (FO W3.heap.size W4 o4 (ys ++ [(n9, .slice b9 n8 c9, td)]) ∧ Below W3.heap.size W3 W4) := ⟨f4, b4⟩
      clear hr4 f4 b4 o9 hb' s1 y0
      go_wp2_with fail
      go_roundw
      case rel =>
        refine ⟨k + 1, _, by omega, by go_num, H4.out.1, ?_, H4.out.2⟩
        rw [List.map_append, HO.out.2.1, HTK.out]
        rfl
      case measure => simp [intOf]; omega
    · have HE : Hid ((ys.map fun x => (x.1, x.2.2)) = rfiles R) := by
        have h9 := HO.out.2.1
        rw [List.take_of_length_le (by unfold rfiles; rw [List.length_map]; omega)] at h9
        exact h9
      go_wp2_with fail
      go_returns
      have h9 := HO.out.1.fls
      rw [HE.out] at h9
      exact ⟨_, rfl, h9.mono fun q hq => Nat.le_trans HB3.out.2.2.size hq, andThen HB3.out.2.2 HO.out.2.2⟩
end Go.Proofs.Ytgdfnlbiminblaa

/-
  A region that draws: a load may be taken first where its cell is written by one operation alone, which waits for it.
-/
namespace Go.Proofs.Ytgdfnlbiminblaa
open Go Go.RowKit

section
variable {P : Program} {md : Region.Mode} {ops : Array Oper} {Q : Exit → Act → World → Prop} {S : World → Prop}
/-- whatever order is picked: S holds behind every operation ahead of number c; from c on nothing is asked -/
def wpAnyL (P : Program) (md : Region.Mode) (ops : Array Oper) (Q : Exit → Act → World → Prop) (S : World → Prop) (c : Nat) : Nat → Array Bool → Act → World → Prop
  | 0, listed, a, w => Region.ready md ops listed = [] ∧ Q .normal a w
  | fuel + 1, listed, a, w =>
    (Region.ready md ops listed = [] → Q .normal a w) ∧
    ∀ i ∈ Region.ready md ops listed, wpOp P ops Q i (fun a' w' => (i ≠ c → S w' ∧ wpAnyL P md ops Q S c fuel (listed.setIfInBounds i true) a' w') ∧ (i = c → wpAnyH P md ops Q (fun _ => True) fuel (listed.setIfInBounds i true) a' w')) a w
theorem held_of_L {c : Nat} : ∀ (fuel : Nat) (listed : Array Bool) (a : Act) (w : World), wpAnyL P md ops Q S c fuel listed a w → wpAnyH P md ops Q (fun _ => True) fuel listed a w
  | 0, _, _, _, h => h
  | fuel + 1, _, _, _, h => ⟨h.1, fun i hi => wpOp_mono (fun a' w' h' => ⟨trivial, by
      by_cases hc : i = c
      · exact h'.2 hc
      · exact held_of_L fuel _ a' w' (h'.1 hc).2⟩) (h.2 i hi)⟩
theorem wpAnyL_first {i c : Nat} {oi : Oper} {v : Value} (hi : ops[i]? = some oi) (hsel : ∀ (j : Nat) (o : Oper) cs b, ops[j]? = some o → o.op ≠ .select cs b)
    (hQ : ∀ c a w, Q (.panic c) (a.put oi.dst v) w → Q (.panic c) a w) (hc : ∀ oc, ops[c]? = some oc → ∃ e ∈ oc.after, Region.binds md e = true ∧ e.on = i) :
    ∀ (fuel : Nat) (listed : Array Bool) (a : Act) (w : World),
      (∀ j oj, ops[j]? = some oj → j ≠ i → listed.getD j true = false → (∀ e ∈ oj.after, Region.binds md e = true → e.on ≠ i) → oi.apart ops oj = true) →
      i ∈ Region.ready md ops listed → YieldsIf P ops S oi v a → S w →
      wpAnyL P md ops Q S c fuel (listed.setIfInBounds i true) (a.put oi.dst v) w → wpAnyH P md ops Q (fun _ => True) (fuel + 1) listed a w := by
  intro fuel
  induction fuel with
  | zero =>
    intro listed a w _ hr hy hS H
    refine ⟨fun h => (by rw [h] at hr; cases hr), fun j hj => ?_⟩
    by_cases hji : j = i
    · subst hji; exact hy.wpOp hi hS ⟨trivial, H⟩
    · have := ready_mono hj hji
      rw [H.1] at this
      cases this
  | succ fuel ih =>
    intro listed a w hfree hr hy hS H
    refine ⟨fun h => (by rw [h] at hr; cases hr), fun j hj => ?_⟩
    by_cases hji : j = i
    · subst hji; exact hy.wpOp hi hS ⟨trivial, held_of_L _ _ _ _ H⟩
    · have h1 := H.2 j (ready_mono hj hji)
      obtain ⟨hjun, oj, hoj, hall⟩ := mem_ready.1 hj
      have hnot : ∀ e ∈ oj.after, Region.binds md e = true → e.on ≠ i := fun e he hb heq => by
        have h1 := hall e he hb
        have h0 := (mem_ready.1 hr).1
        rw [heq] at h1
        rcases Nat.lt_or_ge i listed.size with h' | h'
        · simp [h'] at h0 h1; rw [h0] at h1; cases h1
        · simp [Array.getElem?_eq_none h'] at h1
      have hjc : j ≠ c := fun e => by
        subst e
        obtain ⟨e, he, hb, hon⟩ := hc oj hoj
        exact hnot e he hb hon
      have h2 := wpOp_putIf hoj (hfree j oj hoj hji hjun hnot) (fun cs b => hsel i oi cs b hi) (fun cs b => hsel j oj cs b hoj) hQ hy (wpOp_mono (fun a' w' h' => h'.1 hjc) h1)
      have hfree' : ∀ k ok, ops[k]? = some ok → k ≠ i → (listed.setIfInBounds j true).getD k true = false →
          (∀ e ∈ ok.after, Region.binds md e = true → e.on ≠ i) → oi.apart ops ok = true := fun k ok hk hki hun hno => by
        refine hfree k ok hk hki ?_ hno
        by_cases hjk : j = k
        · subst hjk; exact hjun
        · rw [getD_set_ne true hjk] at hun; exact hun
      refine wpOp_mono (fun a' w' h3 => ⟨trivial, ih (listed.setIfInBounds j true) a' w' hfree' (ready_mono hr (Ne.symm hji)) h3.1 h3.2.1 ?_⟩) h2
      rw [Array.setIfInBounds_comm _ _ hji]
      exact h3.2.2
def waitsFor (md : Region.Mode) (ops : Array Oper) (c i : Nat) : Bool := match ops[c]? with
  | some oc => oc.after.any fun e => Region.binds md e && e.on == i
  | none => false
theorem waitsFor_spec {c i : Nat} (h : waitsFor md ops c i = true) : ∀ oc, ops[c]? = some oc → ∃ e ∈ oc.after, Region.binds md e = true ∧ e.on = i := fun oc ho => by
  unfold waitsFor at h
  rw [ho] at h
  simp only [Array.any_eq_true', Bool.and_eq_true, beq_iff_eq] at h
  exact h
variable {fuel : Nat} {listed : Array Bool} {a : Act} {w : World} {oi : Oper} {v : Value} {c : Nat}
/-- take the load number i first; its cell is written behind number c alone -/
theorem zqm (i c : Nat) (hi : ops[i]? = some oi) (hy : YieldsIf P ops S oi v a) (hS : S w) (h : wpAnyL P md ops Q S c fuel (listed.setIfInBounds i true) (a.put oi.dst v) w) (hc : waitsFor md ops c i = true := by kernel_rfl) (hs : Region.noSelect ops = true := by kernel_rfl) (hf : Region.free md ops listed i = true := by kernel_rfl) (hr : (Region.ready md ops listed).contains i = true := by kernel_rfl)
    (hQ : ∀ c a w, Q (.panic c) (a.put oi.dst v) w → Q (.panic c) a w := by exact fun _ _ _ h => h) : wpAnyH P md ops Q (fun _ => True) (fuel + 1) listed a w := wpAnyL_first hi (Region.noSelect_spec hs) hQ (waitsFor_spec hc) fuel listed a w (Region.free_spec hi hf) (by simpa using hr) hy hS h
def AllReadyL (P : Program) (md : Region.Mode) (ops : Array Oper) (Q : Exit → Act → World → Prop) (S : World → Prop) (c fuel : Nat) (listed : Array Bool) (a : Act) (w : World) (rs : List Nat) : Prop :=
  ∀ i ∈ rs, wpOp P ops Q i (fun a' w' => S w' ∧ wpAnyL P md ops Q S c fuel (listed.setIfInBounds i true) a' w') a w
theorem AllReadyL.nil : AllReadyL P md ops Q S c fuel listed a w [] := fun _ h => by cases h
theorem AllReadyL.cons {i : Nat} {o : Oper} {rs : List Nat} (ho : ops[i]? = some o)
    (h : ∀ K' : Act → World → Prop, Shut (∀ a w, S w → (S w → wpAnyL P md ops Q S c fuel (listed.setIfInBounds i true) a w) → K' a w) → if Region.wanted o (yielded ops a.tmps) = true then Oper.wp P o a w K' Q else K' (a.put o.dst undef) w)
    (hs : AllReadyL P md ops Q S c fuel listed a w rs) : AllReadyL P md ops Q S c fuel listed a w (i :: rs) := fun j hj => by
  rcases List.mem_cons.1 hj with rfl | hj
  · exact wpOp_step ho (fun K' hK => h K' (fun a w hS hW => hK a w ⟨hS, hW hS⟩))
  · exact hs j hj
theorem wpAnyL_ready {rs : List Nat} (hr : Region.ready md ops listed = rs) (hne : rs ≠ []) (hc : rs.contains c = false)
    (h : AllReadyL P md ops Q S c fuel listed a w rs) : wpAnyL P md ops Q S c (fuel + 1) listed a w :=
  ⟨fun h0 => absurd (hr ▸ h0) hne, fun i hi => wpOp_mono (fun _ _ h' => ⟨fun _ => h', fun e => by
    subst e
    rw [hr] at hi
    have : rs.contains i = true := List.contains_iff_mem.2 hi
    rw [hc] at this
    cases this⟩) (h i (hr ▸ hi))⟩
/-- number c comes up alone: from here on nothing is asked -/
theorem wpAnyL_last (hr : Region.ready md ops listed = [c]) (h : wpAnyH P md ops Q (fun _ => True) (fuel + 1) listed a w) : wpAnyL P md ops Q S c (fuel + 1) listed a w :=
  ⟨h.1, fun i hi => wpOp_mono (fun _ _ h' => ⟨fun hne => by
    rw [hr] at hi
    simp at hi
    exact absurd hi hne, fun _ => h'.2⟩) (h.2 i hi)⟩
end
end Go.Proofs.Ytgdfnlbiminblaa
