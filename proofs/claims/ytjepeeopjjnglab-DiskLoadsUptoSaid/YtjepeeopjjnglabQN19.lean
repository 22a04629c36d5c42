import Derived.Test.YtjepeeopjjnglabQN18
/-
  The document's disk: Do, Arm.
-/
namespace Go.Proofs.Ytjepeeopjjnglab
open Go Go.RowKit Go.ChangeShapes
open Wb
open Rd
theorem results_cell_slot {P : Program} {fn : Func} {p s : Tmp} {ty : TypeId} (h : fn.results = #[.cell p ty, .tmp s]) (tmps : Array Value) (w : World) (g : Nat) (cs : List Value) (d : TypeDesc)
    (hp : tmps.getD p undef = .pointer (some ⟨g, 0, none⟩)) (hc : w.rangeAt g 0 cs) (hu : P.underlying ty = some d) (hd : d.isRow = true) (hi : (P.info? ty).map (·.size) = some cs.length) :
    (results fn tmps).run P w = .ok (.tuple #[.agg cs.toArray, tmps.getD s undef]) w := by
  have hp' : tmps[p]?.getD undef = .pointer (some ⟨g, 0, none⟩) := by simpa using hp
  simp [results, h, hp', asAddr, run_loadVar_mid w g 0 ty cs d hc hu hd hi]
namespace Rd
theorem dk_fin {ok ok2 : Nat → Prop} {w Wz : World} {xs : List (Value × Th)} {nm la : Dk.Nm} {ch : List RCh} {tv nv lv cv : Value} {p2 p4 p7 : Nat} {R : RS} {q l : Int} {d : Bool} (h : SM ok2 w xs nm la ch tv nv lv cv) (far : ∀ q, q ≠ p2 → q ≠ p4 → q ≠ p7 → Wz.heap[q]? = w.heap[q]?) (h2 : ∀ q, ok2 q → q ≠ p2 ∧ q ≠ p4 ∧ q ≠ p7) (hm : ∀ q, ok2 q → ok q) (hR : R.th = xs.map (·.2) ∧ R.nm = nm ∧ R.la = la ∧ R.ch = ch ∧ R.quota = q ∧ R.left = l ∧ R.down = d) : RdM ok Wz R (.agg #[.int .i64 q, tv, nv, lv, cv, .int .i64 l, .bool d]) := by
  obtain ⟨r1, rfl, rfl, rfl, rfl, rfl, rfl⟩ := hR
  exact ⟨xs, tv, nv, lv, cv, rfl, r1, (h.blk fun q hq _ => far q (h2 q hq).1 (h2 q hq).2.1 (h2 q hq).2.2).mono hm⟩
end Rd
set_option maxRecDepth 100000 in
set_option maxHeartbeats 32000000 in
theorem rkdo_any (ok : Nat → Prop) (R : RS) (v : Value) (o : Rop) (da : Option Addr) (dc : Nat) (w : World) (h : RdM ok w R v) (hk : 1 ≤ o.k ∧ o.k ≤ 7) (hd : Bs w (.slice da o.data.length dc) o.data) (hsa : o.a.size ≤ maxLen) (hsb : o.b.size ≤ maxLen) (hbn : R.nm.length ≤ 300000000 ∧ R.ch.length ≤ 300000000 ∧ R.th.length ≤ 300000000) (hok : okl R.th R.nm) (hln : ∀ t ∈ R.th, t.data.length ≤ 1000000000) (hq : 0 ≤ R.quota ∧ R.quota ≤ 4194304) (htk : tkn R.th ≤ 4194304) (hdl : o.data.length ≤ 1000000000) (hlf : R.left ≤ 9223372036854775807 ∧ -1 ≤ R.left) :
    Calls Try.prog 61 #[v, .agg #[.int .i64 o.k, .string o.a, .string o.b, .int .i64 o.n, .slice da o.data.length dc]] w fun e w' => ∃ v' E, e = .returned (.tuple #[v', .int .i64 E]) ∧ (rdo R o).2 = E ∧ RdM (fun q => ok q ∨ w.heap.size ≤ q) w' (rdo R o).1 v' ∧ Below w.heap.size w w' := by
  have HRF : Hid (∀ W, Below w.heap.size w W → Calls Try.prog 76 #[v, .agg #[.int .i64 o.k, .string o.a, .string o.b, .int .i64 o.n, .slice da o.data.length dc]] W fun e w' => e = .returned (.int .i64 (rref R o)) ∧ Below W.heap.size W w') := fun W hW => rkrefused_any ok R v o da dc W (h.kept hW) hk hsa hsb hok hq htk hdl
  obtain ⟨xs, tv, nv, lv, cv, rfl, hxs, hS⟩ := h
  have HAC : Hid (∀ (ok3 : Nat → Prop) W, SM ok3 W xs R.nm R.la R.ch tv nv lv cv → Below w.heap.size w W → rref R o = 0 → Calls Try.prog 77 #[.agg #[tv, nv, lv, cv], .agg #[.int .i64 o.k, .string o.a, .string o.b, .int .i64 o.n, .slice da o.data.length dc]] W fun e w' => ∃ v', e = .returned v' ∧ StM (fun q => ok3 q ∨ W.heap.size ≤ q) w' (ract R o) v' ∧ Below W.heap.size W w') := fun ok3 W hS3 hW hr => rkact_any ok3 R _ o da dc W ⟨xs, tv, nv, lv, cv, rfl, hxs, hS3⟩ hk hr (hd.kept hW) hbn hok hln hdl
  have HV0 : Hid (SM ok w xs R.nm R.la R.ch tv nv lv cv) := hS
  have HXS : Hid (R.th = xs.map (·.2)) := hxs
  have HLF : Hid (R.left ≤ 9223372036854775807 ∧ -1 ≤ R.left) := hlf
  have HRD : Hid (rdo R o = if R.down = true then (R, 60) else if rref R o ≠ 0 then (R, rref R o) else if R.left = 0 then ({ R with down := true }, 60) else ({ ract R o with left := if R.left > 0 then R.left - 1 else R.left }, 0)) := rfl
  obtain ⟨a1, c1, rfl⟩ := rw_slice hS.rt
  obtain ⟨a2, c2, rfl⟩ := rw_slice hS.rn
  obtain ⟨a3, c3, rfl⟩ := rw_slice hS.rl
  obtain ⟨a4, c4, rfl⟩ := rw_slice hS.rc
  have HRA : Hid ((ract R o).quota = R.quota ∧ (ract R o).down = R.down) := by
    obtain ⟨k1, k2, k3, k4, k5, k6, k7⟩ := ract_k R o
    have h6 : o.k = 1 ∨ o.k = 2 ∨ o.k = 3 ∨ o.k = 4 ∨ o.k = 5 ∨ o.k = 6 ∨ o.k = 7 := by omega
    rcases h6 with k | k | k | k | k | k | k
    · rw [k1 k]; exact ⟨rfl, rfl⟩
    · rw [k2 k]; exact ⟨rfl, rfl⟩
    · rw [k3 k]; exact ⟨rfl, rfl⟩
    · rw [k4 k]; exact ⟨rfl, rfl⟩
    · rw [k5 k]; exact ⟨rfl, rfl⟩
    · rw [k6 k]; exact ⟨rfl, rfl⟩
    · rw [k7 k]; exact ⟨rfl, rfl⟩
  clear hS hxs hk hd hbn hok hln hq htk hdl hsa hsb hlf
  generalize ract R o = RA at *
  generalize rdo R o = RD at *
  generalize rref R o = E0 at *
  have hb3 := box3 w [.int .i64 R.quota, .slice a1 xs.length c1, .slice a2 R.nm.length c2, .slice a3 R.la.length c3, .slice a4 R.ch.length c4, .int .i64 R.left, .bool R.down] [.int .i64 o.k, .string o.a, .string o.b, .int .i64 o.n, .slice da o.data.length dc] [.int .i64 0, .slice none 0 0, .slice none 0 0, .slice none 0 0, .slice none 0 0, .int .i64 0, .bool false] 54 121 54
  go_enter Try.func61, Try.ntmps61
  go_upto_region 1 with fail
  obtain ⟨W3, hW3⟩ : ∃ W, W = ((w.alloc (.cells #[.int .i64 R.quota, .slice a1 xs.length c1, .slice a2 R.nm.length c2, .slice a3 R.la.length c3, .slice a4 R.ch.length c4, .int .i64 R.left, .bool R.down] 54)).alloc (.cells #[.int .i64 o.k, .string o.a, .string o.b, .int .i64 o.n, .slice da o.data.length dc] 121)).alloc (.cells #[.int .i64 0, .slice none 0 0, .slice none 0 0, .slice none 0 0, .slice none 0 0, .int .i64 0, .bool false] 54) := ⟨_, rfl⟩
  rw [← hW3]
  obtain ⟨p2, hp2⟩ : ∃ p, p = w.heap.size := ⟨_, rfl⟩
  obtain ⟨p3, hp3⟩ : ∃ p, p = w.heap.size + 1 := ⟨_, rfl⟩
  obtain ⟨p4, hp4⟩ : ∃ p, p = w.heap.size + 1 + 1 := ⟨_, rfl⟩
  rw [← hp4, ← hp3, ← hp2]
  have HB3 : Hid (LB W3 p2 54 [.int .i64 R.quota, .slice a1 xs.length c1, .slice a2 R.nm.length c2, .slice a3 R.la.length c3, .slice a4 R.ch.length c4, .int .i64 R.left, .bool R.down] ∧ LB W3 p3 121 [.int .i64 o.k, .string o.a, .string o.b, .int .i64 o.n, .slice da o.data.length dc] ∧ LB W3 p4 54 [.int .i64 0, .slice none 0 0, .slice none 0 0, .slice none 0 0, .slice none 0 0, .int .i64 0, .bool false] ∧ Below w.heap.size w W3) := by
    rw [hp2, hp3, hp4, hW3]
    exact hb3
  have HPB : Hid (w.heap.size ≤ p2 ∧ w.heap.size ≤ p4) := ⟨by omega, by omega⟩
  have HNE : Hid (p4 ≠ p2) := by
    show p4 ≠ p2
    omega
  have HN32 : Hid (p3 ≠ p2) := by
    show p3 ≠ p2
    omega
  have n24 : (p2 = p4) = False := eq_false (Ne.symm HNE.out)
  have n42 : (p4 = p2) = False := eq_false HNE.out
  clear hb3 hW3 hp2 hp3 hp4
  obtain ⟨ok2, hok2⟩ : ∃ f : Nat → Prop, f = fun q => (ok q ∧ q < w.heap.size) ∨ W3.heap.size ≤ q := ⟨_, rfl⟩
  have HOK2 : Hid (∀ q, ok2 q → q ≠ p2 ∧ q ≠ p4 ∧ q ≠ p4) := fun q hq => by
    rw [hok2] at hq
    have k2 := HB3.out.1.lt
    have k4 := HB3.out.2.2.1.lt
    have kp := HPB.out
    rcases hq with ⟨-, h9⟩ | h9
    · exact ⟨by omega, by omega, by omega⟩
    · exact ⟨by omega, by omega, by omega⟩
  have HLOW : Hid (∀ q, ok q ∧ q < w.heap.size → ok2 q) := fun q hq => by rw [hok2]; exact .inl hq
  have HNW : Hid (∀ q, W3.heap.size ≤ q → ok2 q) := fun q hq => by rw [hok2]; exact .inr hq
  have HMO : Hid (∀ q, ok2 q → ok q ∨ w.heap.size ≤ q) := fun q hq => by
    rw [hok2] at hq
    rcases hq with ⟨h9, -⟩ | h9
    · exact .inl h9
    · exact .inr (Nat.le_trans HB3.out.2.2.2.size h9)
  clear hok2
  cases hdn : R.down with
  | true =>
    have HEQ : Hid (RD.2 = 60) := by rw [HRD.out, if_pos hdn]; rfl
    have HE1 : Hid (RD.1 = R) := by rw [HRD.out, if_pos hdn]; rfl
    have hdn2 : Hid (R.down = true) := hdn
    have L4 := HB3.out.2.2.1.kept (Below.refl _ _)
    have z0 := L4.cell 0 _ rfl
    have z1 := L4.cell 1 _ rfl
    have z2 := L4.cell 2 _ rfl
    have z3 := L4.cell 3 _ rfl
    have z4 := L4.cell 4 _ rfl
    have z5 := L4.cell 5 _ rfl
    have z6 := L4.cell 6 _ rfl
    have i40 := L4.free 0
    have i41 := L4.free 1
    have i42 := L4.free 2
    have i43 := L4.free 3
    have i44 := L4.free 4
    have i45 := L4.free 5
    have i46 := L4.free 6
    have HL4 : Hid (LB W3 p4 54 [.int .i64 0, .slice none 0 0, .slice none 0 0, .slice none 0 0, .slice none 0 0, .int .i64 0, .bool false]) := L4
    clear L4
    have L2 := HB3.out.1.kept (Below.refl _ _)
    have d0 := L2.cell 0 _ rfl
    have d1 := L2.cell 1 _ rfl
    have d2 := L2.cell 2 _ rfl
    have d3 := L2.cell 3 _ rfl
    have d4 := L2.cell 4 _ rfl
    have d5 := L2.cell 5 _ rfl
    have d6 := L2.cell 6 _ rfl
    have f1 := L2.free 1
    have f2 := L2.free 2
    have f3 := L2.free 3
    have f4 := L2.free 4
    have f5 := L2.free 5
    have f6 := L2.free 6
    have HL2 : Hid (LB W3 p2 54 [.int .i64 R.quota, .slice a1 xs.length c1, .slice a2 R.nm.length c2, .slice a3 R.la.length c3, .slice a4 R.ch.length c4, .int .i64 R.left, .bool R.down]) := L2
    clear L2
    rw [hdn] at d6
    clear HRD HRF HAC hdn
    go_wp2_with fail
    have LZ := (((((((HL4.out.set 0 (.int .i64 R.quota)).set 1 (.slice a1 xs.length c1)).set 2 (.slice a2 R.nm.length c2)).set 3 (.slice a3 R.la.length c3)).set 4 (.slice a4 R.ch.length c4)).set 5 (.int .i64 R.left)).set 6 (.bool true))
    refine bodyPost_ret (results_cell_slot rfl _ _ p4 [.int .i64 R.quota, .slice a1 xs.length c1, .slice a2 R.nm.length c2, .slice a3 R.la.length c3, .slice a4 R.ch.length c4, .int .i64 R.left, .bool true] _ rfl LZ.range Try.underlying54 rfl (by kernel_rfl)) rfl ?_
    have far : ∀ q, q ≠ p2 → q ≠ p4 → q ≠ p4 → (((((((W3.setCell ⟨p4, 0, none⟩ (.int .i64 R.quota)).setCell ⟨p4, 1, none⟩ (.slice a1 xs.length c1)).setCell ⟨p4, 2, none⟩ (.slice a2 R.nm.length c2)).setCell ⟨p4, 3, none⟩ (.slice a3 R.la.length c3)).setCell ⟨p4, 4, none⟩ (.slice a4 R.ch.length c4)).setCell ⟨p4, 5, none⟩ (.int .i64 R.left)).setCell ⟨p4, 6, none⟩ (.bool true)).heap[q]? = W3.heap[q]? := fun q h2 h4 _ => by
      rw [set_other _ _ _ _ h4, set_other _ _ _ _ h4, set_other _ _ _ _ h4, set_other _ _ _ _ h4, set_other _ _ _ _ h4, set_other _ _ _ _ h4, set_other _ _ _ _ h4]
    have bl := (((((((HB3.out.2.2.2.setCell (p := ⟨p4, 0, none⟩) HPB.out.2 (.int .i64 R.quota)).setCell (p := ⟨p4, 1, none⟩) HPB.out.2 (.slice a1 xs.length c1)).setCell (p := ⟨p4, 2, none⟩) HPB.out.2 (.slice a2 R.nm.length c2)).setCell (p := ⟨p4, 3, none⟩) HPB.out.2 (.slice a3 R.la.length c3)).setCell (p := ⟨p4, 4, none⟩) HPB.out.2 (.slice a4 R.ch.length c4)).setCell (p := ⟨p4, 5, none⟩) HPB.out.2 (.int .i64 R.left)).setCell (p := ⟨p4, 6, none⟩) HPB.out.2 (.bool true))
    rw [HE1.out]
    exact ⟨_, _, rfl, HEQ.out, dk_fin ((HV0.out.lo.mono fun q hq => HLOW.out q hq).kept (andThen HB3.out.2.2.2 (Below.refl _ _))) far HOK2.out HMO.out ⟨HXS.out, rfl, rfl, rfl, rfl, rfl, hdn2.out⟩, bl⟩
  | false =>
    have hdn2 : Hid (R.down = false) := hdn
    have HRD2 : Hid (RD = if E0 ≠ 0 then (R, E0) else if R.left = 0 then ({ R with down := true }, 60) else ({ RA with left := if R.left > 0 then R.left - 1 else R.left }, 0)) := by rw [HRD.out, if_neg (by rw [hdn]; simp)]; rfl
    have e0 := HB3.out.1.cell 0 _ rfl
    have e1 := HB3.out.1.cell 1 _ rfl
    have e2 := HB3.out.1.cell 2 _ rfl
    have e3 := HB3.out.1.cell 3 _ rfl
    have e4 := HB3.out.1.cell 4 _ rfl
    have e5 := HB3.out.1.cell 5 _ rfl
    have e6 := HB3.out.1.cell 6 _ rfl
    have q0 := HB3.out.2.1.cell 0 _ rfl
    have q1 := HB3.out.2.1.cell 1 _ rfl
    have q2 := HB3.out.2.1.cell 2 _ rfl
    have q3 := HB3.out.2.1.cell 3 _ rfl
    have q4 := HB3.out.2.1.cell 4 _ rfl
    have HR3 := HRF.out W3 HB3.out.2.2.2
    rw [hdn] at e6 HR3
    have HRC : Hid (Calls Try.prog 76 #[.agg #[.int .i64 R.quota, .slice a1 xs.length c1, .slice a2 R.nm.length c2, .slice a3 R.la.length c3, .slice a4 R.ch.length c4, .int .i64 R.left, .bool false], .agg #[.int .i64 o.k, .string o.a, .string o.b, .int .i64 o.n, .slice da o.data.length dc]] W3 fun e w' => e = .returned (.int .i64 E0) ∧ Below W3.heap.size W3 w') := HR3
    clear HR3 HRF HRD hdn
    go_wp2_with fail
    refine HRC.out.mono ?_
    rintro e W5 ⟨rfl, b5⟩
    have HB5 : Hid (Below W3.heap.size W3 W5) := b5
    clear b5 HRC e0 e1 e2 e3 e4 e5 e6 q0 q1 q2 q3 q4
    have L4 := HB3.out.2.2.1.kept HB5.out
    have z0 := L4.cell 0 _ rfl
    have z1 := L4.cell 1 _ rfl
    have z2 := L4.cell 2 _ rfl
    have z3 := L4.cell 3 _ rfl
    have z4 := L4.cell 4 _ rfl
    have z5 := L4.cell 5 _ rfl
    have z6 := L4.cell 6 _ rfl
    have i40 := L4.free 0
    have i41 := L4.free 1
    have i42 := L4.free 2
    have i43 := L4.free 3
    have i44 := L4.free 4
    have i45 := L4.free 5
    have i46 := L4.free 6
    have HL4 : Hid (LB W5 p4 54 [.int .i64 0, .slice none 0 0, .slice none 0 0, .slice none 0 0, .slice none 0 0, .int .i64 0, .bool false]) := L4
    clear L4
    have L2 := HB3.out.1.kept HB5.out
    have d0 := L2.cell 0 _ rfl
    have d1 := L2.cell 1 _ rfl
    have d2 := L2.cell 2 _ rfl
    have d3 := L2.cell 3 _ rfl
    have d4 := L2.cell 4 _ rfl
    have d5 := L2.cell 5 _ rfl
    have d6 := L2.cell 6 _ rfl
    have f1 := L2.free 1
    have f2 := L2.free 2
    have f3 := L2.free 3
    have f4 := L2.free 4
    have f5 := L2.free 5
    have f6 := L2.free 6
    have HL2 : Hid (LB W5 p2 54 [.int .i64 R.quota, .slice a1 xs.length c1, .slice a2 R.nm.length c2, .slice a3 R.la.length c3, .slice a4 R.ch.length c4, .int .i64 R.left, .bool R.down]) := L2
    clear L2
    rw [hdn2.out] at d6
    by_cases hE : E0 = 0
    · have xE : (E0 != 0) = false := by rw [hE]; rfl
      have HRD3 : Hid (RD = if R.left = 0 then ({ R with down := true }, 60) else ({ RA with left := if R.left > 0 then R.left - 1 else R.left }, 0)) := by rw [HRD2.out, if_neg (fun e => e hE)]; rfl
      by_cases hl : R.left = 0
      · have HEQ : Hid (RD.2 = 60) := by rw [HRD3.out, if_pos hl]; rfl
        have HE1 : Hid (RD.1 = { R with down := true }) := by rw [HRD3.out, if_pos hl]; rfl
        have xl : (R.left == 0) = true := by rw [hl]; rfl
        have HLE : Hid (R.left = 0) := hl
        clear HRD2 HRD3 hl hE HAC
        go_wp2_with fail
        have LZ := ((((((((HL4.out.other ⟨p2, 6, none⟩ (.bool true) HNE.out).set 0 (.int .i64 R.quota)).set 1 (.slice a1 xs.length c1)).set 2 (.slice a2 R.nm.length c2)).set 3 (.slice a3 R.la.length c3)).set 4 (.slice a4 R.ch.length c4)).set 5 (.int .i64 R.left)).set 6 (.bool true))
        refine bodyPost_ret (results_cell_slot rfl _ _ p4 [.int .i64 R.quota, .slice a1 xs.length c1, .slice a2 R.nm.length c2, .slice a3 R.la.length c3, .slice a4 R.ch.length c4, .int .i64 R.left, .bool true] _ rfl LZ.range Try.underlying54 rfl (by kernel_rfl)) rfl ?_
        have far : ∀ q, q ≠ p2 → q ≠ p4 → q ≠ p4 → ((((((((W5.setCell ⟨p2, 6, none⟩ (.bool true)).setCell ⟨p4, 0, none⟩ (.int .i64 R.quota)).setCell ⟨p4, 1, none⟩ (.slice a1 xs.length c1)).setCell ⟨p4, 2, none⟩ (.slice a2 R.nm.length c2)).setCell ⟨p4, 3, none⟩ (.slice a3 R.la.length c3)).setCell ⟨p4, 4, none⟩ (.slice a4 R.ch.length c4)).setCell ⟨p4, 5, none⟩ (.int .i64 R.left)).setCell ⟨p4, 6, none⟩ (.bool true)).heap[q]? = W5.heap[q]? := fun q h2 h4 _ => by
          rw [set_other _ _ _ _ h4, set_other _ _ _ _ h4, set_other _ _ _ _ h4, set_other _ _ _ _ h4, set_other _ _ _ _ h4, set_other _ _ _ _ h4, set_other _ _ _ _ h4, set_other _ _ _ _ h2]
        have bl := (((((((((andThen HB3.out.2.2.2 HB5.out).setCell (p := ⟨p2, 6, none⟩) HPB.out.1 (.bool true)).setCell (p := ⟨p4, 0, none⟩) HPB.out.2 (.int .i64 R.quota)).setCell (p := ⟨p4, 1, none⟩) HPB.out.2 (.slice a1 xs.length c1)).setCell (p := ⟨p4, 2, none⟩) HPB.out.2 (.slice a2 R.nm.length c2)).setCell (p := ⟨p4, 3, none⟩) HPB.out.2 (.slice a3 R.la.length c3)).setCell (p := ⟨p4, 4, none⟩) HPB.out.2 (.slice a4 R.ch.length c4)).setCell (p := ⟨p4, 5, none⟩) HPB.out.2 (.int .i64 R.left)).setCell (p := ⟨p4, 6, none⟩) HPB.out.2 (.bool true))
        rw [HE1.out]
        exact ⟨_, _, rfl, HEQ.out, dk_fin ((HV0.out.lo.mono fun q hq => HLOW.out q hq).kept (andThen HB3.out.2.2.2 HB5.out)) far HOK2.out HMO.out ⟨HXS.out, rfl, rfl, rfl, rfl, rfl, rfl⟩, bl⟩
      · have xl : (R.left == 0) = false := beq_eq_false_iff_ne.2 hl
        have q0 := (HB3.out.2.1.kept HB5.out).cell 0 _ rfl
        have q1 := (HB3.out.2.1.kept HB5.out).cell 1 _ rfl
        have q2 := (HB3.out.2.1.kept HB5.out).cell 2 _ rfl
        have q3 := (HB3.out.2.1.kept HB5.out).cell 3 _ rfl
        have q4 := (HB3.out.2.1.kept HB5.out).cell 4 _ rfl
        have n32 : (p3 = p2) = False := eq_false HN32.out
        have n23 : (p2 = p3) = False := eq_false (Ne.symm HN32.out)
        have HEQ : Hid (RD.2 = 0) := by rw [HRD3.out, if_neg hl]; rfl
        by_cases hg : R.left > 0
        · have xg : (0 < R.left) = True := eq_true hg
          have HE1 : Hid (RD.1 = { RA with left := R.left - 1 }) := by rw [HRD3.out, if_neg hl, if_pos hg]; rfl
          have hw : IntKind.i64.wrap (R.left - 1) = R.left - 1 := IntWalk.i64_in _ (by have := HLF.out; omega)
          have HSX : Hid (SM ok2 (W5.setCell ⟨p2, 5, none⟩ (.int .i64 (R.left - 1))) xs R.nm R.la R.ch (.slice a1 xs.length c1) (.slice a2 R.nm.length c2) (.slice a3 R.la.length c3) (.slice a4 R.ch.length c4)) := (((HV0.out.lo.mono fun q hq => HLOW.out q hq).kept (andThen HB3.out.2.2.2 HB5.out))).blk fun q hq _ => set_other _ _ _ _ (HOK2.out q hq).1
          have HBX : Hid (Below w.heap.size w (W5.setCell ⟨p2, 5, none⟩ (.int .i64 (R.left - 1))) ∧ W3.heap.size ≤ (W5.setCell ⟨p2, 5, none⟩ (.int .i64 (R.left - 1))).heap.size) := ⟨(andThen HB3.out.2.2.2 HB5.out).setCell (p := ⟨p2, 5, none⟩) HPB.out.1 _, by rw [size_set1]; exact HB5.out.size⟩
          have HLX : Hid (LB (W5.setCell ⟨p2, 5, none⟩ (.int .i64 (R.left - 1))) p2 54 [.int .i64 R.quota, .slice a1 xs.length c1, .slice a2 R.nm.length c2, .slice a3 R.la.length c3, .slice a4 R.ch.length c4, .int .i64 (R.left - 1), .bool R.down] ∧ LB (W5.setCell ⟨p2, 5, none⟩ (.int .i64 (R.left - 1))) p4 54 [.int .i64 0, .slice none 0 0, .slice none 0 0, .slice none 0 0, .slice none 0 0, .int .i64 0, .bool false]) := ⟨HL2.out.set 5 _, HL4.out.other _ _ HNE.out⟩
          clear HRD2 HRD3 hl hg
          have HA : Hid (Calls Try.prog 77 #[.agg #[.slice a1 xs.length c1, .slice a2 R.nm.length c2, .slice a3 R.la.length c3, .slice a4 R.ch.length c4], .agg #[.int .i64 o.k, .string o.a, .string o.b, .int .i64 o.n, .slice da o.data.length dc]] (W5.setCell ⟨p2, 5, none⟩ (.int .i64 (R.left - 1))) fun e w' => ∃ ys b1 e1 g1 b2 e2 g2 b3 e3 g3 b4 e4 g4, e = .returned (.agg #[.slice b1 e1 g1, .slice b2 e2 g2, .slice b3 e3 g3, .slice b4 e4 g4]) ∧ RA.th = ys.map (·.2) ∧ SM ok2 w' ys RA.nm RA.la RA.ch (.slice b1 e1 g1) (.slice b2 e2 g2) (.slice b3 e3 g3) (.slice b4 e4 g4) ∧ LB w' p2 54 [.int .i64 R.quota, .slice a1 xs.length c1, .slice a2 R.nm.length c2, .slice a3 R.la.length c3, .slice a4 R.ch.length c4, .int .i64 (R.left - 1), .bool R.down] ∧ LB w' p4 54 [.int .i64 0, .slice none 0 0, .slice none 0 0, .slice none 0 0, .slice none 0 0, .int .i64 0, .bool false] ∧ Below w.heap.size w w') := (HAC.out ok2 (W5.setCell ⟨p2, 5, none⟩ (.int .i64 (R.left - 1))) HSX.out HBX.out.1 hE).mono fun e w' ⟨v', h1, h2, h3⟩ => by
            obtain ⟨ys, tv2, nv2, lv2, cv2, rfl, h4, h5⟩ := h2
            obtain ⟨b1, g1, rfl⟩ := rw_slice h5.rt
            obtain ⟨b2, g2, rfl⟩ := rw_slice h5.rn
            obtain ⟨b3, g3, rfl⟩ := rw_slice h5.rl
            obtain ⟨b4, g4, rfl⟩ := rw_slice h5.rc
            exact ⟨ys, b1, _, g1, b2, _, g2, b3, _, g3, b4, _, g4, h1, h4, h5.mono (fun q hq => hq.elim id fun e => HNW.out q (Nat.le_trans HBX.out.2 e)), HLX.out.1.kept h3, HLX.out.2.kept h3, andThen HBX.out.1 h3⟩
          clear HAC
          go_wp2_with fail
          refine HA.out.mono ?_
          rintro e W9 ⟨ys, b1, e1, g1, b2, e2, g2, b3, e3, g3, b4, e4, g4, rfl, hys, s9, k2, k4, b9⟩
          have H9 : Hid (RA.th = ys.map (·.2) ∧ SM ok2 W9 ys RA.nm RA.la RA.ch (.slice b1 e1 g1) (.slice b2 e2 g2) (.slice b3 e3 g3) (.slice b4 e4 g4) ∧ LB W9 p4 54 [.int .i64 0, .slice none 0 0, .slice none 0 0, .slice none 0 0, .slice none 0 0, .int .i64 0, .bool false] ∧ Below w.heap.size w W9) := ⟨hys, s9, k4, b9⟩
          clear d0 d1 d2 d3 d4 d5 d6 f1 f2 f3 f4 f5 f6 z0 z1 z2 z3 z4 z5 z6 q0 q1 q2 q3 q4 HA HL2 HL4
          have z0 := k4.cell 0 _ rfl
          have z1 := k4.cell 1 _ rfl
          have z2 := k4.cell 2 _ rfl
          have z3 := k4.cell 3 _ rfl
          have z4 := k4.cell 4 _ rfl
          have z5 := k4.cell 5 _ rfl
          have z6 := k4.cell 6 _ rfl
          have y0 := k4.free 0
          have y1 := k4.free 1
          have y2 := k4.free 2
          have y3 := k4.free 3
          have y4 := k4.free 4
          have y5 := k4.free 5
          have y6 := k4.free 6
          have d0 := k2.cell 0 _ rfl
          have d1 := k2.cell 1 _ rfl
          have d2 := k2.cell 2 _ rfl
          have d3 := k2.cell 3 _ rfl
          have d4 := k2.cell 4 _ rfl
          have d5 := k2.cell 5 _ rfl
          have d6 := k2.cell 6 _ rfl
          have f1 := k2.free 1
          have f2 := k2.free 2
          have f3 := k2.free 3
          have f4 := k2.free 4
          rw [hdn2.out] at d6
          clear s9 k2 k4 b9 hys
          go_wp2_with fail
          have LZ := (((((((((((H9.out.2.2.1.other ⟨p2, 1, none⟩ (.slice b1 e1 g1) HNE.out).other ⟨p2, 2, none⟩ (.slice b2 e2 g2) HNE.out).other ⟨p2, 3, none⟩ (.slice b3 e3 g3) HNE.out).other ⟨p2, 4, none⟩ (.slice b4 e4 g4) HNE.out).set 0 (.int .i64 R.quota)).set 1 (.slice b1 e1 g1)).set 2 (.slice b2 e2 g2)).set 3 (.slice b3 e3 g3)).set 4 (.slice b4 e4 g4)).set 5 (.int .i64 (R.left - 1))).set 6 (.bool false))
          refine bodyPost_ret (results_cell_slot rfl _ _ p4 [.int .i64 R.quota, .slice b1 e1 g1, .slice b2 e2 g2, .slice b3 e3 g3, .slice b4 e4 g4, .int .i64 (R.left - 1), .bool false] _ rfl LZ.range Try.underlying54 rfl (by kernel_rfl)) rfl ?_
          have far : ∀ q, q ≠ p2 → q ≠ p4 → q ≠ p4 → (((((((((((W9.setCell ⟨p2, 1, none⟩ (.slice b1 e1 g1)).setCell ⟨p2, 2, none⟩ (.slice b2 e2 g2)).setCell ⟨p2, 3, none⟩ (.slice b3 e3 g3)).setCell ⟨p2, 4, none⟩ (.slice b4 e4 g4)).setCell ⟨p4, 0, none⟩ (.int .i64 R.quota)).setCell ⟨p4, 1, none⟩ (.slice b1 e1 g1)).setCell ⟨p4, 2, none⟩ (.slice b2 e2 g2)).setCell ⟨p4, 3, none⟩ (.slice b3 e3 g3)).setCell ⟨p4, 4, none⟩ (.slice b4 e4 g4)).setCell ⟨p4, 5, none⟩ (.int .i64 (R.left - 1))).setCell ⟨p4, 6, none⟩ (.bool false)).heap[q]? = W9.heap[q]? := fun q h2 h4 _ => by
            rw [set_other _ _ _ _ h4, set_other _ _ _ _ h4, set_other _ _ _ _ h4, set_other _ _ _ _ h4, set_other _ _ _ _ h4, set_other _ _ _ _ h4, set_other _ _ _ _ h4, set_other _ _ _ _ h2, set_other _ _ _ _ h2, set_other _ _ _ _ h2, set_other _ _ _ _ h2]
          have bl := (((((((((((H9.out.2.2.2.setCell (p := ⟨p2, 1, none⟩) HPB.out.1 (.slice b1 e1 g1)).setCell (p := ⟨p2, 2, none⟩) HPB.out.1 (.slice b2 e2 g2)).setCell (p := ⟨p2, 3, none⟩) HPB.out.1 (.slice b3 e3 g3)).setCell (p := ⟨p2, 4, none⟩) HPB.out.1 (.slice b4 e4 g4)).setCell (p := ⟨p4, 0, none⟩) HPB.out.2 (.int .i64 R.quota)).setCell (p := ⟨p4, 1, none⟩) HPB.out.2 (.slice b1 e1 g1)).setCell (p := ⟨p4, 2, none⟩) HPB.out.2 (.slice b2 e2 g2)).setCell (p := ⟨p4, 3, none⟩) HPB.out.2 (.slice b3 e3 g3)).setCell (p := ⟨p4, 4, none⟩) HPB.out.2 (.slice b4 e4 g4)).setCell (p := ⟨p4, 5, none⟩) HPB.out.2 (.int .i64 (R.left - 1))).setCell (p := ⟨p4, 6, none⟩) HPB.out.2 (.bool false))
          rw [HE1.out]
          exact ⟨_, _, rfl, HEQ.out, dk_fin H9.out.2.1 far HOK2.out HMO.out ⟨H9.out.1, rfl, rfl, rfl, HRA.out.1, rfl, HRA.out.2.trans hdn2.out⟩, bl⟩
        · have xg : (0 < R.left) = False := eq_false hg
          have HE1 : Hid (RD.1 = { RA with left := R.left }) := by rw [HRD3.out, if_neg hl, if_neg hg]; rfl
          have HSX : Hid (SM ok2 W5 xs R.nm R.la R.ch (.slice a1 xs.length c1) (.slice a2 R.nm.length c2) (.slice a3 R.la.length c3) (.slice a4 R.ch.length c4)) := ((HV0.out.lo.mono fun q hq => HLOW.out q hq).kept (andThen HB3.out.2.2.2 HB5.out))
          have HBX : Hid (Below w.heap.size w W5 ∧ W3.heap.size ≤ W5.heap.size) := ⟨andThen HB3.out.2.2.2 HB5.out, HB5.out.size⟩
          have HLX : Hid (LB W5 p2 54 [.int .i64 R.quota, .slice a1 xs.length c1, .slice a2 R.nm.length c2, .slice a3 R.la.length c3, .slice a4 R.ch.length c4, .int .i64 R.left, .bool R.down] ∧ LB W5 p4 54 [.int .i64 0, .slice none 0 0, .slice none 0 0, .slice none 0 0, .slice none 0 0, .int .i64 0, .bool false]) := ⟨HL2.out, HL4.out⟩
          clear HRD2 HRD3 hl hg
          have HA : Hid (Calls Try.prog 77 #[.agg #[.slice a1 xs.length c1, .slice a2 R.nm.length c2, .slice a3 R.la.length c3, .slice a4 R.ch.length c4], .agg #[.int .i64 o.k, .string o.a, .string o.b, .int .i64 o.n, .slice da o.data.length dc]] W5 fun e w' => ∃ ys b1 e1 g1 b2 e2 g2 b3 e3 g3 b4 e4 g4, e = .returned (.agg #[.slice b1 e1 g1, .slice b2 e2 g2, .slice b3 e3 g3, .slice b4 e4 g4]) ∧ RA.th = ys.map (·.2) ∧ SM ok2 w' ys RA.nm RA.la RA.ch (.slice b1 e1 g1) (.slice b2 e2 g2) (.slice b3 e3 g3) (.slice b4 e4 g4) ∧ LB w' p2 54 [.int .i64 R.quota, .slice a1 xs.length c1, .slice a2 R.nm.length c2, .slice a3 R.la.length c3, .slice a4 R.ch.length c4, .int .i64 R.left, .bool R.down] ∧ LB w' p4 54 [.int .i64 0, .slice none 0 0, .slice none 0 0, .slice none 0 0, .slice none 0 0, .int .i64 0, .bool false] ∧ Below w.heap.size w w') := (HAC.out ok2 W5 HSX.out HBX.out.1 hE).mono fun e w' ⟨v', h1, h2, h3⟩ => by
            obtain ⟨ys, tv2, nv2, lv2, cv2, rfl, h4, h5⟩ := h2
            obtain ⟨b1, g1, rfl⟩ := rw_slice h5.rt
            obtain ⟨b2, g2, rfl⟩ := rw_slice h5.rn
            obtain ⟨b3, g3, rfl⟩ := rw_slice h5.rl
            obtain ⟨b4, g4, rfl⟩ := rw_slice h5.rc
            exact ⟨ys, b1, _, g1, b2, _, g2, b3, _, g3, b4, _, g4, h1, h4, h5.mono (fun q hq => hq.elim id fun e => HNW.out q (Nat.le_trans HBX.out.2 e)), HLX.out.1.kept h3, HLX.out.2.kept h3, andThen HBX.out.1 h3⟩
          clear HAC
          go_wp2_with fail
          refine HA.out.mono ?_
          rintro e W9 ⟨ys, b1, e1, g1, b2, e2, g2, b3, e3, g3, b4, e4, g4, rfl, hys, s9, k2, k4, b9⟩
          have H9 : Hid (RA.th = ys.map (·.2) ∧ SM ok2 W9 ys RA.nm RA.la RA.ch (.slice b1 e1 g1) (.slice b2 e2 g2) (.slice b3 e3 g3) (.slice b4 e4 g4) ∧ LB W9 p4 54 [.int .i64 0, .slice none 0 0, .slice none 0 0, .slice none 0 0, .slice none 0 0, .int .i64 0, .bool false] ∧ Below w.heap.size w W9) := ⟨hys, s9, k4, b9⟩
          clear d0 d1 d2 d3 d4 d5 d6 f1 f2 f3 f4 f5 f6 z0 z1 z2 z3 z4 z5 z6 q0 q1 q2 q3 q4 HA HL2 HL4
          have z0 := k4.cell 0 _ rfl
          have z1 := k4.cell 1 _ rfl
          have z2 := k4.cell 2 _ rfl
          have z3 := k4.cell 3 _ rfl
          have z4 := k4.cell 4 _ rfl
          have z5 := k4.cell 5 _ rfl
          have z6 := k4.cell 6 _ rfl
          have y0 := k4.free 0
          have y1 := k4.free 1
          have y2 := k4.free 2
          have y3 := k4.free 3
          have y4 := k4.free 4
          have y5 := k4.free 5
          have y6 := k4.free 6
          have d0 := k2.cell 0 _ rfl
          have d1 := k2.cell 1 _ rfl
          have d2 := k2.cell 2 _ rfl
          have d3 := k2.cell 3 _ rfl
          have d4 := k2.cell 4 _ rfl
          have d5 := k2.cell 5 _ rfl
          have d6 := k2.cell 6 _ rfl
          have f1 := k2.free 1
          have f2 := k2.free 2
          have f3 := k2.free 3
          have f4 := k2.free 4
          rw [hdn2.out] at d6
          clear s9 k2 k4 b9 hys
          go_wp2_with fail
          have LZ := (((((((((((H9.out.2.2.1.other ⟨p2, 1, none⟩ (.slice b1 e1 g1) HNE.out).other ⟨p2, 2, none⟩ (.slice b2 e2 g2) HNE.out).other ⟨p2, 3, none⟩ (.slice b3 e3 g3) HNE.out).other ⟨p2, 4, none⟩ (.slice b4 e4 g4) HNE.out).set 0 (.int .i64 R.quota)).set 1 (.slice b1 e1 g1)).set 2 (.slice b2 e2 g2)).set 3 (.slice b3 e3 g3)).set 4 (.slice b4 e4 g4)).set 5 (.int .i64 R.left)).set 6 (.bool false))
          refine bodyPost_ret (results_cell_slot rfl _ _ p4 [.int .i64 R.quota, .slice b1 e1 g1, .slice b2 e2 g2, .slice b3 e3 g3, .slice b4 e4 g4, .int .i64 R.left, .bool false] _ rfl LZ.range Try.underlying54 rfl (by kernel_rfl)) rfl ?_
          have far : ∀ q, q ≠ p2 → q ≠ p4 → q ≠ p4 → (((((((((((W9.setCell ⟨p2, 1, none⟩ (.slice b1 e1 g1)).setCell ⟨p2, 2, none⟩ (.slice b2 e2 g2)).setCell ⟨p2, 3, none⟩ (.slice b3 e3 g3)).setCell ⟨p2, 4, none⟩ (.slice b4 e4 g4)).setCell ⟨p4, 0, none⟩ (.int .i64 R.quota)).setCell ⟨p4, 1, none⟩ (.slice b1 e1 g1)).setCell ⟨p4, 2, none⟩ (.slice b2 e2 g2)).setCell ⟨p4, 3, none⟩ (.slice b3 e3 g3)).setCell ⟨p4, 4, none⟩ (.slice b4 e4 g4)).setCell ⟨p4, 5, none⟩ (.int .i64 R.left)).setCell ⟨p4, 6, none⟩ (.bool false)).heap[q]? = W9.heap[q]? := fun q h2 h4 _ => by
            rw [set_other _ _ _ _ h4, set_other _ _ _ _ h4, set_other _ _ _ _ h4, set_other _ _ _ _ h4, set_other _ _ _ _ h4, set_other _ _ _ _ h4, set_other _ _ _ _ h4, set_other _ _ _ _ h2, set_other _ _ _ _ h2, set_other _ _ _ _ h2, set_other _ _ _ _ h2]
          have bl := (((((((((((H9.out.2.2.2.setCell (p := ⟨p2, 1, none⟩) HPB.out.1 (.slice b1 e1 g1)).setCell (p := ⟨p2, 2, none⟩) HPB.out.1 (.slice b2 e2 g2)).setCell (p := ⟨p2, 3, none⟩) HPB.out.1 (.slice b3 e3 g3)).setCell (p := ⟨p2, 4, none⟩) HPB.out.1 (.slice b4 e4 g4)).setCell (p := ⟨p4, 0, none⟩) HPB.out.2 (.int .i64 R.quota)).setCell (p := ⟨p4, 1, none⟩) HPB.out.2 (.slice b1 e1 g1)).setCell (p := ⟨p4, 2, none⟩) HPB.out.2 (.slice b2 e2 g2)).setCell (p := ⟨p4, 3, none⟩) HPB.out.2 (.slice b3 e3 g3)).setCell (p := ⟨p4, 4, none⟩) HPB.out.2 (.slice b4 e4 g4)).setCell (p := ⟨p4, 5, none⟩) HPB.out.2 (.int .i64 R.left)).setCell (p := ⟨p4, 6, none⟩) HPB.out.2 (.bool false))
          rw [HE1.out]
          exact ⟨_, _, rfl, HEQ.out, dk_fin H9.out.2.1 far HOK2.out HMO.out ⟨H9.out.1, rfl, rfl, rfl, HRA.out.1, rfl, HRA.out.2.trans hdn2.out⟩, bl⟩
    · have xE : (E0 != 0) = true := by
        rw [bne_iff_ne]
        exact hE
      have HEQ : Hid (RD.2 = E0) := by rw [HRD2.out, if_pos hE]; rfl
      have HE1 : Hid (RD.1 = R) := by rw [HRD2.out, if_pos hE]; rfl
      clear HRD2 hE HAC
      go_wp2_with fail
      have LZ := (((((((HL4.out.set 0 (.int .i64 R.quota)).set 1 (.slice a1 xs.length c1)).set 2 (.slice a2 R.nm.length c2)).set 3 (.slice a3 R.la.length c3)).set 4 (.slice a4 R.ch.length c4)).set 5 (.int .i64 R.left)).set 6 (.bool false))
      refine bodyPost_ret (results_cell_slot rfl _ _ p4 [.int .i64 R.quota, .slice a1 xs.length c1, .slice a2 R.nm.length c2, .slice a3 R.la.length c3, .slice a4 R.ch.length c4, .int .i64 R.left, .bool false] _ rfl LZ.range Try.underlying54 rfl (by kernel_rfl)) rfl ?_
      have far : ∀ q, q ≠ p2 → q ≠ p4 → q ≠ p4 → (((((((W5.setCell ⟨p4, 0, none⟩ (.int .i64 R.quota)).setCell ⟨p4, 1, none⟩ (.slice a1 xs.length c1)).setCell ⟨p4, 2, none⟩ (.slice a2 R.nm.length c2)).setCell ⟨p4, 3, none⟩ (.slice a3 R.la.length c3)).setCell ⟨p4, 4, none⟩ (.slice a4 R.ch.length c4)).setCell ⟨p4, 5, none⟩ (.int .i64 R.left)).setCell ⟨p4, 6, none⟩ (.bool false)).heap[q]? = W5.heap[q]? := fun q h2 h4 _ => by
        rw [set_other _ _ _ _ h4, set_other _ _ _ _ h4, set_other _ _ _ _ h4, set_other _ _ _ _ h4, set_other _ _ _ _ h4, set_other _ _ _ _ h4, set_other _ _ _ _ h4]
      have bl := ((((((((andThen HB3.out.2.2.2 HB5.out).setCell (p := ⟨p4, 0, none⟩) HPB.out.2 (.int .i64 R.quota)).setCell (p := ⟨p4, 1, none⟩) HPB.out.2 (.slice a1 xs.length c1)).setCell (p := ⟨p4, 2, none⟩) HPB.out.2 (.slice a2 R.nm.length c2)).setCell (p := ⟨p4, 3, none⟩) HPB.out.2 (.slice a3 R.la.length c3)).setCell (p := ⟨p4, 4, none⟩) HPB.out.2 (.slice a4 R.ch.length c4)).setCell (p := ⟨p4, 5, none⟩) HPB.out.2 (.int .i64 R.left)).setCell (p := ⟨p4, 6, none⟩) HPB.out.2 (.bool false))
      rw [HE1.out]
      exact ⟨_, _, rfl, HEQ.out, dk_fin ((HV0.out.lo.mono fun q hq => HLOW.out q hq).kept (andThen HB3.out.2.2.2 HB5.out)) far HOK2.out HMO.out ⟨HXS.out, rfl, rfl, rfl, rfl, rfl, hdn2.out⟩, bl⟩
end Go.Proofs.Ytjepeeopjjnglab
