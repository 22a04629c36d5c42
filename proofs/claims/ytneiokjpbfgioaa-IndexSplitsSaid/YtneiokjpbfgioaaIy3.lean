/-
  IndexSplits: the walk.
-/
import Derived.Test.YtneiokjpbfgioaaIy2
import Derived.Sort.MapsRangeIn
namespace Go.Proofs.Ytneiokjpbfgioaa
open Go Go.RowKit Go.ChangeShapes
open Wb
attribute [local go_sem] Oper.semAt_some

section
variable {ops : Array Oper} {o : Oper} {a : Act} {W : World} {K : Act → World → Prop} {Q : Exit → Act → World → Prop} {E : Prop}
theorem st_ixall (hgd : o.guard = none) (p : Nat) (ho : o.op = .call { callee := .value (.func 11), args := #[.tmp p], argTypes := #[24] }) {u1 : Value} (hp : a.tmps[p]?.getD undef = u1) {f : Value} {R : World → Prop} (hC : Calls Try.prog 11 #[u1] W fun e W' => e = .returned f ∧ R W') (h : ∀ W', R W' → K (a.put o.dst f) W') : if Region.wanted o (yielded ops a.tmps) = true then Oper.wp Try.prog o a W K Q else E := by
  rw [if_pos (by simp [Region.wanted, hgd])]
  obtain ⟨dst, op', ty, pos, after, guard⟩ := o
  simp only at ho hgd
  subst ho hgd
  have HC : Hid (Calls Try.prog 11 #[u1] W fun e W' => e = .returned f ∧ R W') := hC
  clear hC
  go_simp
  refine HC.out.mono ?_
  rintro e W' ⟨rfl, r⟩
  exact h W' r
theorem st_ixrange (hgd : o.guard = none) (p q : Nat) (z : Int) (ho : o.op = .call { callee := .value (.func 12), args := #[.tmp p, .const (.int .i64 z), .tmp q], argTypes := #[24, 3, 3] }) {u1 u2 : Value} (hp : a.tmps[p]?.getD undef = u1) (hq : a.tmps[q]?.getD undef = u2) {f : Value} {R : World → Prop} (hC : Calls Try.prog 12 #[u1, .int .i64 z, u2] W fun e W' => e = .returned f ∧ R W') (h : ∀ W', R W' → K (a.put o.dst f) W') : if Region.wanted o (yielded ops a.tmps) = true then Oper.wp Try.prog o a W K Q else E := by
  rw [if_pos (by simp [Region.wanted, hgd])]
  obtain ⟨dst, op', ty, pos, after, guard⟩ := o
  simp only at ho hgd
  subst ho hgd
  have HC : Hid (Calls Try.prog 12 #[u1, .int .i64 z, u2] W fun e W' => e = .returned f ∧ R W') := hC
  clear hC
  go_simp
  refine HC.out.mono ?_
  rintro e W' ⟨rfl, r⟩
  exact h W' r
end
/-- the iterator's boxes -/
def ItB (W : World) (g m : Nat) (lo hi : Int) : Prop := LB W m 24 [.pointer (some ⟨g, 0, none⟩)] ∧ LB W (m + 1) 3 [.int .i64 lo] ∧ LB W (m + 2) 3 [.int .i64 hi]
theorem ItB.kept {W W' : World} {g m : Nat} {lo hi : Int} (h : ItB W g m lo hi) (hb : Below W.heap.size W W') : ItB W' g m lo hi := ⟨h.1.kept hb, h.2.1.kept hb, h.2.2.kept hb⟩
def itv (m : Nat) : Value := .func (.func 26) #[] #[.pointer (some ⟨m, 0, none⟩), .pointer (some ⟨m + 1, 0, none⟩), .pointer (some ⟨m + 2, 0, none⟩)]
/-- what stands ahead of the ranges -/
structure Sp0 (w : World) (g b base n : Nat) (kvs : Ix.Gm) (at1 : Int) (W : World) : Prop where
  mi : MI W g b base n kvs
  bel : Below w.heap.size w W
  bat : LB W w.heap.size 3 [.int .i64 at1]
  res : LB W (w.heap.size + 1) 4 [.bool false]
theorem Sp0.kept {w : World} {g b base n : Nat} {kvs : Ix.Gm} {at1 : Int} {W W' : World} (h : Sp0 w g b base n kvs at1 W) (hb : Below W.heap.size W W') : Sp0 w g b base n kvs at1 W' := ⟨h.mi.kept hb, andThen h.bel hb, h.bat.kept hb, h.res.kept hb⟩
theorem sps_fx {w : World} {g b base n : Nat} {kvs : Ix.Gm} {at1 l3 : Int} {B3 B4 m1 m2 m3 B B' : Nat} {v v' : Value} {xs ys : List (Int × Int)} {W : World} (h : SpS w g b base n kvs at1 l3 B3 B4 m1 m2 m3 B B' v v' xs ys W) {k : Nat} (hk : k = B ∨ k = B') : k < W.heap.size ∧ ¬ Mrow W b k := by
  have key : ∀ {q : Nat} {x : Value}, LB W q 22 [x] → q < W.heap.size ∧ ¬ Mrow W b q := fun {q x} L => ⟨L.lt, fun hm => by
    obtain ⟨cs, z, h9⟩ := h.x.mi.rowTI hm
    unfold LB at L
    rw [L] at h9
    simp at h9⟩
  rcases hk with rfl | rfl
  · exact key h.one.box
  · exact key h.two.box
set_option maxRecDepth 100000 in
set_option maxHeartbeats 8000000 in
theorem indexSplits_walk (v : Value) (at1 : Int) (ps0 : List (Int × Int)) (w : World) (h : Pr w v ps0) (hw0 : ∀ p ∈ ps0, (Lit.int .i64 p.1).wf = true ∧ (Lit.int .i64 p.2).wf = true) (hat : (Lit.int .i64 at1).wf = true) :
    Calls Try.prog 3 #[v, .int .i64 at1] w fun e w' => e = .returned (.bool true) ∧ Below w.heap.size w w' := by
  refine callsIn_wide (n := 5) |>.1 ?_
  have hab := bounds_i64 hat
  have HP0 : Hid (Pr w v ps0) := h
  have HPW : Hid (∀ p ∈ ps0.take 300, (Lit.int .i64 p.1).wf = true ∧ (Lit.int .i64 p.2).wf = true) := fun p hp => hw0 p (List.mem_of_mem_take hp)
  have HPL : Hid ((ps0.take 300).length ≤ 300) := by show _ ≤ _; rw [List.length_take]; omega
  obtain ⟨ps, hps⟩ : ∃ ps, ps = ps0.take 300 := ⟨_, rfl⟩
  rw [← hps] at HPW HPL
  have HW1 : Hid (∀ W, W = (w.alloc (.cells #[.int .i64 at1] 3)).alloc (.cells #[.bool false] 4) → LB W w.heap.size 3 [.int .i64 at1] ∧ LB W (w.heap.size + 1) 4 [.bool false] ∧ Below w.heap.size w W ∧ W.heap.size = w.heap.size + 2) := fun W e => by
    subst e
    have h1 := lb_new w [.int .i64 at1] 3
    have h2 := lb_new (w.alloc (.cells #[.int .i64 at1] 3)) [.bool false] 4
    rw [heap_one] at h2
    exact ⟨h1.kept (up0 _ _), h2, up (up0 _ _) _, by rw [heap_one, heap_one]⟩
  have HCP : Hid (∀ W, Below w.heap.size w W → Calls Try.prog 8 #[v] W fun e w' => (∃ v', e = .returned v' ∧ Pr W v' ps) ∧ W = w') := fun W hW => (ixcutp_any v ps0 W (HP0.out.kept hW)).mono fun e w' ⟨h1, h2⟩ => ⟨by rw [hps]; exact h1, h2.symm⟩
  clear h hw0 hat hps
  refine callsIn_of_wp_marks Try.func3 rfl trivial ?_ rfl
  simp only [Try.ntmps3, List.size_toArray, List.length_cons, List.length_nil, Nat.reduceAdd, Nat.reduceSub, Array.replicate_succ, Array.replicate_zero, List.push_toArray, List.append_toArray, List.nil_append, List.cons_append]
  gi_upto_region 1 with fail
  obtain ⟨W1, hW1⟩ : ∃ W1, W1 = (w.alloc (.cells #[.int .i64 at1] 3)).alloc (.cells #[.bool false] 4) := ⟨_, rfl⟩
  obtain ⟨l1, l2, b1, s1⟩ := HW1.out _ hW1
  rw [← hW1]
  have H1 : Hid (LB W1 w.heap.size 3 [.int .i64 at1] ∧ LB W1 (w.heap.size + 1) 4 [.bool false] ∧ Below w.heap.size w W1 ∧ W1.heap.size = w.heap.size + 2) := ⟨l1, l2, b1, s1⟩
  clear hW1 HW1 l1 l2 b1 s1
  gi_wp2
  refine ⟨trivial, (callsIn_wide.2 (HCP.out W1 H1.out.2.2.1)).mono ?_⟩
  rintro e W1 ⟨⟨v2, rfl, p2⟩, rfl⟩
  have HP1 : Hid (Pr W1 v2 ps) := p2
  clear p2 HCP
  obtain ⟨a2, c2, e2, -⟩ := HP1.out
  subst e2
  gi_wp2
  refine ⟨trivial, (callsIn_wide.2 (ixbuilt_any _ ps W1 HP1.out HPW.out (by have := HPL.out; omega))).mono ?_⟩
  rintro e W2 ⟨g, b, base, rfl, m2, b2, hb2, hbg⟩
  have H2 : Hid (MI W2 g b base ps.length (Ix.gml ps) ∧ Below w.heap.size w W2 ∧ LB W2 w.heap.size 3 [.int .i64 at1] ∧ LB W2 (w.heap.size + 1) 4 [.bool false] ∧ w.heap.size + 2 ≤ b) := ⟨m2, andThen H1.out.2.2.1 b2, H1.out.1.kept b2, H1.out.2.1.kept b2, by have := H1.out.2.2.2; omega⟩
  have HLE : Hid (Calls Try.prog 10 #[.pointer (some ⟨g, 0, none⟩)] W2 fun e w' => e = .returned (.int .i64 (ps.length : Int)) ∧ Below W2.heap.size W2 w') := by
    have h9 := ixlen_any g b base ps.length (Ix.gml ps) W2 m2 (by rw [(Ix.gml_fine ps).tot]; have := HPL.out; omega)
    rw [(Ix.gml_fine ps).tot] at h9
    exact h9
  have hdl : ((ps.length : Int) != (ps.length : Int)) = false := by simp
  clear m2 b2 hb2 hbg H1
  gi_wp2
  refine ⟨trivial, (callsIn_wide.2 HLE.out).mono ?_⟩
  rintro e W3 ⟨rfl, b3⟩
  have h3 : Sp0 w g b base ps.length (Ix.gml ps) at1 W3 := ⟨H2.out.1.kept b3, andThen H2.out.2.1 b3, H2.out.2.2.1.kept b3, H2.out.2.2.2.1.kept b3⟩
  have HBB : Hid (w.heap.size + 2 ≤ b) := H2.out.2.2.2.2
  clear b3 H2 HLE
  gi_upto_region 5 with fail
  have h3d : Sp0 w g b base ps.length (Ix.gml ps) at1 W3.drew := h3.kept (Below.drew (Below.refl _ _))
  refine regionIn_of1 (S := fun W' : World => W'.cell? ⟨w.heap.size, 0, none⟩ = some (.int .i64 at1)) (by kernel_rfl) (by kernel_rfl) (h3d.bat.cell 0 _ rfl) (fun hH => ?_)
  obtain ⟨V0, hV0⟩ : ∃ V0, V0 = W3.drew := ⟨_, rfl⟩
  rw [← hV0] at h3d hH ⊢
  clear hV0 h3
  refine zqk 0 rfl hH ?_
  simp only [Act.put, List.setIfInBounds_toArray, List.set_cons_zero, List.set_cons_succ, List.getElem_toArray, List.getElem_cons_zero]
  refine zqk 2 rfl hH ?_
  simp only [Act.put, List.setIfInBounds_toArray, List.set_cons_zero, List.set_cons_succ, List.getElem_toArray, List.getElem_cons_zero, List.getElem_cons_succ]
  refine zqk 3 rfl hH ?_
  simp only [Act.put, List.setIfInBounds_toArray, List.set_cons_zero, List.set_cons_succ, List.getElem_toArray, List.getElem_cons_zero, List.getElem_cons_succ]
  refine zqr 1 rfl (fun K hK => ?_)
  refine st_ixall rfl 31 rfl rfl (ixall_any g V0) (fun V1 r1 => ?_)
  obtain ⟨k1, k2, k3, bb1⟩ := r1
  have hI1 : ItB V1 g V0.heap.size (-9223372036854775808) 9223372036854775807 := ⟨k1, k2, k3⟩
  have h4 := h3d.kept bb1
  refine hK.out _ _ (h4.bat.cell 0 _ rfl) (fun hH => ?_)
  clear hK K k1 k2 k3
  simp only [Act.put, List.setIfInBounds_toArray, List.set_cons_zero, List.set_cons_succ, List.getElem_toArray, List.getElem_cons_zero, List.getElem_cons_succ]
  refine zqr 4 rfl (fun K hK => ?_)
  refine st_ixrange rfl 33 34 _ rfl rfl rfl (ixrange_any g (-9223372036854775808) at1 V1) (fun V2 r2 => ?_)
  obtain ⟨k1, k2, k3, bb2⟩ := r2
  have hI2 : ItB V2 g V1.heap.size (-9223372036854775808) at1 := ⟨k1, k2, k3⟩
  have h5 := h4.kept bb2
  have hI1b := hI1.kept bb2
  refine hK.out _ _ (h5.bat.cell 0 _ rfl) (fun hH => ?_)
  clear hK K k1 k2 k3 h3d h4 hI1
  simp only [Act.put, List.setIfInBounds_toArray, List.set_cons_zero, List.set_cons_succ, List.getElem_toArray, List.getElem_cons_zero, List.getElem_cons_succ]
  refine zqk 5 rfl hH ?_
  simp only [Act.put, List.setIfInBounds_toArray, List.set_cons_zero, List.set_cons_succ, List.getElem_toArray, List.getElem_cons_zero, List.getElem_cons_succ]
  refine zqk 6 rfl hH ?_
  simp only [Act.put, List.setIfInBounds_toArray, List.set_cons_zero, List.set_cons_succ, List.getElem_toArray, List.getElem_cons_zero, List.getElem_cons_succ]
  refine wpAnyH_done (by kernel_rfl) ?_ _
  obtain ⟨mA, hmA⟩ : ∃ m, m = V0.heap.size := ⟨_, rfl⟩
  obtain ⟨mB, hmB⟩ : ∃ m, m = V1.heap.size := ⟨_, rfl⟩
  rw [← hmA] at hI1b ⊢
  rw [← hmB] at hI2 ⊢
  have H5 : Hid (Sp0 w g b base ps.length (Ix.gml ps) at1 V2 ∧ ItB V2 g mA (-9223372036854775808) 9223372036854775807 ∧ ItB V2 g mB (-9223372036854775808) at1) := ⟨h5, hI1b, hI2⟩
  have y3 := h5.bat.cell 0 _ rfl
  clear h5 hI1b hI2 bb1 bb2 hH hmA hmB
  gi_wp2
  refine ⟨trivial, (callsIn_wide.2 (ixrange_any g at1 9223372036854775807 V2)).mono ?_⟩
  rintro e V3 ⟨rfl, k1, k2, k3, b3⟩
  obtain ⟨mC, hmC⟩ : ∃ m, m = V2.heap.size := ⟨_, rfl⟩
  rw [← hmC] at k1 k2 k3 ⊢
  have H6 : Hid (Sp0 w g b base ps.length (Ix.gml ps) at1 V3 ∧ ItB V3 g mA (-9223372036854775808) 9223372036854775807 ∧ ItB V3 g mB (-9223372036854775808) at1 ∧ ItB V3 g mC at1 9223372036854775807) := ⟨H5.out.1.kept b3, H5.out.2.1.kept b3, H5.out.2.2.kept b3, k1, k2, k3⟩
  have y3 := H6.out.1.bat.cell 0 _ rfl
  clear k1 k2 k3 b3 H5 hmC
  have hnf : ∀ (caps : Array Value) (W : World), Sem.run Try.prog (binOp BinOp.eql 28 (Value.func (Fn.func 26) #[] caps) Value.nilFunc) W = .ok (.bool false) W := fun _ _ => rfl
  have HKL : Hid ((Ix.gml ps).length ≤ 10000000) := by have := (Ix.gml_fine ps).len; have := HPL.out; show _ ≤ _; omega
  have HRL : Hid (∀ lo hi, (prs (within (Ix.gml ps) lo hi)).length ≤ 300) := fun lo hi => by
    have h1 := Ix.within_total (Ix.gml ps) lo hi
    rw [(Ix.gml_fine ps).tot] at h1
    rw [Ix.prs_len]
    have := HPL.out
    omega
  have HFI : Hid (Ix.rising (Ix.gml ps) ∧ ∀ p ∈ Ix.gml ps, -9223372036854775808 ≤ p.1 ∧ p.1 ≤ 9223372036854775807) := ⟨(Ix.gml_fine ps).ris, fun p hp => by
    obtain ⟨q, hq, e⟩ := (Ix.gml_fine ps).key p hp
    rw [← e]
    exact bounds_i64 (HPW.out q hq).1⟩
  obtain ⟨AL, hAL⟩ : ∃ x, x = prs (Ix.gml ps) := ⟨_, rfl⟩
  have HAL : Hid (prs (within (Ix.gml ps) (-9223372036854775808) 9223372036854775807) = AL ∧ AL.length = ps.length ∧ AL.Pairwise (fun p q => p.1 ≤ q.1)) := ⟨by rw [Ix.within_all _ _ _ HFI.out.2, hAL], by rw [hAL, Ix.prs_len, (Ix.gml_fine ps).tot], by rw [hAL]; exact Ix.prs_sorted _ HFI.out.1⟩
  by_cases hlt : at1 < 9223372036854775807
  · have hlt2 : (at1 < 9223372036854775807) = True := by simp; exact hlt
    have hw1 : IntKind.i64.wrap (at1 + 1) = at1 + 1 := IntWalk.i64_in _ (by omega)
    gi_wp2
    refine ⟨trivial, (callsIn_wide.2 (ixrange_any g (at1 + 1) 9223372036854775807 V3)).mono ?_⟩
    rintro e V4 ⟨rfl, k1, k2, k3, b4⟩
    obtain ⟨mD, hmD⟩ : ∃ m, m = V3.heap.size := ⟨_, rfl⟩
    rw [← hmD] at k1 k2 k3 ⊢
    have H7 : Hid (Sp0 w g b base ps.length (Ix.gml ps) at1 V4 ∧ ItB V4 g mA (-9223372036854775808) 9223372036854775807 ∧ ItB V4 g mB (-9223372036854775808) at1 ∧ ItB V4 g mD (at1 + 1) 9223372036854775807) := ⟨H6.out.1.kept b4, H6.out.2.1.kept b4, H6.out.2.2.1.kept b4, k1, k2, k3⟩
    have HCUT : Hid (prs (within (Ix.gml ps) (-9223372036854775808) at1) ++ prs (within (Ix.gml ps) (at1 + 1) 9223372036854775807) = AL) := by
      show _ = _
      rw [← Ix.prs_append, Ix.within_cut _ _ at1 _ HFI.out.1 HFI.out.2, hAL]
    clear k1 k2 k3 b4 H6 hmD y3 hAL
    have HB9 : Hid (∀ W, W = (V4.alloc (.cells #[.slice none 0 0] 22)).alloc (.cells #[.slice none 0 0] 22) → SpS w g b base ps.length (Ix.gml ps) at1 (at1 + 1) w.heap.size (w.heap.size + 1) mA mB mD V4.heap.size (V4.heap.size + 1) (.slice none 0 0) (.slice none 0 0) [] [] W) := fun W e => by
      subst e
      have h1 := lb_new V4 [.slice none 0 0] 22
      have h2 := lb_new (V4.alloc (.cells #[.slice none 0 0] 22)) [.slice none 0 0] 22
      rw [heap_one] at h2
      have hb : Below V4.heap.size V4 ((V4.alloc (.cells #[.slice none 0 0] 22)).alloc (.cells #[.slice none 0 0] 22)) := up (up0 _ _) _
      have h0 := H7.out.1.kept hb
      have hs := H7.out.1.bel.size
      exact ⟨⟨h0.bat, h0.res, H7.out.2.1.kept hb, H7.out.2.2.1.kept hb, H7.out.2.2.2.kept hb, h0.mi, h0.bel⟩, ⟨h1.kept (up0 _ _), World.ownsRow_nil _ _ _ _⟩, ⟨h2, World.ownsRow_nil _ _ _ _⟩, fun k e => (by cases e), by omega, by omega, by omega⟩
    gi_upto_region 12 with fail
    obtain ⟨V5, hV5⟩ : ∃ V5, V5 = (V4.alloc (.cells #[.slice none 0 0] 22)).alloc (.cells #[.slice none 0 0] 22) := ⟨_, rfl⟩
    have HS1 : Hid (SpS w g b base ps.length (Ix.gml ps) at1 (at1 + 1) w.heap.size (w.heap.size + 1) mA mB mD V4.heap.size (V4.heap.size + 1) (.slice none 0 0) (.slice none 0 0) [] [] V5) := HB9.out _ hV5
    rw [← hV5]
    generalize V4.heap.size + 1 = B10 at HS1 ⊢
    generalize V4.heap.size = B9 at HS1 ⊢
    clear hV5 HB9 H7
    have HD1 : Hid (∀ D ∈ ([] : List Nat), D < V5.heap.size) := fun D hD => by cases hD
    have HE1 : Hid (∀ D ∈ ([] : List Nat), V5.heap[D]? = some (.deferred (some []))) := fun D hD => by cases hD
    have HZ1 : Hid (([] : List (Int × Int)).length ≤ 300) := Nat.zero_le _
    gi_wp2
    refine wpIn_rangeFunc_ownF rfl (by omega) (gf := 26) (lb := #[.pointer (some ⟨mA, 0, none⟩), .pointer (some ⟨mA + 1, 0, none⟩), .pointer (some ⟨mA + 2, 0, none⟩)]) rfl trivial (enters_of Try.func26 (by kernel_rfl) rfl) (encs := encsP) (Kp := KpI (fun k => k = B9 ∨ k = B10) 32) (S := fun xs : List PI => xs.map (·.1) = prs (within (Ix.gml ps) (-9223372036854775808) 9223372036854775807)) (Sp := fun pre : List PI => pre.map (fun q : PI => q.1) <+: prs (within (Ix.gml ps) (-9223372036854775808) 9223372036854775807)) (N := (prs (within (Ix.gml ps) (-9223372036854775808) 9223372036854775807)).length) (w0 := V5) ?sq1mD KpI.trans (fun W l o o' _ h1 h2 _ => kpI_b W l o o' h1 h2) (Below.refl _ _) (fun _ => rfl) (IS w g b base ps.length (Ix.gml ps) at1 (at1 + 1) w.heap.size (w.heap.size + 1) mA mB mD B9 B10 (.slice none 0 0) ([] : List (Int × Int)) [] []) (IXS (fun _ => False)) (IS_own HS1.out.x.mi.blt.2 HS1.out.x.bel.size HD1.out) (IXS_own _ _) ?hz1mD ?a1mD ?as1mD ?bo1mD ?do1mD ?st1mD
    case as1mD =>
      intro l x W K hK
      unfold encsP
      gi_wp2
      exact hK
    case sq1mD =>
      intro l J Jx W hW hJ _ hY h0
      have hs := HS1.out.kept hW
      exact ixrange1_in 4 l _ 32 g b base ps.length (Ix.gml ps) (-9223372036854775808) 9223372036854775807 mA (mA + 1) (mA + 2) W hs.x.mi HKL.out (hs.x.i1.1.cell 0 _ rfl) (hs.x.i1.2.1.cell 0 _ rfl) (hs.x.i1.2.2.cell 0 _ rfl) (fun q hq => sps_fx hs hq) (by decide) (by decide) J Jx hJ hY h0
    case hz1mD => exact ⟨⟨_, _, _, by rw [List.map_nil, List.append_nil]; exact HS1.out⟩, HE1.out⟩
    case bo1mD =>
      rintro l pre ⟨⟨k, v⟩, hwk, hwv⟩ WW ⟨⟨ad, m, c, hs⟩, hds⟩ hlen
      have HSS : Hid (SpS w g b base ps.length (Ix.gml ps) at1 (at1 + 1) w.heap.size (w.heap.size + 1) mA mB mD B9 B10 (.slice ad m c) (.slice none 0 0) (([] : List (Int × Int)) ++ pre.map (fun q : PI => q.1)) [] WW) := hs
      have HDS : Hid (∀ D ∈ ([] : List Nat), WW.heap[D]? = some (.deferred (some []))) := hds
      have HLN : Hid ((([] : List (Int × Int)) ++ pre.map (fun q : PI => q.1)).length ≤ 100000000) := by
        have h9 := HRL.out (-9223372036854775808) 9223372036854775807
        have h8 : (([] : List (Int × Int))).length ≤ 300 := HZ1.out
        show _ ≤ _
        rw [List.length_append, List.length_map]
        omega
      have y9 := hs.one.box.cell 0 _ rfl
      have y3 := hs.x.bat.cell 0 _ rfl
      have y4 := hs.x.res.cell 0 _ rfl
      have f4 := hs.x.res.free 0
      clear hs hds hlen
      have HQ9 : Hid ((WW.alloc (.cells #[.int .i64 k, .int .i64 v] 32)).ownsRow w.heap.size 32 2 (.slice ad m c) (([] : List (Int × Int)) ++ pre.map (fun q : PI => q.1)).length ((([] : List (Int × Int)) ++ pre.map (fun q : PI => q.1)).flatMap enP) ∧ (WW.alloc (.cells #[.int .i64 k, .int .i64 v] 32)).rangeAt WW.heap.size 0 (enP (k, v)) ∧ w.heap.size ≤ (WW.alloc (.cells #[.int .i64 k, .int .i64 v] 32)).heap.size) := ⟨HSS.out.one.row.alloc _, (lb_new WW (enP (k, v)) 32).range, by rw [heap_one]; have := HSS.out.x.bel.size; omega⟩
      gi_wp2_with (gi_at_builtin; refine wpListIn_appP _ rfl (.tmp 58) (.tmp 62) rfl w.heap.size (.slice ad m c) (([] : List (Int × Int)) ++ pre.map (fun q : PI => q.1)) rfl HQ9.out.1 WW.heap.size 1 (k, v) rfl HQ9.out.2.1 HLN.out HQ9.out.2.2 ?_)
      intro ad2 mm2 cc2 W2 hr2 hg2 hat2
      obtain ⟨bx2, s2, r2⟩ := HSS.out.app (k, v) _ W2 rfl (u := .slice ad2 mm2 cc2) (by simpa using hr2) hg2 (by rw [heap_one]; exact hat2)
      have z0 := bx2.cell 0 _ rfl
      have f0 := bx2.free 0
      have H2 : Hid (SpS w g b base ps.length (Ix.gml ps) at1 (at1 + 1) w.heap.size (w.heap.size + 1) mA mB mD B9 B10 (.slice ad2 mm2 cc2) (.slice none 0 0) ((([] : List (Int × Int)) ++ pre.map (fun q : PI => q.1)) ++ [(k, v)]) [] (W2.setCell ⟨B9, 0, none⟩ (.slice ad2 mm2 cc2)) ∧ RS w (fun q => q = B9 ∨ q = B10) WW (W2.setCell ⟨B9, 0, none⟩ (.slice ad2 mm2 cc2))) := ⟨s2, r2⟩
      clear hr2 hg2 hat2 bx2 s2 r2 HQ9
      gi_wp2
      exact ⟨H2.out.2.ko, H2.out.2.kp, ⟨ad2, mm2, cc2, by rw [List.map_append, ← List.append_assoc]; exact H2.out.1⟩, fun D hD => H2.out.2.ko.same D _ (HDS.out D hD) rfl⟩
    case st1mD =>
      rintro D c pre W hD hSp ⟨-, x, -, hx⟩ hK
      exact hx.elim
    case do1mD =>
      rintro D1 xs1 W6 hD1 hxs1 ⟨⟨ad1, n1, c1, hs1⟩, -⟩ hK1
      rw [hxs1, List.nil_append, HAL.out.1] at hs1
      have HS2 : Hid (SpS w g b base ps.length (Ix.gml ps) at1 (at1 + 1) w.heap.size (w.heap.size + 1) mA mB mD B10 B9 (.slice none 0 0) (.slice ad1 n1 c1) [] AL W6) := hs1.swap
      have HD2 : Hid (∀ D ∈ ([D1] : List Nat), D < W6.heap.size) := fun D hD => by
        rw [List.mem_singleton.1 hD]
        exact (Array.getElem?_eq_some_iff.1 hK1).1
      have HE2 : Hid (∀ D ∈ ([D1] : List Nat), W6.heap[D]? = some (.deferred (some []))) := fun D hD => by
        rw [List.mem_singleton.1 hD]
        exact hK1
      have HZ2 : Hid (([] : List (Int × Int)).length ≤ 300) := Nat.zero_le _
      clear hs1 hK1 hxs1
      gi_wp2
      refine wpIn_rangeFunc_ownF rfl (by omega) (gf := 26) (lb := #[.pointer (some ⟨mB, 0, none⟩), .pointer (some ⟨mB + 1, 0, none⟩), .pointer (some ⟨mB + 2, 0, none⟩)]) rfl trivial (enters_of Try.func26 (by kernel_rfl) rfl) (encs := encsP) (Kp := KpI (fun k => k = B10 ∨ k = B9) 32) (S := fun xs : List PI => xs.map (·.1) = prs (within (Ix.gml ps) (-9223372036854775808) at1)) (Sp := fun pre : List PI => pre.map (fun q : PI => q.1) <+: prs (within (Ix.gml ps) (-9223372036854775808) at1)) (N := (prs (within (Ix.gml ps) (-9223372036854775808) at1)).length) (w0 := W6) ?sq2mD KpI.trans (fun W l o o' _ h1 h2 _ => kpI_b W l o o' h1 h2) (Below.refl _ _) (fun _ => rfl) (IS w g b base ps.length (Ix.gml ps) at1 (at1 + 1) w.heap.size (w.heap.size + 1) mA mB mD B10 B9 (.slice ad1 n1 c1) ([] : List (Int × Int)) AL [D1]) (IXS (fun q => at1 < q)) (IS_own HS2.out.x.mi.blt.2 HS2.out.x.bel.size HD2.out) (IXS_own _ _) ?hz2mD ?a2mD ?as2mD ?bo2mD ?do2mD ?st2mD
      case as2mD =>
        intro l x W K hK
        unfold encsP
        gi_wp2
        exact hK
      case sq2mD =>
        intro l J Jx W hW hJ _ hY h0
        have hs := HS2.out.kept hW
        exact ixrange1_in 4 l _ 32 g b base ps.length (Ix.gml ps) (-9223372036854775808) at1 mB (mB + 1) (mB + 2) W hs.x.mi HKL.out (hs.x.i2.1.cell 0 _ rfl) (hs.x.i2.2.1.cell 0 _ rfl) (hs.x.i2.2.2.cell 0 _ rfl) (fun q hq => sps_fx hs hq) (by decide) (by decide) J Jx hJ hY h0
      case hz2mD => exact ⟨⟨_, _, _, by rw [List.map_nil, List.append_nil]; exact HS2.out⟩, HE2.out⟩
      case bo2mD =>
        rintro l pre ⟨⟨k, v⟩, hwk, hwv⟩ WW ⟨⟨ad, m, c, hs⟩, hds⟩ hlen
        have HSS : Hid (SpS w g b base ps.length (Ix.gml ps) at1 (at1 + 1) w.heap.size (w.heap.size + 1) mA mB mD B10 B9 (.slice ad m c) (.slice ad1 n1 c1) (([] : List (Int × Int)) ++ pre.map (fun q : PI => q.1)) AL WW) := hs
        have HDS : Hid (∀ D ∈ ([D1] : List Nat), WW.heap[D]? = some (.deferred (some []))) := hds
        have HLN : Hid ((([] : List (Int × Int)) ++ pre.map (fun q : PI => q.1)).length ≤ 100000000) := by
          have h9 := HRL.out (-9223372036854775808) at1
          have h8 : (([] : List (Int × Int))).length ≤ 300 := HZ2.out
          show _ ≤ _
          rw [List.length_append, List.length_map]
          omega
        have y9 := hs.one.box.cell 0 _ rfl
        have y3 := hs.x.bat.cell 0 _ rfl
        have y4 := hs.x.res.cell 0 _ rfl
        have f4 := hs.x.res.free 0
        clear hs hds hlen
        by_cases hbk : at1 < k
        · have hbk2 : (at1 < k) = True := by simp; omega
          have HKO : Hid (KeepsOthers WW (WW.setCell ⟨w.heap.size + 1, 0, none⟩ (.bool false))) := KeepsOthers.setCell _ _ _
          gi_wp2
          exact ⟨HKO.out, rfl, _, List.mem_append_right _ (List.mem_singleton.2 rfl), hbk⟩
        · have hbk2 : (at1 < k) = False := by simp; omega
          clear hbk
          have HQ9 : Hid ((WW.alloc (.cells #[.int .i64 k, .int .i64 v] 32)).ownsRow w.heap.size 32 2 (.slice ad m c) (([] : List (Int × Int)) ++ pre.map (fun q : PI => q.1)).length ((([] : List (Int × Int)) ++ pre.map (fun q : PI => q.1)).flatMap enP) ∧ (WW.alloc (.cells #[.int .i64 k, .int .i64 v] 32)).rangeAt WW.heap.size 0 (enP (k, v)) ∧ w.heap.size ≤ (WW.alloc (.cells #[.int .i64 k, .int .i64 v] 32)).heap.size) := ⟨HSS.out.one.row.alloc _, (lb_new WW (enP (k, v)) 32).range, by rw [heap_one]; have := HSS.out.x.bel.size; omega⟩
          gi_wp2_with (gi_at_builtin; refine wpListIn_appP _ rfl (.tmp 70) (.tmp 74) rfl w.heap.size (.slice ad m c) (([] : List (Int × Int)) ++ pre.map (fun q : PI => q.1)) rfl HQ9.out.1 WW.heap.size 1 (k, v) rfl HQ9.out.2.1 HLN.out HQ9.out.2.2 ?_)
          intro ad2 mm2 cc2 W2 hr2 hg2 hat2
          obtain ⟨bx2, s2, r2⟩ := HSS.out.app (k, v) _ W2 rfl (u := .slice ad2 mm2 cc2) (by simpa using hr2) hg2 (by rw [heap_one]; exact hat2)
          have z0 := bx2.cell 0 _ rfl
          have f0 := bx2.free 0
          have H2 : Hid (SpS w g b base ps.length (Ix.gml ps) at1 (at1 + 1) w.heap.size (w.heap.size + 1) mA mB mD B10 B9 (.slice ad2 mm2 cc2) (.slice ad1 n1 c1) ((([] : List (Int × Int)) ++ pre.map (fun q : PI => q.1)) ++ [(k, v)]) AL (W2.setCell ⟨B10, 0, none⟩ (.slice ad2 mm2 cc2)) ∧ RS w (fun q => q = B10 ∨ q = B9) WW (W2.setCell ⟨B10, 0, none⟩ (.slice ad2 mm2 cc2))) := ⟨s2, r2⟩
          clear hr2 hg2 hat2 bx2 s2 r2 HQ9
          gi_wp2
          exact ⟨H2.out.2.ko, H2.out.2.kp, ⟨ad2, mm2, cc2, by rw [List.map_append, ← List.append_assoc]; exact H2.out.1⟩, fun D hD => H2.out.2.ko.same D _ (HDS.out D hD) rfl⟩
      case st2mD =>
        rintro D c pre W hD hSp ⟨-, x, hx, hbad⟩ hK
        have h9 := hSp.subset (List.mem_map_of_mem (f := fun q : PI => q.1) hx)
        have := Ix.within_mem h9
        omega
      case do2mD =>
        rintro D2 xs2 W7 hD2 hxs2 ⟨⟨ad2, n2, c2', hs2⟩, hds2⟩ hK2
        rw [hxs2, List.nil_append] at hs2
        have y3 := hs2.x.bat.cell 0 _ rfl
        have HS3 : Hid (SpS w g b base ps.length (Ix.gml ps) at1 (at1 + 1) w.heap.size (w.heap.size + 1) mA mB mD B10 B9 (.slice ad2 n2 c2') (.slice ad1 n1 c1) (prs (within (Ix.gml ps) (-9223372036854775808) at1)) AL W7) := hs2
        have HD3 : Hid (∀ D ∈ ([D2, D1] : List Nat), D < W7.heap.size) := fun D hD => by
          simp only [List.mem_cons, List.not_mem_nil, or_false] at hD
          rcases hD with rfl | rfl
          · exact (Array.getElem?_eq_some_iff.1 hK2).1
          · exact (Array.getElem?_eq_some_iff.1 (hds2 _ (by simp))).1
        have HE3 : Hid (∀ D ∈ ([D2, D1] : List Nat), W7.heap[D]? = some (.deferred (some []))) := fun D hD => by
          simp only [List.mem_cons, List.not_mem_nil, or_false] at hD
          rcases hD with rfl | rfl
          · exact hK2
          · exact hds2 _ (by simp)
        have HZ3 : Hid ((prs (within (Ix.gml ps) (-9223372036854775808) at1)).length ≤ 300) := HRL.out _ _
        clear hs2 hds2 hK2 hxs2
        gi_wp2
        refine wpIn_rangeFunc_ownF rfl (by omega) (gf := 26) (lb := #[.pointer (some ⟨mD, 0, none⟩), .pointer (some ⟨mD + 1, 0, none⟩), .pointer (some ⟨mD + 2, 0, none⟩)]) rfl trivial (enters_of Try.func26 (by kernel_rfl) rfl) (encs := encsP) (Kp := KpI (fun k => k = B10 ∨ k = B9) 32) (S := fun xs : List PI => xs.map (·.1) = prs (within (Ix.gml ps) (at1 + 1) 9223372036854775807)) (Sp := fun pre : List PI => pre.map (fun q : PI => q.1) <+: prs (within (Ix.gml ps) (at1 + 1) 9223372036854775807)) (N := (prs (within (Ix.gml ps) (at1 + 1) 9223372036854775807)).length) (w0 := W7) ?sq3mD KpI.trans (fun W l o o' _ h1 h2 _ => kpI_b W l o o' h1 h2) (Below.refl _ _) (fun _ => rfl) (IS w g b base ps.length (Ix.gml ps) at1 (at1 + 1) w.heap.size (w.heap.size + 1) mA mB mD B10 B9 (.slice ad1 n1 c1) (prs (within (Ix.gml ps) (-9223372036854775808) at1)) AL [D2, D1]) (IXS (fun q => q ≤ at1)) (IS_own HS3.out.x.mi.blt.2 HS3.out.x.bel.size HD3.out) (IXS_own _ _) ?hz3mD ?a3mD ?as3mD ?bo3mD ?do3mD ?st3mD
        case as3mD =>
          intro l x W K hK
          unfold encsP
          gi_wp2
          exact hK
        case sq3mD =>
          intro l J Jx W hW hJ _ hY h0
          have hs := HS3.out.kept hW
          exact ixrange1_in 4 l _ 32 g b base ps.length (Ix.gml ps) (at1 + 1) 9223372036854775807 mD (mD + 1) (mD + 2) W hs.x.mi HKL.out (hs.x.i3.1.cell 0 _ rfl) (hs.x.i3.2.1.cell 0 _ rfl) (hs.x.i3.2.2.cell 0 _ rfl) (fun q hq => sps_fx hs hq) (by decide) (by decide) J Jx hJ hY h0
        case hz3mD => exact ⟨⟨_, _, _, by rw [List.map_nil, List.append_nil]; exact HS3.out⟩, HE3.out⟩
        case bo3mD =>
          rintro l pre ⟨⟨k, v⟩, hwk, hwv⟩ WW ⟨⟨ad, m, c, hs⟩, hds⟩ hlen
          have HSS : Hid (SpS w g b base ps.length (Ix.gml ps) at1 (at1 + 1) w.heap.size (w.heap.size + 1) mA mB mD B10 B9 (.slice ad m c) (.slice ad1 n1 c1) ((prs (within (Ix.gml ps) (-9223372036854775808) at1)) ++ pre.map (fun q : PI => q.1)) AL WW) := hs
          have HDS : Hid (∀ D ∈ ([D2, D1] : List Nat), WW.heap[D]? = some (.deferred (some []))) := hds
          have HLN : Hid (((prs (within (Ix.gml ps) (-9223372036854775808) at1)) ++ pre.map (fun q : PI => q.1)).length ≤ 100000000) := by
            have h9 := HRL.out (at1 + 1) 9223372036854775807
            have h8 : ((prs (within (Ix.gml ps) (-9223372036854775808) at1))).length ≤ 300 := HZ3.out
            show _ ≤ _
            rw [List.length_append, List.length_map]
            omega
          have y9 := hs.one.box.cell 0 _ rfl
          have y3 := hs.x.bat.cell 0 _ rfl
          have y4 := hs.x.res.cell 0 _ rfl
          have f4 := hs.x.res.free 0
          clear hs hds hlen
          by_cases hbk : k ≤ at1
          · have hbk2 : (k ≤ at1) = True := by simp; omega
            have HKO : Hid (KeepsOthers WW (WW.setCell ⟨w.heap.size + 1, 0, none⟩ (.bool false))) := KeepsOthers.setCell _ _ _
            gi_wp2
            exact ⟨HKO.out, rfl, _, List.mem_append_right _ (List.mem_singleton.2 rfl), hbk⟩
          · have hbk2 : (k ≤ at1) = False := by simp; omega
            clear hbk
            have HQ9 : Hid ((WW.alloc (.cells #[.int .i64 k, .int .i64 v] 32)).ownsRow w.heap.size 32 2 (.slice ad m c) ((prs (within (Ix.gml ps) (-9223372036854775808) at1)) ++ pre.map (fun q : PI => q.1)).length (((prs (within (Ix.gml ps) (-9223372036854775808) at1)) ++ pre.map (fun q : PI => q.1)).flatMap enP) ∧ (WW.alloc (.cells #[.int .i64 k, .int .i64 v] 32)).rangeAt WW.heap.size 0 (enP (k, v)) ∧ w.heap.size ≤ (WW.alloc (.cells #[.int .i64 k, .int .i64 v] 32)).heap.size) := ⟨HSS.out.one.row.alloc _, (lb_new WW (enP (k, v)) 32).range, by rw [heap_one]; have := HSS.out.x.bel.size; omega⟩
            gi_wp2_with (gi_at_builtin; refine wpListIn_appP _ rfl (.tmp 84) (.tmp 88) rfl w.heap.size (.slice ad m c) ((prs (within (Ix.gml ps) (-9223372036854775808) at1)) ++ pre.map (fun q : PI => q.1)) rfl HQ9.out.1 WW.heap.size 1 (k, v) rfl HQ9.out.2.1 HLN.out HQ9.out.2.2 ?_)
            intro ad2 mm2 cc2 W2 hr2 hg2 hat2
            obtain ⟨bx2, s2, r2⟩ := HSS.out.app (k, v) _ W2 rfl (u := .slice ad2 mm2 cc2) (by simpa using hr2) hg2 (by rw [heap_one]; exact hat2)
            have z0 := bx2.cell 0 _ rfl
            have f0 := bx2.free 0
            have H2 : Hid (SpS w g b base ps.length (Ix.gml ps) at1 (at1 + 1) w.heap.size (w.heap.size + 1) mA mB mD B10 B9 (.slice ad2 mm2 cc2) (.slice ad1 n1 c1) (((prs (within (Ix.gml ps) (-9223372036854775808) at1)) ++ pre.map (fun q : PI => q.1)) ++ [(k, v)]) AL (W2.setCell ⟨B10, 0, none⟩ (.slice ad2 mm2 cc2)) ∧ RS w (fun q => q = B10 ∨ q = B9) WW (W2.setCell ⟨B10, 0, none⟩ (.slice ad2 mm2 cc2))) := ⟨s2, r2⟩
            clear hr2 hg2 hat2 bx2 s2 r2 HQ9
            gi_wp2
            exact ⟨H2.out.2.ko, H2.out.2.kp, ⟨ad2, mm2, cc2, by rw [List.map_append, ← List.append_assoc]; exact H2.out.1⟩, fun D hD => H2.out.2.ko.same D _ (HDS.out D hD) rfl⟩
        case st3mD =>
          rintro D c pre W hD hSp ⟨-, x, hx, hbad⟩ hK
          have h9 := hSp.subset (List.mem_map_of_mem (f := fun q : PI => q.1) hx)
          have := Ix.within_mem h9
          omega
        case do3mD =>
          rintro D3 xs3 W8 hD3 hxs3 ⟨⟨adP, nP, cP, hs3⟩, hds3⟩ hK3
          rw [hxs3, HCUT.out] at hs3
          have HSX : Hid (SpS w g b base ps.length (Ix.gml ps) at1 (at1 + 1) w.heap.size (w.heap.size + 1) mA mB mD B10 B9 (.slice adP nP cP) (.slice ad1 n1 c1) AL AL W8) := hs3
          have HEF : Hid (∀ D ∈ ([D3, D2, D1] : List Nat), W8.heap[D]? = some (.deferred (some []))) := fun D hD => by
            simp only [List.mem_cons, List.not_mem_nil, or_false] at hD
            rcases hD with rfl | rfl | rfl
            · exact hK3
            · exact hds3 _ (by simp)
            · exact hds3 _ (by simp)
          have HNE : Hid (D1 < D2 ∧ D2 < D3) := ⟨by have := HD2.out D1 (by simp); omega, by have := HD3.out D2 (by simp); omega⟩
          have HGE : Hid (∀ D ∈ ([D3, D2, D1] : List Nat), w.heap.size ≤ D) := fun D hD => by
            simp only [List.mem_cons, List.not_mem_nil, or_false] at hD
            have h1 := HS1.out.x.bel.size
            have h2 := HS2.out.x.bel.size
            have h3 := HS3.out.x.bel.size
            rcases hD with rfl | rfl | rfl <;> omega
          clear hs3 hds3 hK3 hxs3 HS3 HS2
          have HSF : Hid (SpS w g b base ps.length (Ix.gml ps) at1 (at1 + 1) w.heap.size (w.heap.size + 1) mA mB mD B10 B9 (.slice adP nP cP) (.slice ad1 n1 c1) AL AL W8 ∧ ∀ D ∈ ([D3, D2, D1] : List Nat), W8.heap[D]? = some (.deferred (some []))) := ⟨HSX.out, HEF.out⟩
          obtain ⟨hn1, hn2, hnc⟩ : n1 = AL.length ∧ nP = AL.length ∧ n1 ≤ c1 ∧ c1 ≤ 9223372036854775807 := by
            obtain ⟨a9, c9, e9, h91, h92, -⟩ := Pr.of HSX.out.two.row
            obtain ⟨a8, c8, e8, -⟩ := Pr.of HSX.out.one.row
            simp only [Value.slice.injEq] at e9 e8
            unfold maxLen at h92
            omega
          subst hn1 hn2
          clear HSX HEF
          have yy9 := HSF.out.1.two.box.cell 0 _ rfl
          gi_wp2
          gi_loopw [17] (fun i wr => ∃ k : Nat, 1 ≤ k ∧ k ≤ AL.length + 1 ∧ i = .int .i64 (k : Int) ∧ SpS w g b base ps.length (Ix.gml ps) at1 (at1 + 1) w.heap.size (w.heap.size + 1) mA mB mD B10 B9 (.slice adP AL.length cP) (.slice ad1 AL.length c1) AL AL wr ∧ ∀ D ∈ ([D3, D2, D1] : List Nat), wr.heap[D]? = some (.deferred (some []))) (fun i _ => AL.length + 1 - (intOf i).toNat)
          case atStart => exact ⟨1, by omega, by omega, rfl, HSF.out.1, HSF.out.2⟩
          case round =>
            clear HSF yy9
            obtain ⟨k, hk1, hk2, rfl, hsp, hds⟩ := hrel
            have HSP : Hid (SpS w g b base ps.length (Ix.gml ps) at1 (at1 + 1) w.heap.size (w.heap.size + 1) mA mB mD B10 B9 (.slice adP AL.length cP) (.slice ad1 AL.length c1) AL AL wr ∧ ∀ D ∈ ([D3, D2, D1] : List Nat), wr.heap[D]? = some (.deferred (some []))) := ⟨hsp, hds⟩
            have yy9 := hsp.two.box.cell 0 _ rfl
            by_cases hlk : k < AL.length
            · obtain ⟨a9, c9, e9, -, -, hc9⟩ := Pr.of hsp.two.row
              obtain ⟨q9, o9, e8, hcell⟩ := hc9 (List.ne_nil_of_length_pos (by omega))
              obtain rfl : c1 = c9 := by simp only [Value.slice.injEq] at e9; exact e9.2.2
              obtain rfl : ad1 = some ⟨q9, o9, none⟩ := by simp only [Value.slice.injEq] at e9; rw [e9.1, e8]
              obtain ⟨xk, hxk⟩ : ∃ x, AL[k].1 = x := ⟨_, rfl⟩
              obtain ⟨zk, hzk⟩ : ∃ x, (AL[k - 1]'(by omega)).1 = x := ⟨_, rfl⟩
              have cx := (hcell k hlk).1
              have cz := (hcell (k - 1) (by omega)).1
              rw [hxk] at cx
              rw [hzk] at cz
              have hxz : zk ≤ xk := by
                have h9 := List.pairwise_iff_getElem.1 HAL.out.2.2 (k - 1) k (by omega) hlk (by omega)
                rw [hxk, hzk] at h9
                exact h9
              have HSD : Hid (SpS w g b base ps.length (Ix.gml ps) at1 (at1 + 1) w.heap.size (w.heap.size + 1) mA mB mD B10 B9 (.slice adP AL.length cP) (.slice (some ⟨q9, o9, none⟩) AL.length c1) AL AL wr.drew ∧ ∀ D ∈ ([D3, D2, D1] : List Nat), wr.drew.heap[D]? = some (.deferred (some []))) := ⟨hsp.kept (Below.drew (Below.refl _ _)), hds⟩
              have cxd : wr.drew.cell? ⟨B9, 0, none⟩ = some (.slice (some ⟨q9, o9, none⟩) AL.length c1) ∧ wr.drew.cell? ⟨q9, o9 + k * 2, none⟩ = some (.int .i64 xk) ∧ wr.drew.cell? ⟨q9, o9 + (k - 1) * 2, none⟩ = some (.int .i64 zk) := ⟨yy9, cx, cz⟩
              have hwk : IntKind.i64.wrap ((k : Int) - 1) = ((k - 1 : Nat) : Int) := by
                rw [IntWalk.i64_in _ (by omega)]
                omega
              have hk9 : k - 1 < AL.length := by omega
              have hd9 : (xk < zk) = False := by simp; omega
              clear hcell hc9 e9 e8 hxk hzk hsp hds cx cz HSP
              gi_upto_region 32 with fail
              refine regionIn_of1 (S := fun W' : World => W'.cell? ⟨B9, 0, none⟩ = some (.slice (some ⟨q9, o9, none⟩) AL.length c1) ∧ W'.cell? ⟨q9, o9 + k * 2, none⟩ = some (.int .i64 xk) ∧ W'.cell? ⟨q9, o9 + (k - 1) * 2, none⟩ = some (.int .i64 zk)) (by kernel_rfl) (by kernel_rfl) cxd (fun hH => ?_)
              refine zqk 0 rfl hH ?_
              simp only [Act.put, List.setIfInBounds_toArray, List.set_cons_zero, List.set_cons_succ, List.getElem_toArray, List.getElem_cons_zero]
              refine zqk 1 rfl hH ?_
              simp only [Act.put, List.setIfInBounds_toArray, List.set_cons_zero, List.set_cons_succ, List.getElem_toArray, List.getElem_cons_zero, List.getElem_cons_succ]
              refine zqk 2 rfl hH ?_
              simp only [Act.put, List.setIfInBounds_toArray, List.set_cons_zero, List.set_cons_succ, List.getElem_toArray, List.getElem_cons_zero, List.getElem_cons_succ]
              refine zqk 3 rfl hH ?_
              simp only [Act.put, List.setIfInBounds_toArray, List.set_cons_zero, List.set_cons_succ, List.getElem_toArray, List.getElem_cons_zero, List.getElem_cons_succ]
              refine zqk 4 rfl hH ?_
              simp only [Act.put, List.setIfInBounds_toArray, List.set_cons_zero, List.set_cons_succ, List.getElem_toArray, List.getElem_cons_zero, List.getElem_cons_succ]
              refine zqk 5 rfl hH ?_
              simp only [Act.put, List.setIfInBounds_toArray, List.set_cons_zero, List.set_cons_succ, List.getElem_toArray, List.getElem_cons_zero, List.getElem_cons_succ]
              refine zqk 6 rfl hH ?_
              simp only [Act.put, List.setIfInBounds_toArray, List.set_cons_zero, List.set_cons_succ, List.getElem_toArray, List.getElem_cons_zero, List.getElem_cons_succ]
              refine zqk 7 rfl hH ?_
              simp only [Act.put, List.setIfInBounds_toArray, List.set_cons_zero, List.set_cons_succ, List.getElem_toArray, List.getElem_cons_zero, List.getElem_cons_succ]
              refine zqk 8 rfl hH ?_
              simp only [Act.put, List.setIfInBounds_toArray, List.set_cons_zero, List.set_cons_succ, List.getElem_toArray, List.getElem_cons_zero, List.getElem_cons_succ]
              refine zqk 9 rfl hH ?_
              simp only [Act.put, List.setIfInBounds_toArray, List.set_cons_zero, List.set_cons_succ, List.getElem_toArray, List.getElem_cons_zero, List.getElem_cons_succ]
              refine zqk 10 rfl hH ?_
              simp only [Act.put, List.setIfInBounds_toArray, List.set_cons_zero, List.set_cons_succ, List.getElem_toArray, List.getElem_cons_zero, List.getElem_cons_succ]
              refine zqk 11 rfl hH ?_
              simp only [Act.put, List.setIfInBounds_toArray, List.set_cons_zero, List.set_cons_succ, List.getElem_toArray, List.getElem_cons_zero, List.getElem_cons_succ]
              refine wpAnyH_done (by kernel_rfl) ?_ _
              clear cxd hH yy9
              gi_wp2
              go_roundw
              case rel => exact ⟨k + 1, by omega, by omega, by go_num, HSD.out.1, HSD.out.2⟩
              case measure => simp [intOf]; omega
            · have yp9 := hsp.one.box.cell 0 _ rfl
              have HSM : Hid (Calls Try.prog 13 #[.slice ad1 AL.length c1, .slice adP AL.length cP] wr fun e w' => e = .returned (.bool true) ∧ Below wr.heap.size wr w') := ixsamep_yes _ _ AL wr (Pr.of hsp.two.row) (Pr.of hsp.one.row)
              have hdl9 : ((AL.length : Int) == (ps.length : Int)) = true := by rw [HAL.out.2.1]; simp
              clear hsp hds
              gi_wp2
              refine ⟨trivial, (callsIn_wide.2 HSM.out).mono ?_⟩
              rintro e W8 ⟨rfl, b8⟩
              have h8 := HSP.out.1.kept b8
              have yy8 := h8.two.box.cell 0 _ rfl
              have f8 := h8.x.res.free 0
              have y8 := h8.x.res.cell 0 _ rfl
              have HM8 : Hid (∀ D ∈ ([D3, D2, D1] : List Nat), (W8.setCell ⟨w.heap.size + 1, 0, none⟩ (.bool true)).heap[D]? = some (.deferred (some []))) := fun D hD => by
                have h7 := (b8.block D (Array.getElem?_eq_some_iff.1 (HSP.out.2 D hD)).1).trans (HSP.out.2 D hD)
                exact (KeepsOthers.setCell W8 ⟨w.heap.size + 1, 0, none⟩ (.bool true)).same D _ h7 rfl
              have HL8 : Hid (LB (W8.setCell ⟨w.heap.size + 1, 0, none⟩ (.bool true)) (w.heap.size + 1) 4 [.bool true] ∧ Below w.heap.size w (W8.setCell ⟨w.heap.size + 1, 0, none⟩ (.bool true))) := ⟨h8.x.res.set 0 _, h8.x.bel.setCell (p := ⟨w.heap.size + 1, 0, none⟩) (show w.heap.size ≤ w.heap.size + 1 by omega) _⟩
              clear h8 b8 HSP HSM
              gi_wp2
              generalize W8.setCell ⟨w.heap.size + 1, 0, none⟩ (.bool true) = W9 at HM8 HL8 ⊢
              have t0 := (HM8.out D3 (by simp))
              have l0 := lb_putObj HL8.out.1 t0 rfl (.deferred none)
              have e0 := below_putObj HL8.out.2 (HGE.out D3 (by simp)) (.deferred none)
              have u0D2 := mark_putObj (HM8.out D2 (by simp)) (D := D3) (show D2 ≠ D3 by have := HNE.out; omega) (.deferred none)
              have u0D1 := mark_putObj (HM8.out D1 (by simp)) (D := D3) (show D1 ≠ D3 by have := HNE.out; omega) (.deferred none)
              refine ⟨by simp, .inl ⟨_, _, rfl, run_takeDeferred t0, ?_⟩⟩
              have t1 := u0D2
              have l1 := lb_putObj l0 t1 rfl (.deferred none)
              have e1 := below_putObj e0 (HGE.out D2 (by simp)) (.deferred none)
              have u1D1 := mark_putObj u0D1 (D := D2) (show D1 ≠ D2 by have := HNE.out; omega) (.deferred none)
              refine ⟨by simp, .inl ⟨_, _, rfl, run_takeDeferred t1, ?_⟩⟩
              have t2 := u1D1
              have l2 := lb_putObj l1 t2 rfl (.deferred none)
              have e2 := below_putObj e1 (HGE.out D1 (by simp)) (.deferred none)
              refine ⟨by simp, .inl ⟨_, _, rfl, run_takeDeferred t2, ?_⟩⟩
              have z9 := l2.cell 0 _ rfl
              refine ⟨.bool true, ?_, rfl, e2⟩
              simp [results, Try.f3, go_sem, z9]
  · have hlt2 : (at1 < 9223372036854775807) = False := by simp; omega
    have H7 : Hid (Sp0 w g b base ps.length (Ix.gml ps) at1 V3 ∧ ItB V3 g mA (-9223372036854775808) 9223372036854775807 ∧ ItB V3 g mB (-9223372036854775808) at1 ∧ ItB V3 g mC at1 9223372036854775807) := H6.out
    have HCUT : Hid (prs (within (Ix.gml ps) (-9223372036854775808) at1) = AL) := by
      show _ = _
      rw [show at1 = 9223372036854775807 by omega, Ix.within_all _ _ _ HFI.out.2, hAL]
    clear H6 hAL
    have HB9 : Hid (∀ W, W = (V3.alloc (.cells #[.slice none 0 0] 22)).alloc (.cells #[.slice none 0 0] 22) → SpS w g b base ps.length (Ix.gml ps) at1 at1 w.heap.size (w.heap.size + 1) mA mB mC V3.heap.size (V3.heap.size + 1) (.slice none 0 0) (.slice none 0 0) [] [] W) := fun W e => by
      subst e
      have h1 := lb_new V3 [.slice none 0 0] 22
      have h2 := lb_new (V3.alloc (.cells #[.slice none 0 0] 22)) [.slice none 0 0] 22
      rw [heap_one] at h2
      have hb : Below V3.heap.size V3 ((V3.alloc (.cells #[.slice none 0 0] 22)).alloc (.cells #[.slice none 0 0] 22)) := up (up0 _ _) _
      have h0 := H7.out.1.kept hb
      have hs := H7.out.1.bel.size
      exact ⟨⟨h0.bat, h0.res, H7.out.2.1.kept hb, H7.out.2.2.1.kept hb, H7.out.2.2.2.kept hb, h0.mi, h0.bel⟩, ⟨h1.kept (up0 _ _), World.ownsRow_nil _ _ _ _⟩, ⟨h2, World.ownsRow_nil _ _ _ _⟩, fun k e => (by cases e), by omega, by omega, by omega⟩
    gi_upto_region 12 with fail
    obtain ⟨V5, hV5⟩ : ∃ V5, V5 = (V3.alloc (.cells #[.slice none 0 0] 22)).alloc (.cells #[.slice none 0 0] 22) := ⟨_, rfl⟩
    have HS1 : Hid (SpS w g b base ps.length (Ix.gml ps) at1 at1 w.heap.size (w.heap.size + 1) mA mB mC V3.heap.size (V3.heap.size + 1) (.slice none 0 0) (.slice none 0 0) [] [] V5) := HB9.out _ hV5
    rw [← hV5]
    generalize V3.heap.size + 1 = B10 at HS1 ⊢
    generalize V3.heap.size = B9 at HS1 ⊢
    clear hV5 HB9 H7
    have HD1 : Hid (∀ D ∈ ([] : List Nat), D < V5.heap.size) := fun D hD => by cases hD
    have HE1 : Hid (∀ D ∈ ([] : List Nat), V5.heap[D]? = some (.deferred (some []))) := fun D hD => by cases hD
    have HZ1 : Hid (([] : List (Int × Int)).length ≤ 300) := Nat.zero_le _
    gi_wp2
    refine wpIn_rangeFunc_ownF rfl (by omega) (gf := 26) (lb := #[.pointer (some ⟨mA, 0, none⟩), .pointer (some ⟨mA + 1, 0, none⟩), .pointer (some ⟨mA + 2, 0, none⟩)]) rfl trivial (enters_of Try.func26 (by kernel_rfl) rfl) (encs := encsP) (Kp := KpI (fun k => k = B9 ∨ k = B10) 32) (S := fun xs : List PI => xs.map (·.1) = prs (within (Ix.gml ps) (-9223372036854775808) 9223372036854775807)) (Sp := fun pre : List PI => pre.map (fun q : PI => q.1) <+: prs (within (Ix.gml ps) (-9223372036854775808) 9223372036854775807)) (N := (prs (within (Ix.gml ps) (-9223372036854775808) 9223372036854775807)).length) (w0 := V5) ?sq1mC KpI.trans (fun W l o o' _ h1 h2 _ => kpI_b W l o o' h1 h2) (Below.refl _ _) (fun _ => rfl) (IS w g b base ps.length (Ix.gml ps) at1 at1 w.heap.size (w.heap.size + 1) mA mB mC B9 B10 (.slice none 0 0) ([] : List (Int × Int)) [] []) (IXS (fun _ => False)) (IS_own HS1.out.x.mi.blt.2 HS1.out.x.bel.size HD1.out) (IXS_own _ _) ?hz1mC ?a1mC ?as1mC ?bo1mC ?do1mC ?st1mC
    case as1mC =>
      intro l x W K hK
      unfold encsP
      gi_wp2
      exact hK
    case sq1mC =>
      intro l J Jx W hW hJ _ hY h0
      have hs := HS1.out.kept hW
      exact ixrange1_in 4 l _ 32 g b base ps.length (Ix.gml ps) (-9223372036854775808) 9223372036854775807 mA (mA + 1) (mA + 2) W hs.x.mi HKL.out (hs.x.i1.1.cell 0 _ rfl) (hs.x.i1.2.1.cell 0 _ rfl) (hs.x.i1.2.2.cell 0 _ rfl) (fun q hq => sps_fx hs hq) (by decide) (by decide) J Jx hJ hY h0
    case hz1mC => exact ⟨⟨_, _, _, by rw [List.map_nil, List.append_nil]; exact HS1.out⟩, HE1.out⟩
    case bo1mC =>
      rintro l pre ⟨⟨k, v⟩, hwk, hwv⟩ WW ⟨⟨ad, m, c, hs⟩, hds⟩ hlen
      have HSS : Hid (SpS w g b base ps.length (Ix.gml ps) at1 at1 w.heap.size (w.heap.size + 1) mA mB mC B9 B10 (.slice ad m c) (.slice none 0 0) (([] : List (Int × Int)) ++ pre.map (fun q : PI => q.1)) [] WW) := hs
      have HDS : Hid (∀ D ∈ ([] : List Nat), WW.heap[D]? = some (.deferred (some []))) := hds
      have HLN : Hid ((([] : List (Int × Int)) ++ pre.map (fun q : PI => q.1)).length ≤ 100000000) := by
        have h9 := HRL.out (-9223372036854775808) 9223372036854775807
        have h8 : (([] : List (Int × Int))).length ≤ 300 := HZ1.out
        show _ ≤ _
        rw [List.length_append, List.length_map]
        omega
      have y9 := hs.one.box.cell 0 _ rfl
      have y3 := hs.x.bat.cell 0 _ rfl
      have y4 := hs.x.res.cell 0 _ rfl
      have f4 := hs.x.res.free 0
      clear hs hds hlen
      have HQ9 : Hid ((WW.alloc (.cells #[.int .i64 k, .int .i64 v] 32)).ownsRow w.heap.size 32 2 (.slice ad m c) (([] : List (Int × Int)) ++ pre.map (fun q : PI => q.1)).length ((([] : List (Int × Int)) ++ pre.map (fun q : PI => q.1)).flatMap enP) ∧ (WW.alloc (.cells #[.int .i64 k, .int .i64 v] 32)).rangeAt WW.heap.size 0 (enP (k, v)) ∧ w.heap.size ≤ (WW.alloc (.cells #[.int .i64 k, .int .i64 v] 32)).heap.size) := ⟨HSS.out.one.row.alloc _, (lb_new WW (enP (k, v)) 32).range, by rw [heap_one]; have := HSS.out.x.bel.size; omega⟩
      gi_wp2_with (gi_at_builtin; refine wpListIn_appP _ rfl (.tmp 58) (.tmp 62) rfl w.heap.size (.slice ad m c) (([] : List (Int × Int)) ++ pre.map (fun q : PI => q.1)) rfl HQ9.out.1 WW.heap.size 1 (k, v) rfl HQ9.out.2.1 HLN.out HQ9.out.2.2 ?_)
      intro ad2 mm2 cc2 W2 hr2 hg2 hat2
      obtain ⟨bx2, s2, r2⟩ := HSS.out.app (k, v) _ W2 rfl (u := .slice ad2 mm2 cc2) (by simpa using hr2) hg2 (by rw [heap_one]; exact hat2)
      have z0 := bx2.cell 0 _ rfl
      have f0 := bx2.free 0
      have H2 : Hid (SpS w g b base ps.length (Ix.gml ps) at1 at1 w.heap.size (w.heap.size + 1) mA mB mC B9 B10 (.slice ad2 mm2 cc2) (.slice none 0 0) ((([] : List (Int × Int)) ++ pre.map (fun q : PI => q.1)) ++ [(k, v)]) [] (W2.setCell ⟨B9, 0, none⟩ (.slice ad2 mm2 cc2)) ∧ RS w (fun q => q = B9 ∨ q = B10) WW (W2.setCell ⟨B9, 0, none⟩ (.slice ad2 mm2 cc2))) := ⟨s2, r2⟩
      clear hr2 hg2 hat2 bx2 s2 r2 HQ9
      gi_wp2
      exact ⟨H2.out.2.ko, H2.out.2.kp, ⟨ad2, mm2, cc2, by rw [List.map_append, ← List.append_assoc]; exact H2.out.1⟩, fun D hD => H2.out.2.ko.same D _ (HDS.out D hD) rfl⟩
    case st1mC =>
      rintro D c pre W hD hSp ⟨-, x, -, hx⟩ hK
      exact hx.elim
    case do1mC =>
      rintro D1 xs1 W6 hD1 hxs1 ⟨⟨ad1, n1, c1, hs1⟩, -⟩ hK1
      rw [hxs1, List.nil_append, HAL.out.1] at hs1
      have HS2 : Hid (SpS w g b base ps.length (Ix.gml ps) at1 at1 w.heap.size (w.heap.size + 1) mA mB mC B10 B9 (.slice none 0 0) (.slice ad1 n1 c1) [] AL W6) := hs1.swap
      have HD2 : Hid (∀ D ∈ ([D1] : List Nat), D < W6.heap.size) := fun D hD => by
        rw [List.mem_singleton.1 hD]
        exact (Array.getElem?_eq_some_iff.1 hK1).1
      have HE2 : Hid (∀ D ∈ ([D1] : List Nat), W6.heap[D]? = some (.deferred (some []))) := fun D hD => by
        rw [List.mem_singleton.1 hD]
        exact hK1
      have HZ2 : Hid (([] : List (Int × Int)).length ≤ 300) := Nat.zero_le _
      clear hs1 hK1 hxs1
      gi_wp2
      refine wpIn_rangeFunc_ownF rfl (by omega) (gf := 26) (lb := #[.pointer (some ⟨mB, 0, none⟩), .pointer (some ⟨mB + 1, 0, none⟩), .pointer (some ⟨mB + 2, 0, none⟩)]) rfl trivial (enters_of Try.func26 (by kernel_rfl) rfl) (encs := encsP) (Kp := KpI (fun k => k = B10 ∨ k = B9) 32) (S := fun xs : List PI => xs.map (·.1) = prs (within (Ix.gml ps) (-9223372036854775808) at1)) (Sp := fun pre : List PI => pre.map (fun q : PI => q.1) <+: prs (within (Ix.gml ps) (-9223372036854775808) at1)) (N := (prs (within (Ix.gml ps) (-9223372036854775808) at1)).length) (w0 := W6) ?sq2mC KpI.trans (fun W l o o' _ h1 h2 _ => kpI_b W l o o' h1 h2) (Below.refl _ _) (fun _ => rfl) (IS w g b base ps.length (Ix.gml ps) at1 at1 w.heap.size (w.heap.size + 1) mA mB mC B10 B9 (.slice ad1 n1 c1) ([] : List (Int × Int)) AL [D1]) (IXS (fun q => at1 < q)) (IS_own HS2.out.x.mi.blt.2 HS2.out.x.bel.size HD2.out) (IXS_own _ _) ?hz2mC ?a2mC ?as2mC ?bo2mC ?do2mC ?st2mC
      case as2mC =>
        intro l x W K hK
        unfold encsP
        gi_wp2
        exact hK
      case sq2mC =>
        intro l J Jx W hW hJ _ hY h0
        have hs := HS2.out.kept hW
        exact ixrange1_in 4 l _ 32 g b base ps.length (Ix.gml ps) (-9223372036854775808) at1 mB (mB + 1) (mB + 2) W hs.x.mi HKL.out (hs.x.i2.1.cell 0 _ rfl) (hs.x.i2.2.1.cell 0 _ rfl) (hs.x.i2.2.2.cell 0 _ rfl) (fun q hq => sps_fx hs hq) (by decide) (by decide) J Jx hJ hY h0
      case hz2mC => exact ⟨⟨_, _, _, by rw [List.map_nil, List.append_nil]; exact HS2.out⟩, HE2.out⟩
      case bo2mC =>
        rintro l pre ⟨⟨k, v⟩, hwk, hwv⟩ WW ⟨⟨ad, m, c, hs⟩, hds⟩ hlen
        have HSS : Hid (SpS w g b base ps.length (Ix.gml ps) at1 at1 w.heap.size (w.heap.size + 1) mA mB mC B10 B9 (.slice ad m c) (.slice ad1 n1 c1) (([] : List (Int × Int)) ++ pre.map (fun q : PI => q.1)) AL WW) := hs
        have HDS : Hid (∀ D ∈ ([D1] : List Nat), WW.heap[D]? = some (.deferred (some []))) := hds
        have HLN : Hid ((([] : List (Int × Int)) ++ pre.map (fun q : PI => q.1)).length ≤ 100000000) := by
          have h9 := HRL.out (-9223372036854775808) at1
          have h8 : (([] : List (Int × Int))).length ≤ 300 := HZ2.out
          show _ ≤ _
          rw [List.length_append, List.length_map]
          omega
        have y9 := hs.one.box.cell 0 _ rfl
        have y3 := hs.x.bat.cell 0 _ rfl
        have y4 := hs.x.res.cell 0 _ rfl
        have f4 := hs.x.res.free 0
        clear hs hds hlen
        by_cases hbk : at1 < k
        · have hbk2 : (at1 < k) = True := by simp; omega
          have HKO : Hid (KeepsOthers WW (WW.setCell ⟨w.heap.size + 1, 0, none⟩ (.bool false))) := KeepsOthers.setCell _ _ _
          gi_wp2
          exact ⟨HKO.out, rfl, _, List.mem_append_right _ (List.mem_singleton.2 rfl), hbk⟩
        · have hbk2 : (at1 < k) = False := by simp; omega
          clear hbk
          have HQ9 : Hid ((WW.alloc (.cells #[.int .i64 k, .int .i64 v] 32)).ownsRow w.heap.size 32 2 (.slice ad m c) (([] : List (Int × Int)) ++ pre.map (fun q : PI => q.1)).length ((([] : List (Int × Int)) ++ pre.map (fun q : PI => q.1)).flatMap enP) ∧ (WW.alloc (.cells #[.int .i64 k, .int .i64 v] 32)).rangeAt WW.heap.size 0 (enP (k, v)) ∧ w.heap.size ≤ (WW.alloc (.cells #[.int .i64 k, .int .i64 v] 32)).heap.size) := ⟨HSS.out.one.row.alloc _, (lb_new WW (enP (k, v)) 32).range, by rw [heap_one]; have := HSS.out.x.bel.size; omega⟩
          gi_wp2_with (gi_at_builtin; refine wpListIn_appP _ rfl (.tmp 70) (.tmp 74) rfl w.heap.size (.slice ad m c) (([] : List (Int × Int)) ++ pre.map (fun q : PI => q.1)) rfl HQ9.out.1 WW.heap.size 1 (k, v) rfl HQ9.out.2.1 HLN.out HQ9.out.2.2 ?_)
          intro ad2 mm2 cc2 W2 hr2 hg2 hat2
          obtain ⟨bx2, s2, r2⟩ := HSS.out.app (k, v) _ W2 rfl (u := .slice ad2 mm2 cc2) (by simpa using hr2) hg2 (by rw [heap_one]; exact hat2)
          have z0 := bx2.cell 0 _ rfl
          have f0 := bx2.free 0
          have H2 : Hid (SpS w g b base ps.length (Ix.gml ps) at1 at1 w.heap.size (w.heap.size + 1) mA mB mC B10 B9 (.slice ad2 mm2 cc2) (.slice ad1 n1 c1) ((([] : List (Int × Int)) ++ pre.map (fun q : PI => q.1)) ++ [(k, v)]) AL (W2.setCell ⟨B10, 0, none⟩ (.slice ad2 mm2 cc2)) ∧ RS w (fun q => q = B10 ∨ q = B9) WW (W2.setCell ⟨B10, 0, none⟩ (.slice ad2 mm2 cc2))) := ⟨s2, r2⟩
          clear hr2 hg2 hat2 bx2 s2 r2 HQ9
          gi_wp2
          exact ⟨H2.out.2.ko, H2.out.2.kp, ⟨ad2, mm2, cc2, by rw [List.map_append, ← List.append_assoc]; exact H2.out.1⟩, fun D hD => H2.out.2.ko.same D _ (HDS.out D hD) rfl⟩
      case st2mC =>
        rintro D c pre W hD hSp ⟨-, x, hx, hbad⟩ hK
        have h9 := hSp.subset (List.mem_map_of_mem (f := fun q : PI => q.1) hx)
        have := Ix.within_mem h9
        omega
      case do2mC =>
        rintro D2 xs2 W7 hD2 hxs2 ⟨⟨adP, nP, cP, hs2⟩, hds2⟩ hK2
        rw [hxs2, List.nil_append, HCUT.out] at hs2
        have y3 := hs2.x.bat.cell 0 _ rfl
        have HSX : Hid (SpS w g b base ps.length (Ix.gml ps) at1 at1 w.heap.size (w.heap.size + 1) mA mB mC B10 B9 (.slice adP nP cP) (.slice ad1 n1 c1) AL AL W7) := hs2
        have HEF : Hid (∀ D ∈ ([D2, D1] : List Nat), W7.heap[D]? = some (.deferred (some []))) := fun D hD => by
          simp only [List.mem_cons, List.not_mem_nil, or_false] at hD
          rcases hD with rfl | rfl
          · exact hK2
          · exact hds2 _ (by simp)
        have HNE : Hid (D1 < D2) := by have := HD2.out D1 (by simp); show _ < _; omega
        have HGE : Hid (∀ D ∈ ([D2, D1] : List Nat), w.heap.size ≤ D) := fun D hD => by
          simp only [List.mem_cons, List.not_mem_nil, or_false] at hD
          have h1 := HS1.out.x.bel.size
          have h2 := HS2.out.x.bel.size
          rcases hD with rfl | rfl <;> omega
        clear hs2 hds2 hK2 hxs2 HS2
        have HSF : Hid (SpS w g b base ps.length (Ix.gml ps) at1 at1 w.heap.size (w.heap.size + 1) mA mB mC B10 B9 (.slice adP nP cP) (.slice ad1 n1 c1) AL AL W7 ∧ ∀ D ∈ ([D2, D1] : List Nat), W7.heap[D]? = some (.deferred (some []))) := ⟨HSX.out, HEF.out⟩
        obtain ⟨hn1, hn2, hnc⟩ : n1 = AL.length ∧ nP = AL.length ∧ n1 ≤ c1 ∧ c1 ≤ 9223372036854775807 := by
          obtain ⟨a9, c9, e9, h91, h92, -⟩ := Pr.of HSX.out.two.row
          obtain ⟨a8, c8, e8, -⟩ := Pr.of HSX.out.one.row
          simp only [Value.slice.injEq] at e9 e8
          unfold maxLen at h92
          omega
        subst hn1 hn2
        clear HSX HEF
        have yy9 := HSF.out.1.two.box.cell 0 _ rfl
        gi_wp2
        gi_loopw [17] (fun i wr => ∃ k : Nat, 1 ≤ k ∧ k ≤ AL.length + 1 ∧ i = .int .i64 (k : Int) ∧ SpS w g b base ps.length (Ix.gml ps) at1 at1 w.heap.size (w.heap.size + 1) mA mB mC B10 B9 (.slice adP AL.length cP) (.slice ad1 AL.length c1) AL AL wr ∧ ∀ D ∈ ([D2, D1] : List Nat), wr.heap[D]? = some (.deferred (some []))) (fun i _ => AL.length + 1 - (intOf i).toNat)
        case atStart => exact ⟨1, by omega, by omega, rfl, HSF.out.1, HSF.out.2⟩
        case round =>
          clear HSF yy9
          obtain ⟨k, hk1, hk2, rfl, hsp, hds⟩ := hrel
          have HSP : Hid (SpS w g b base ps.length (Ix.gml ps) at1 at1 w.heap.size (w.heap.size + 1) mA mB mC B10 B9 (.slice adP AL.length cP) (.slice ad1 AL.length c1) AL AL wr ∧ ∀ D ∈ ([D2, D1] : List Nat), wr.heap[D]? = some (.deferred (some []))) := ⟨hsp, hds⟩
          have yy9 := hsp.two.box.cell 0 _ rfl
          by_cases hlk : k < AL.length
          · obtain ⟨a9, c9, e9, -, -, hc9⟩ := Pr.of hsp.two.row
            obtain ⟨q9, o9, e8, hcell⟩ := hc9 (List.ne_nil_of_length_pos (by omega))
            obtain rfl : c1 = c9 := by simp only [Value.slice.injEq] at e9; exact e9.2.2
            obtain rfl : ad1 = some ⟨q9, o9, none⟩ := by simp only [Value.slice.injEq] at e9; rw [e9.1, e8]
            obtain ⟨xk, hxk⟩ : ∃ x, AL[k].1 = x := ⟨_, rfl⟩
            obtain ⟨zk, hzk⟩ : ∃ x, (AL[k - 1]'(by omega)).1 = x := ⟨_, rfl⟩
            have cx := (hcell k hlk).1
            have cz := (hcell (k - 1) (by omega)).1
            rw [hxk] at cx
            rw [hzk] at cz
            have hxz : zk ≤ xk := by
              have h9 := List.pairwise_iff_getElem.1 HAL.out.2.2 (k - 1) k (by omega) hlk (by omega)
              rw [hxk, hzk] at h9
              exact h9
            have HSD : Hid (SpS w g b base ps.length (Ix.gml ps) at1 at1 w.heap.size (w.heap.size + 1) mA mB mC B10 B9 (.slice adP AL.length cP) (.slice (some ⟨q9, o9, none⟩) AL.length c1) AL AL wr.drew ∧ ∀ D ∈ ([D2, D1] : List Nat), wr.drew.heap[D]? = some (.deferred (some []))) := ⟨hsp.kept (Below.drew (Below.refl _ _)), hds⟩
            have cxd : wr.drew.cell? ⟨B9, 0, none⟩ = some (.slice (some ⟨q9, o9, none⟩) AL.length c1) ∧ wr.drew.cell? ⟨q9, o9 + k * 2, none⟩ = some (.int .i64 xk) ∧ wr.drew.cell? ⟨q9, o9 + (k - 1) * 2, none⟩ = some (.int .i64 zk) := ⟨yy9, cx, cz⟩
            have hwk : IntKind.i64.wrap ((k : Int) - 1) = ((k - 1 : Nat) : Int) := by
              rw [IntWalk.i64_in _ (by omega)]
              omega
            have hk9 : k - 1 < AL.length := by omega
            have hd9 : (xk < zk) = False := by simp; omega
            clear hcell hc9 e9 e8 hxk hzk hsp hds cx cz HSP
            gi_upto_region 32 with fail
            refine regionIn_of1 (S := fun W' : World => W'.cell? ⟨B9, 0, none⟩ = some (.slice (some ⟨q9, o9, none⟩) AL.length c1) ∧ W'.cell? ⟨q9, o9 + k * 2, none⟩ = some (.int .i64 xk) ∧ W'.cell? ⟨q9, o9 + (k - 1) * 2, none⟩ = some (.int .i64 zk)) (by kernel_rfl) (by kernel_rfl) cxd (fun hH => ?_)
            refine zqk 0 rfl hH ?_
            simp only [Act.put, List.setIfInBounds_toArray, List.set_cons_zero, List.set_cons_succ, List.getElem_toArray, List.getElem_cons_zero]
            refine zqk 1 rfl hH ?_
            simp only [Act.put, List.setIfInBounds_toArray, List.set_cons_zero, List.set_cons_succ, List.getElem_toArray, List.getElem_cons_zero, List.getElem_cons_succ]
            refine zqk 2 rfl hH ?_
            simp only [Act.put, List.setIfInBounds_toArray, List.set_cons_zero, List.set_cons_succ, List.getElem_toArray, List.getElem_cons_zero, List.getElem_cons_succ]
            refine zqk 3 rfl hH ?_
            simp only [Act.put, List.setIfInBounds_toArray, List.set_cons_zero, List.set_cons_succ, List.getElem_toArray, List.getElem_cons_zero, List.getElem_cons_succ]
            refine zqk 4 rfl hH ?_
            simp only [Act.put, List.setIfInBounds_toArray, List.set_cons_zero, List.set_cons_succ, List.getElem_toArray, List.getElem_cons_zero, List.getElem_cons_succ]
            refine zqk 5 rfl hH ?_
            simp only [Act.put, List.setIfInBounds_toArray, List.set_cons_zero, List.set_cons_succ, List.getElem_toArray, List.getElem_cons_zero, List.getElem_cons_succ]
            refine zqk 6 rfl hH ?_
            simp only [Act.put, List.setIfInBounds_toArray, List.set_cons_zero, List.set_cons_succ, List.getElem_toArray, List.getElem_cons_zero, List.getElem_cons_succ]
            refine zqk 7 rfl hH ?_
            simp only [Act.put, List.setIfInBounds_toArray, List.set_cons_zero, List.set_cons_succ, List.getElem_toArray, List.getElem_cons_zero, List.getElem_cons_succ]
            refine zqk 8 rfl hH ?_
            simp only [Act.put, List.setIfInBounds_toArray, List.set_cons_zero, List.set_cons_succ, List.getElem_toArray, List.getElem_cons_zero, List.getElem_cons_succ]
            refine zqk 9 rfl hH ?_
            simp only [Act.put, List.setIfInBounds_toArray, List.set_cons_zero, List.set_cons_succ, List.getElem_toArray, List.getElem_cons_zero, List.getElem_cons_succ]
            refine zqk 10 rfl hH ?_
            simp only [Act.put, List.setIfInBounds_toArray, List.set_cons_zero, List.set_cons_succ, List.getElem_toArray, List.getElem_cons_zero, List.getElem_cons_succ]
            refine zqk 11 rfl hH ?_
            simp only [Act.put, List.setIfInBounds_toArray, List.set_cons_zero, List.set_cons_succ, List.getElem_toArray, List.getElem_cons_zero, List.getElem_cons_succ]
            refine wpAnyH_done (by kernel_rfl) ?_ _
            clear cxd hH yy9
            gi_wp2
            go_roundw
            case rel => exact ⟨k + 1, by omega, by omega, by go_num, HSD.out.1, HSD.out.2⟩
            case measure => simp [intOf]; omega
          · have yp9 := hsp.one.box.cell 0 _ rfl
            have HSM : Hid (Calls Try.prog 13 #[.slice ad1 AL.length c1, .slice adP AL.length cP] wr fun e w' => e = .returned (.bool true) ∧ Below wr.heap.size wr w') := ixsamep_yes _ _ AL wr (Pr.of hsp.two.row) (Pr.of hsp.one.row)
            have hdl9 : ((AL.length : Int) == (ps.length : Int)) = true := by rw [HAL.out.2.1]; simp
            clear hsp hds
            gi_wp2
            refine ⟨trivial, (callsIn_wide.2 HSM.out).mono ?_⟩
            rintro e W8 ⟨rfl, b8⟩
            have h8 := HSP.out.1.kept b8
            have yy8 := h8.two.box.cell 0 _ rfl
            have f8 := h8.x.res.free 0
            have y8 := h8.x.res.cell 0 _ rfl
            have HM8 : Hid (∀ D ∈ ([D2, D1] : List Nat), (W8.setCell ⟨w.heap.size + 1, 0, none⟩ (.bool true)).heap[D]? = some (.deferred (some []))) := fun D hD => by
              have h7 := (b8.block D (Array.getElem?_eq_some_iff.1 (HSP.out.2 D hD)).1).trans (HSP.out.2 D hD)
              exact (KeepsOthers.setCell W8 ⟨w.heap.size + 1, 0, none⟩ (.bool true)).same D _ h7 rfl
            have HL8 : Hid (LB (W8.setCell ⟨w.heap.size + 1, 0, none⟩ (.bool true)) (w.heap.size + 1) 4 [.bool true] ∧ Below w.heap.size w (W8.setCell ⟨w.heap.size + 1, 0, none⟩ (.bool true))) := ⟨h8.x.res.set 0 _, h8.x.bel.setCell (p := ⟨w.heap.size + 1, 0, none⟩) (show w.heap.size ≤ w.heap.size + 1 by omega) _⟩
            clear h8 b8 HSP HSM
            gi_wp2
            generalize W8.setCell ⟨w.heap.size + 1, 0, none⟩ (.bool true) = W9 at HM8 HL8 ⊢
            have t0 := (HM8.out D2 (by simp))
            have l0 := lb_putObj HL8.out.1 t0 rfl (.deferred none)
            have e0 := below_putObj HL8.out.2 (HGE.out D2 (by simp)) (.deferred none)
            have u0D1 := mark_putObj (HM8.out D1 (by simp)) (D := D2) (show D1 ≠ D2 by have := HNE.out; omega) (.deferred none)
            refine ⟨by simp, .inl ⟨_, _, rfl, run_takeDeferred t0, ?_⟩⟩
            have t1 := u0D1
            have l1 := lb_putObj l0 t1 rfl (.deferred none)
            have e1 := below_putObj e0 (HGE.out D1 (by simp)) (.deferred none)
            refine ⟨by simp, .inl ⟨_, _, rfl, run_takeDeferred t1, ?_⟩⟩
            have z9 := l1.cell 0 _ rfl
            refine ⟨.bool true, ?_, rfl, e1⟩
            simp [results, Try.f3, go_sem, z9]
end Go.Proofs.Ytneiokjpbfgioaa
