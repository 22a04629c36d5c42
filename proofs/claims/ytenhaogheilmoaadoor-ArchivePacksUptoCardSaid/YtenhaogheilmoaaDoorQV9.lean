import Derived.ArgAppend
import Derived.Test.YtenhaogheilmoaaDoorQV8
/-
  Package archive: Pack's first bytes: what the region that makes them holds at each step, in whatever order.
-/
namespace Go.Proofs.YtenhaogheilmoaaDoor
open Go Go.RowKit
open Wb

def lit5 : List Value := [.int .u8 65, .int .u8 78, .int .u8 65, .int .u8 82, .int .u8 1]
theorem bs_cells {w w' : World} {v : Value} {l : List Nat} (h : Bs w v l) (hc : ∀ a, w'.cell? a = w.cell? a) : Bs w' v l := by
  refine ⟨?_, h.good⟩
  obtain ⟨ao, cap, rfl, hl, hm, hn, h5⟩ := h.shape
  refine ⟨ao, cap, rfl, hl, hm, hn, fun hne => ?_⟩
  obtain ⟨b, off, rfl, hcell⟩ := h5 hne
  exact ⟨b, off, rfl, fun j hj => (hc _).trans (hcell j hj)⟩
theorem ps_cells {w w' : World} {v : Value} {ls : List (List Nat)} (h : Ps w v ls) (hc : ∀ a, w'.cell? a = w.cell? a) : Ps w' v ls := by
  obtain ⟨ao, cap, rfl, hm, h5⟩ := h.shape
  refine ⟨ao, cap, rfl, hm, fun hne => ?_⟩
  obtain ⟨b, off, rfl, hcell⟩ := h5 hne
  refine ⟨b, off, rfl, fun j hj => ?_⟩
  obtain ⟨u, h1, h2⟩ := hcell j hj
  exact ⟨u, (hc _).trans h1, bs_cells h2 hc⟩
/-- a constant's bytes get their mark -/
theorem conv_any (w : World) (g : Nat) (h : LB w g 5 lit5) : ∃ w', (convert 25 25 (.slice (some ⟨g, 0, none⟩) 5 5)).run Tryd.prog w = .ok (.slice (some ⟨g, 0, none⟩) 5 5) w' ∧ (∀ a, w'.cell? a = w.cell? a) ∧ ∀ B a, B ≤ g → Below B a w → Below B a w' := by
  have hsh : w.shape? g = some (5, 5) := by
    unfold World.shape?
    rw [h]
    rfl
  refine ⟨w.freeze ⟨g, 5, none⟩ 1, ?_, fun a => ?_, fun B a hB hb => ?_⟩
  · simp [convert, run_underlying Tryd.underlying25, run_underlying Tryd.underlying5, markStringish, hsh]
  · unfold World.freeze
    rw [if_neg (by decide)]
    unfold World.cell?
    simp only [Array.getElem?_modify]
    by_cases e : g = a.block
    · subst e
      rw [if_pos rfl, h]
      rfl
    · rw [if_neg e]
  · unfold World.freeze
    rw [if_neg (by decide)]
    refine ⟨hb.os, hb.tape, hb.output, ?_, fun k hk => ?_⟩
    · simp only [Array.size_modify]
      exact hb.size
    · simp only [Array.getElem?_modify]
      rw [if_neg (by omega)]
      exact hb.block k hk
/-- the constant: not yet, made, marked -/
def PA (i B : Nat) (W : World) (g : Nat) : Prop := match i with
  | 0 => True
  | 1 => B ≤ g ∧ LB W g 5 lit5
  | _ => Bs W (.slice (some ⟨g, 0, none⟩) 5 5) Ar.hd
/-- the first frame: nothing, one number, both, their list, the frame -/
def PB (j top n : Nat) (W : World) (v32 v37 v38 v39 : Value) : Prop := match j with
  | 0 => True
  | 1 => Bs W v32 (Wn.uint top)
  | 2 => Bs W v32 (Wn.uint top) ∧ Bs W v37 (Wn.uint n)
  | 3 => Ps W v38 [Wn.uint top, Wn.uint n]
  | _ => Bs W v39 (Ar.fst top n)
structure PS (i j : Nat) (w1 : World) (top n : Nat) (W : World) (g : Nat) (v32 v37 v38 v39 : Value) : Prop where
  b : Below w1.heap.size w1 W
  a : PA i w1.heap.size W g
  f : PB j top n W v32 v37 v38 v39
theorem PA.kept {i B g : Nat} {W W' : World} (h : PA i B W g) (hb : Below W.heap.size W W') : PA i B W' g := by
  unfold PA at *
  split at h
  · trivial
  · exact ⟨h.1, h.2.kept hb⟩
  · exact h.kept hb
theorem PB.kept {j top n : Nat} {W W' : World} {v32 v37 v38 v39 : Value} (h : PB j top n W v32 v37 v38 v39) (hb : Below W.heap.size W W') : PB j top n W' v32 v37 v38 v39 := by
  unfold PB at *
  split at h
  · trivial
  · exact h.kept hb
  · exact ⟨h.1.kept hb, h.2.kept hb⟩
  · exact h.kept hb
  · exact h.kept hb
theorem PB.cells {j top n : Nat} {W W' : World} {v32 v37 v38 v39 : Value} (h : PB j top n W v32 v37 v38 v39) (hc : ∀ a, W'.cell? a = W.cell? a) : PB j top n W' v32 v37 v38 v39 := by
  unfold PB at *
  split at h
  · trivial
  · exact bs_cells h hc
  · exact ⟨bs_cells h.1 hc, bs_cells h.2 hc⟩
  · exact ps_cells h hc
  · exact bs_cells h hc
section
variable {j i : Nat} {w1 : World} {top n : Nat} {W : World} {g : Nat} {v32 v37 v38 v39 : Value}
theorem PS.made (h : PS 0 j w1 top n W g v32 v37 v38 v39) : PS 1 j w1 top n (W.alloc (.cells lit5.toArray 5)) W.heap.size v32 v37 v38 v39 := ⟨up h.b _, ⟨h.b.size, lb_new _ _ _⟩, h.f.kept (up0 _ _)⟩
theorem PS.marked (h : PS 1 j w1 top n W g v32 v37 v38 v39) : ∃ W', (convert 25 25 (.slice (some ⟨g, 0, none⟩) 5 5)).run Tryd.prog W = .ok (.slice (some ⟨g, 0, none⟩) 5 5) W' ∧ PS 2 j w1 top n W' g v32 v37 v38 v39 := by
  obtain ⟨W', h1, h2, h3⟩ := conv_any W g h.a.2
  refine ⟨W', h1, h3 _ _ h.a.1 h.b, ?_, h.f.cells h2⟩
  refine ⟨⟨some ⟨g, 0, none⟩, 5, rfl, Nat.le_refl _, by simp [maxLen], fun e => (by cases e), fun _ => ⟨g, 0, rfl, fun j hj => ?_⟩⟩, fun x hx => by simp [Ar.hd] at hx; omega⟩
  have hj5 : j < 5 := hj
  rw [Nat.zero_add, h2]
  refine h.a.2.cell j _ ?_
  match j, hj5 with
  | 0, _ | 1, _ | 2, _ | 3, _ | 4, _ => rfl
theorem PS.num1 (h : PS i 0 w1 top n W g v32 v37 v38 v39) (ht : top < 18446744073709551616) : Calls Tryd.prog 17 #[.int .u64 (top : Int)] W fun e W' => ∃ a c, ∃ m : Nat, e = .returned (.slice a m c) ∧ PS i 1 w1 top n W' g (.slice a m c) v37 v38 v39 := (uint_any top W ht).mono fun e W' ⟨v, he, o, b⟩ => by
  obtain ⟨a, c, rfl, -⟩ := o.bs.shape
  exact ⟨a, c, _, he, andThen h.b b, h.a.kept b, o.bs⟩
theorem PS.num2 (h : PS i 1 w1 top n W g v32 v37 v38 v39) (hn : n < 18446744073709551616) : Calls Tryd.prog 17 #[.int .u64 (n : Int)] W fun e W' => ∃ a c, ∃ m : Nat, e = .returned (.slice a m c) ∧ PS i 2 w1 top n W' g v32 (.slice a m c) v38 v39 := (uint_any n W hn).mono fun e W' ⟨v, he, o, b⟩ => by
  obtain ⟨a, c, rfl, -⟩ := o.bs.shape
  exact ⟨a, c, _, he, andThen h.b b, h.a.kept b, (show Bs W v32 _ from h.f).kept b, o.bs⟩
theorem PS.both (h : PS i 2 w1 top n W g v32 v37 v38 v39) : PS i 3 w1 top n (W.alloc (.cells #[v32, v37] 25)) g v32 v37 (.slice (some ⟨W.heap.size, 0, none⟩) 2 2) v39 := ⟨up h.b _, h.a.kept (up0 _ _), ps2 W _ rfl _ h.f.1 h.f.2⟩
theorem PS.framed (h : PS i 3 w1 top n W g v32 v37 v38 v39) (hT : Tab w1) (ht : top < 18446744073709551616) (hn : n < 18446744073709551616) : Calls Tryd.prog 16 #[.int .u8 84, v38] W fun e W' => ∃ a c, ∃ m : Nat, e = .returned (.slice a m c) ∧ PS i 4 w1 top n W' g v32 v37 v38 (.slice a m c) := by
  have t1 := Wn.uint_len10 top ht
  have t2 := Wn.uint_len10 n hn
  have hfl : [Wn.uint top, Wn.uint n].flatten = Wn.uint top ++ Wn.uint n := by simp
  have e := arframe_any 84 (by omega) v38 [Wn.uint top, Wn.uint n] W (hT.kept h.b) h.f (by simp) (by simp) (by rw [hfl, List.length_append]; omega)
  rw [hfl] at e
  refine e.mono fun e W' ⟨v, he, o, b⟩ => ?_
  obtain ⟨a, c, rfl, -⟩ := o.bs.shape
  exact ⟨a, c, _, he, andThen h.b b, h.a.kept b, o.bs⟩
end
theorem fst_len (top n : Nat) (ht : top < 18446744073709551616) (hn : n < 18446744073709551616) : (Ar.fst top n).length ≤ 40 := by
  have t1 := Wn.uint_len10 top ht
  have t2 := Wn.uint_len10 n hn
  unfold Ar.fst
  rw [fr_length]
  have t3 := Wn.uint_len10 (84 :: (Wn.uint top ++ Wn.uint n)).length (by simp only [List.length_cons, List.length_append]; omega)
  simp only [List.length_cons, List.length_append] at *
  omega
/-- append of the frame onto the constant -/
theorem step_head {ops : Array Oper} {o : Oper} {a : Act} {K : Act → World → Prop} {Q : Exit → Act → World → Prop} {E : Prop} (hgd : o.guard = none) (s x : Operand)
    (ho : o.op = .call { callee := .builtin .append, args := #[s, x], argTypes := #[25, 25] })
    {w1 : World} {top n : Nat} {W : World} {g : Nat} {v32 v37 v38 v39 : Value} (h : PS 2 4 w1 top n W g v32 v37 v38 v39) (hs : a.eval s = .slice (some ⟨g, 0, none⟩) 5 5) (hx : a.eval x = v39) (ht : top < 18446744073709551616) (hn : n < 18446744073709551616)
    (hK : ∀ W' b c, ∀ m : Nat, Own w1.heap.size W' (.slice b m c) (Ar.hd ++ Ar.fst top n) → Below w1.heap.size w1 W' → K (a.put o.dst (.slice b m c)) W') :
    if Region.wanted o (yielded ops a.tmps) = true then Oper.wp Tryd.prog o a W K Q else E := by
  have hw : Region.wanted o (yielded ops a.tmps) = true := by simp [Region.wanted, hgd]
  rw [if_pos hw]
  obtain ⟨i0, hi, hz0, hz1, hz2⟩ := info_parts info5
  have hA : Bs W (.slice (some ⟨g, 0, none⟩) 5 5) Ar.hd := h.a
  have hF : Bs W v39 (Ar.fst top n) := h.f
  have hpos : 0 < (Ar.fst top n).length := Ar.fr_pos _
  have hle := fst_len top n ht hn
  obtain ⟨ao, c0, e0, -, -, -, hcA⟩ := hA.shape
  obtain ⟨bA, oA, e1, hcellA⟩ := hcA (by simp [Ar.hd])
  simp only [Value.slice.injEq] at e0
  obtain ⟨e2, -, -⟩ := e0
  rw [e1] at e2
  simp only [Option.some.injEq, Addr.mk.injEq, and_true] at e2
  obtain ⟨rfl, rfl⟩ := e2
  obtain ⟨af, cf, rfl, hl1, hl2, -, hcF⟩ := hF.shape
  obtain ⟨bF, oF, rfl, hcellF⟩ := hcF (List.length_pos_iff.1 hpos)
  obtain ⟨v', W', hrun, h1, h2⟩ := run_append_arg_grows (P := Tryd.prog) W 25 o.type 5 i0 (.int .u8 0) 1 1 Tryd.underlying25 hi hz0 hz1 hz2 rfl (by decide) ⟨g, 0, none⟩ 5 5 (bv Ar.hd) (by rw [bv_length]; rfl) (fun j u hj => by
      have hjl : j < Ar.hd.length := by have := (List.getElem?_eq_some_iff.1 hj).1; rwa [bv_length] at this
      rw [bv_get _ j hjl] at hj
      rw [Addr.add_lit, hcellA j hjl]
      exact hj) ⟨bF, oF, none⟩ (Ar.fst top n).length cf (bv (Ar.fst top n)) (by rw [bv_length, Nat.mul_one]) (fun j u hj => by
      have hjl : j < (Ar.fst top n).length := by have := (List.getElem?_eq_some_iff.1 hj).1; rwa [bv_length] at this
      rw [bv_get _ j hjl] at hj
      rw [Addr.add_lit, hcellF j hjl]
      exact hj) (by omega) (by unfold maxLen; omega) (by omega)
  unfold Oper.wp
  simp [execOp, ho, resolve, invoke, builtin, hs, hx, hrun, Result.andThen]
  have o7 : Own w1.heap.size W' v' (Ar.hd ++ Ar.fst top n) := by
    refine own_weak (B2 := W.heap.size) ⟨?_, ok_append hA.good hF.good⟩ h.b.size
    rw [List.length_append, bv_append]
    exact h1
  obtain ⟨b7, c7, rfl, -⟩ := o7.bs.shape
  exact hK W' b7 c7 _ o7 (h.b.grown h2 h.b.size (fun k hk => by cases hk))
end Go.Proofs.YtenhaogheilmoaaDoor

/-
  Package archive: the steps of Pack's first region, one by one.
-/
namespace Go.Proofs.YtenhaogheilmoaaDoor
open Go Go.RowKit
open Wb

section
variable {ops : Array Oper} {o : Oper} {a : Act} {K : Act → World → Prop} {Q : Exit → Act → World → Prop} {E : Prop} {j i : Nat} {w1 : World} {top n : Nat} {W : World} {g : Nat} {v32 v37 v38 v39 : Value}
theorem step_made (hgd : o.guard = none) (ho : o.op = .buildSlice 25 5 #[(0, .const (.int .u8 65)), (1, .const (.int .u8 78)), (2, .const (.int .u8 65)), (3, .const (.int .u8 82)), (4, .const (.int .u8 1))]) (st : PS 0 j w1 top n W g v32 v37 v38 v39)
    (h : ∀ W' g', PS 1 j w1 top n W' g' v32 v37 v38 v39 → K (a.put o.dst (.slice (some ⟨g', 0, none⟩) 5 5)) W') : if Region.wanted o (yielded ops a.tmps) = true then Oper.wp Tryd.prog o a W K Q else E := by
  rw [if_pos (by simp [Region.wanted, hgd])]
  obtain ⟨dst, op', ty, pos, after, guard⟩ := o
  simp only at ho hgd
  subst ho hgd
  have h1 := h _ _ st.made
  unfold lit5 at h1
  go_simp
  exact h1
set_option maxRecDepth 100000 in
theorem step_marked (hgd : o.guard = none) (ho : o.op = .convert 25 25 (.tmp 27)) (hx : a.tmps[27]?.getD undef = .slice (some ⟨g, 0, none⟩) 5 5) (st : PS 1 j w1 top n W g v32 v37 v38 v39)
    (h : ∀ W', PS 2 j w1 top n W' g v32 v37 v38 v39 → K (a.put o.dst (.slice (some ⟨g, 0, none⟩) 5 5)) W') : if Region.wanted o (yielded ops a.tmps) = true then Oper.wp Tryd.prog o a W K Q else E := by
  rw [if_pos (by simp [Region.wanted, hgd])]
  obtain ⟨dst, op', ty, pos, after, guard⟩ := o
  simp only at ho hgd
  subst ho hgd
  obtain ⟨W2, hcv, st2⟩ := st.marked
  have h1 := h _ st2
  clear h st st2
  go_simp
  exact h1
set_option maxRecDepth 100000 in
theorem step_num1 (hgd : o.guard = none) (ho : o.op = .call { callee := .value (.func 17), args := #[.tmp 31], argTypes := #[48] }) (hx : a.tmps[31]?.getD undef = .int .u64 (top : Int)) (st : PS i 0 w1 top n W g v32 v37 v38 v39) (ht : top < 18446744073709551616)
    (h : ∀ W' b c, ∀ m : Nat, PS i 1 w1 top n W' g (.slice b m c) v37 v38 v39 → K (a.put o.dst (.slice b m c)) W') : if Region.wanted o (yielded ops a.tmps) = true then Oper.wp Tryd.prog o a W K Q else E := by
  rw [if_pos (by simp [Region.wanted, hgd])]
  obtain ⟨dst, op', ty, pos, after, guard⟩ := o
  simp only at ho hgd
  subst ho hgd
  have HC : Hid (Calls Tryd.prog 17 #[.int .u64 (top : Int)] W fun e W' => ∃ a c, ∃ m : Nat, e = .returned (.slice a m c) ∧ PS i 1 w1 top n W' g (.slice a m c) v37 v38 v39) := st.num1 ht
  clear st
  go_simp
  refine HC.out.mono ?_
  rintro e W' ⟨b, c, m, rfl, st2⟩
  exact h W' b c m st2
set_option maxRecDepth 100000 in
theorem step_num2 (hgd : o.guard = none) (ho : o.op = .call { callee := .value (.func 17), args := #[.tmp 36], argTypes := #[48] }) (hx : a.tmps[36]?.getD undef = .int .u64 (n : Int)) (st : PS i 1 w1 top n W g v32 v37 v38 v39) (ht : n < 18446744073709551616)
    (h : ∀ W' b c, ∀ m : Nat, PS i 2 w1 top n W' g v32 (.slice b m c) v38 v39 → K (a.put o.dst (.slice b m c)) W') : if Region.wanted o (yielded ops a.tmps) = true then Oper.wp Tryd.prog o a W K Q else E := by
  rw [if_pos (by simp [Region.wanted, hgd])]
  obtain ⟨dst, op', ty, pos, after, guard⟩ := o
  simp only at ho hgd
  subst ho hgd
  have HC : Hid (Calls Tryd.prog 17 #[.int .u64 (n : Int)] W fun e W' => ∃ a c, ∃ m : Nat, e = .returned (.slice a m c) ∧ PS i 2 w1 top n W' g v32 (.slice a m c) v38 v39) := st.num2 ht
  clear st
  go_simp
  refine HC.out.mono ?_
  rintro e W' ⟨b, c, m, rfl, st2⟩
  exact h W' b c m st2
theorem step_both (hgd : o.guard = none) (ho : o.op = .buildSlice 36 2 #[(0, .tmp 32), (1, .tmp 37)]) {b1 b2 : Option Addr} {m1 m2 c1 c2 : Nat} (hx : a.tmps[32]?.getD undef = .slice b1 m1 c1) (hy : a.tmps[37]?.getD undef = .slice b2 m2 c2) (st : PS i 2 w1 top n W g (.slice b1 m1 c1) (.slice b2 m2 c2) v38 v39)
    (h : ∀ W' g', PS i 3 w1 top n W' g (.slice b1 m1 c1) (.slice b2 m2 c2) (.slice (some ⟨g', 0, none⟩) 2 2) v39 → K (a.put o.dst (.slice (some ⟨g', 0, none⟩) 2 2)) W') : if Region.wanted o (yielded ops a.tmps) = true then Oper.wp Tryd.prog o a W K Q else E := by
  rw [if_pos (by simp [Region.wanted, hgd])]
  obtain ⟨dst, op', ty, pos, after, guard⟩ := o
  simp only at ho hgd
  subst ho hgd
  have h1 := h _ _ st.both
  go_simp
  exact h1
set_option maxRecDepth 100000 in
theorem step_framed (hgd : o.guard = none) (ho : o.op = .call { callee := .value (.func 16), args := #[.const (.int .u8 84), .tmp 38], argTypes := #[5, 36] }) (hx : a.tmps[38]?.getD undef = v38) (st : PS i 3 w1 top n W g v32 v37 v38 v39) (hT : Tab w1) (ht : top < 18446744073709551616) (hn : n < 18446744073709551616)
    (h : ∀ W' b c, ∀ m : Nat, PS i 4 w1 top n W' g v32 v37 v38 (.slice b m c) → K (a.put o.dst (.slice b m c)) W') : if Region.wanted o (yielded ops a.tmps) = true then Oper.wp Tryd.prog o a W K Q else E := by
  rw [if_pos (by simp [Region.wanted, hgd])]
  obtain ⟨dst, op', ty, pos, after, guard⟩ := o
  simp only at ho hgd
  subst ho hgd
  have HC : Hid (Calls Tryd.prog 16 #[.int .u8 84, v38] W fun e W' => ∃ a c, ∃ m : Nat, e = .returned (.slice a m c) ∧ PS i 4 w1 top n W' g v32 v37 v38 (.slice a m c)) := st.framed hT ht hn
  clear st
  go_simp
  refine HC.out.mono ?_
  rintro e W' ⟨b, c, m, rfl, st2⟩
  exact h W' b c m st2
end
end Go.Proofs.YtenhaogheilmoaaDoor
