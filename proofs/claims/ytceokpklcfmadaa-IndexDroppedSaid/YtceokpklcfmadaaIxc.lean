/-
  Package index: Encode: steps; All, Range.
-/
import Derived.Test.YtceokpklcfmadaaIxb
import Derived.Maps.OwnSet
namespace Go.Proofs.Ytceokpklcfmadaa
open Go Go.RowKit Go.ChangeShapes
open Wb

section
variable {w : World} {g b base n : Nat} {kvs : Ix.Gm} {B1 B2 B3 B4 B5 B6 : Nat} {key off : Int} {x2 : Value} {e3 : Int} {W W' : World}
/-- bytes behind out -/
theorem ES0.app {ad : Option Addr} {m c : Nat} (h : ES0 w g b base n kvs B1 B2 B3 B4 B5 B6 (.slice ad m c) key off x2 e3 W) (hm : MI w g b base n kvs) {o : List Nat} (ho : Wb.Own w.heap.size W (.slice ad m c) o) {u : Value} {y : List Nat} {B : Nat} (hu : Wb.Own B W u y) (hy : y ≠ []) (hl : o.length + y.length ≤ 1000000000000) (fx : Nat → Prop) :
    ∃ ad' m' c' W2, (Builtin.append_ #[44, 44] 44 #[.slice ad m c, u]).run Try.prog W = .ok (.slice ad' m' c') W2 ∧ Wb.Own w.heap.size W2 (.slice ad' m' c') (o ++ y) ∧ ES0 w g b base n kvs B1 B2 B3 B4 B5 B6 (.slice ad m c) key off x2 e3 W2 ∧ RL w fx W W2 := by
  rcases hu.shape with ⟨-, e⟩ | ⟨gu, cu, rfl, -, -, -, -, hcell⟩
  · exact absurd e hy
  · obtain ⟨i0, hi, hz0, hz1, hz2⟩ := info_parts info5
    obtain ⟨v', W2, hr, h1, h2, -⟩ := run_append_own (P := Try.prog) W w.heap.size 44 44 5 i0 (.int .u8 0) 1 1 Try.underlying44 hi hz0 hz1 hz2 rfl (by decide) (.slice ad m c) o.length (bv o) ho.row ⟨gu, 0, none⟩ y.length cu (bv y) (by rw [bv_length, Nat.mul_one]) (fun j q hj => by
      have hjl : j < y.length := by have := (List.getElem?_eq_some_iff.1 hj).1; rwa [bv_length] at this
      rw [bv_get y j hjl] at hj
      rw [Addr.add_lit, Nat.zero_add, hcell j hjl]
      exact hj) (bv_one y) (by unfold maxLen; omega) (by omega) h.bel.size
    have hrow : ∀ r, (Value.slice ad m c).ownBlock = some r → (∃ cs z, W.heap[r]? = some (.cells cs 5 z)) ∧ w.heap.size ≤ r := fun r e => by
      rcases ho.row.2 with ⟨e2, -⟩ | ⟨g', cap, cur, e2, hb, hh, -⟩
      · rw [e2] at e
        cases e
      · rw [e2] at e
        obtain rfl := Option.some.inj e
        exact ⟨⟨cur, _, hh⟩, hb⟩
    obtain ⟨ad', m', c', rfl⟩ : ∃ ad' m' c', v' = .slice ad' m' c' := by
      rcases h1.2 with ⟨rfl, -⟩ | ⟨g', cap, cur, rfl, -⟩ <;> exact ⟨_, _, _, rfl⟩
    refine ⟨ad', m', c', W2, hr, ⟨?_, ok_append ho.good hu.good⟩, h.other hm h2 fun r e => ⟨(hrow r e).2, h.bytes (hrow r e).1⟩, RL.row h2 hrow h.bel.size⟩
    rw [List.length_append, bv_append]
    exact h1
end
/-- a load of one cell -/
theorem st_ld {ops : Array Oper} {o : Oper} {a : Act} {W : World} {K : Act → World → Prop} {Q : Exit → Act → World → Prop} {E : Prop} (hgd : o.guard = none) (p : Nat) (ho : o.op = .load 44 (.tmp p)) {B : Nat} {ad : Option Addr} {m c : Nat} (hp : a.tmps[p]?.getD undef = .pointer (some ⟨B, 0, none⟩)) (hc : W.cell? ⟨B, 0, none⟩ = some (.slice ad m c)) (h : K (a.put o.dst (.slice ad m c)) W) : if Region.wanted o (yielded ops a.tmps) = true then Oper.wp Try.prog o a W K Q else E := by
  rw [if_pos (by simp [Region.wanted, hgd])]
  obtain ⟨dst, op', ty, pos, after, guard⟩ := o
  simp only at ho hgd
  subst ho hgd
  go_simp
  exact h
theorem st_st {ops : Array Oper} {o : Oper} {a : Act} {W : World} {K : Act → World → Prop} {Q : Exit → Act → World → Prop} {E : Prop} (hgd : o.guard = none) (p q : Nat) (ho : o.op = .store 44 (.tmp p) (.tmp q)) {B : Nat} {x : Value} {ad : Option Addr} {m c : Nat} (hp : a.tmps[p]?.getD undef = .pointer (some ⟨B, 0, none⟩)) (hq : a.tmps[q]?.getD undef = .slice ad m c) (L : LB W B 44 [x]) (h : K (a.put o.dst undef) (W.setCell ⟨B, 0, none⟩ (.slice ad m c))) : if Region.wanted o (yielded ops a.tmps) = true then Oper.wp Try.prog o a W K Q else E := by
  rw [if_pos (by simp [Region.wanted, hgd])]
  obtain ⟨dst, op', ty, pos, after, guard⟩ := o
  simp only at ho hgd
  subst ho hgd
  have x0 := L.cell 0 _ rfl
  have f0 := L.free 0
  clear L
  go_simp
  exact h
set_option maxRecDepth 100000 in
theorem st_uint {ops : Array Oper} {o : Oper} {a : Act} {W : World} {K : Act → World → Prop} {Q : Exit → Act → World → Prop} {E : Prop} (hgd : o.guard = none) (p : Nat) (ho : o.op = .call { callee := .value (.func 52), args := #[.tmp p], argTypes := #[110] }) {y : Nat} (hp : a.tmps[p]?.getD undef = .int .u64 (y : Int)) (hy : y < 18446744073709551616) (h : ∀ W' ad, ∀ m c : Nat, Wb.Own W.heap.size W' (.slice ad m c) (Wn.uint y) → Below W.heap.size W W' → K (a.put o.dst (.slice ad m c)) W') : if Region.wanted o (yielded ops a.tmps) = true then Oper.wp Try.prog o a W K Q else E := by
  rw [if_pos (by simp [Region.wanted, hgd])]
  obtain ⟨dst, op', ty, pos, after, guard⟩ := o
  simp only at ho hgd
  subst ho hgd
  have HC : Hid (Calls Try.prog 52 #[.int .u64 (y : Int)] W fun e W' => ∃ v', e = .returned v' ∧ Wb.Own W.heap.size W' v' (Wn.uint y) ∧ Below W.heap.size W W') := uint_any y W hy
  go_simp
  refine HC.out.mono ?_
  rintro e W' ⟨v', rfl, o', b'⟩
  obtain ⟨ad, c, e2, -⟩ := o'.bs.shape
  subst e2
  exact h W' ad _ c o' b'
set_option maxRecDepth 100000 in
theorem ixrange_any (g : Nat) (lo hi : Int) (w : World) : Calls Try.prog 40 #[.pointer (some ⟨g, 0, none⟩), .int .i64 lo, .int .i64 hi] w fun e w' => e = .returned (.func (.func 57) #[] #[.pointer (some ⟨w.heap.size, 0, none⟩), .pointer (some ⟨w.heap.size + 1, 0, none⟩), .pointer (some ⟨w.heap.size + 2, 0, none⟩)]) ∧ LB w' w.heap.size 23 [.pointer (some ⟨g, 0, none⟩)] ∧ LB w' (w.heap.size + 1) 3 [.int .i64 lo] ∧ LB w' (w.heap.size + 2) 3 [.int .i64 hi] ∧ Below w.heap.size w w' := by
  have hmf : ∀ (fn : Fn) (first cap : Array Value) (w : World), (Instr.makeFunc fn first cap).run Try.prog w = .ok (.func fn first cap) w := fun _ _ _ _ => rfl
  have H : Hid (∀ W, W = ((w.alloc (.cells #[.pointer (some ⟨g, 0, none⟩)] 23)).alloc (.cells #[.int .i64 lo] 3)).alloc (.cells #[.int .i64 hi] 3) → LB W w.heap.size 23 [.pointer (some ⟨g, 0, none⟩)] ∧ LB W (w.heap.size + 1) 3 [.int .i64 lo] ∧ LB W (w.heap.size + 2) 3 [.int .i64 hi] ∧ Below w.heap.size w W) := fun W e => by
    subst e
    have h1 := lb_new w [.pointer (some ⟨g, 0, none⟩)] 23
    have h2 := lb_new (w.alloc (.cells #[.pointer (some ⟨g, 0, none⟩)] 23)) [.int .i64 lo] 3
    have h3 := lb_new ((w.alloc (.cells #[.pointer (some ⟨g, 0, none⟩)] 23)).alloc (.cells #[.int .i64 lo] 3)) [.int .i64 hi] 3
    rw [heap_one] at h2 h3
    rw [heap_one] at h3
    exact ⟨(h1.kept (up0 _ _)).kept (up0 _ _), h2.kept (up0 _ _), h3, up (up (up0 _ _) _) _⟩
  go_enter Try.func40, Try.ntmps40
  go_wp2_with fail
  go_ret
  exact ⟨rfl, H.out _ rfl⟩
set_option maxRecDepth 100000 in
theorem ixall_any (g : Nat) (w : World) : Calls Try.prog 27 #[.pointer (some ⟨g, 0, none⟩)] w fun e w' => e = .returned (.func (.func 57) #[] #[.pointer (some ⟨w.heap.size, 0, none⟩), .pointer (some ⟨w.heap.size + 1, 0, none⟩), .pointer (some ⟨w.heap.size + 2, 0, none⟩)]) ∧ LB w' w.heap.size 23 [.pointer (some ⟨g, 0, none⟩)] ∧ LB w' (w.heap.size + 1) 3 [.int .i64 (-9223372036854775808)] ∧ LB w' (w.heap.size + 2) 3 [.int .i64 9223372036854775807] ∧ Below w.heap.size w w' := by
  have HR := ixrange_any g (-9223372036854775808) 9223372036854775807 w
  have HR2 : Hid (Calls Try.prog 40 #[.pointer (some ⟨g, 0, none⟩), .int .i64 (-9223372036854775808), .int .i64 9223372036854775807] w fun e w' => e = .returned (.func (.func 57) #[] #[.pointer (some ⟨w.heap.size, 0, none⟩), .pointer (some ⟨w.heap.size + 1, 0, none⟩), .pointer (some ⟨w.heap.size + 2, 0, none⟩)]) ∧ LB w' w.heap.size 23 [.pointer (some ⟨g, 0, none⟩)] ∧ LB w' (w.heap.size + 1) 3 [.int .i64 (-9223372036854775808)] ∧ LB w' (w.heap.size + 2) 3 [.int .i64 9223372036854775807] ∧ Below w.heap.size w w') := HR
  clear HR
  go_enter Try.func27, Try.ntmps27
  go_wp2_with fail
  refine HR2.out.mono ?_
  rintro e w1 ⟨rfl, h1, h2, h3, h4⟩
  have H : Hid (LB w1 w.heap.size 23 [.pointer (some ⟨g, 0, none⟩)] ∧ LB w1 (w.heap.size + 1) 3 [.int .i64 (-9223372036854775808)] ∧ LB w1 (w.heap.size + 2) 3 [.int .i64 9223372036854775807] ∧ Below w.heap.size w w1) := ⟨h1, h2, h3, h4⟩
  clear h1 h2 h3 h4 HR2
  go_wp2_with fail
  go_ret
  exact ⟨rfl, H.out⟩
end Go.Proofs.Ytceokpklcfmadaa
