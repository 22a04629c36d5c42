/-
  IndexReads: holds.
-/
import Derived.Test.YtceokpklcfmadaaIxs
namespace Go.Proofs.Ytceokpklcfmadaa
open Go Go.RowKit Go.ChangeShapes
open Wb

section
variable {ops : Array Oper} {o : Oper} {a : Act} {W : World} {K : Act → World → Prop} {Q : Exit → Act → World → Prop} {E : Prop}
theorem st_ixget (hgd : o.guard = none) (p q : Nat) (ho : o.op = .call { callee := .value (.func 21), args := #[.tmp p, .tmp q], argTypes := #[23, 3] }) {u1 u2 : Value} (hp : a.tmps[p]?.getD undef = u1) (hq : a.tmps[q]?.getD undef = u2) {R : Value → World → Prop} (hC : Calls Try.prog 21 #[u1, u2] W fun e W' => ∃ v', e = .returned v' ∧ R v' W') (h : ∀ v' W', R v' W' → K (a.put o.dst v') W') : if Region.wanted o (yielded ops a.tmps) = true then Oper.wp Try.prog o a W K Q else E := by
  rw [if_pos (by simp [Region.wanted, hgd])]
  obtain ⟨dst, op', ty, pos, after, guard⟩ := o
  simp only at ho hgd
  subst ho hgd
  have HC : Hid (Calls Try.prog 21 #[u1, u2] W fun e W' => ∃ v', e = .returned v' ∧ R v' W') := hC
  clear hC
  go_simp
  refine HC.out.mono ?_
  rintro e W' ⟨v', rfl, r⟩
  exact h v' W' r
theorem st_rixget (hgd : o.guard = none) (p q : Nat) (ho : o.op = .call { callee := .value (.func 28), args := #[.tmp p, .tmp q], argTypes := #[55, 3] }) {u1 u2 : Value} (hp : a.tmps[p]?.getD undef = u1) (hq : a.tmps[q]?.getD undef = u2) {R : Value → World → Prop} (hC : Calls Try.prog 28 #[u1, u2] W fun e W' => ∃ v', e = .returned v' ∧ R v' W') (h : ∀ v' W', R v' W' → K (a.put o.dst v') W') : if Region.wanted o (yielded ops a.tmps) = true then Oper.wp Try.prog o a W K Q else E := by
  rw [if_pos (by simp [Region.wanted, hgd])]
  obtain ⟨dst, op', ty, pos, after, guard⟩ := o
  simp only at ho hgd
  subst ho hgd
  have HC : Hid (Calls Try.prog 28 #[u1, u2] W fun e W' => ∃ v', e = .returned v' ∧ R v' W') := hC
  clear hC
  go_simp
  refine HC.out.mono ?_
  rintro e W' ⟨v', rfl, r⟩
  exact h v' W' r
theorem st_same (hgd : o.guard = none) (p q : Nat) (ho : o.op = .call { callee := .value (.func 17), args := #[.tmp p, .tmp q], argTypes := #[35, 35] }) {u1 u2 : Value} (hp : a.tmps[p]?.getD undef = u1) (hq : a.tmps[q]?.getD undef = u2) {zs : List Int} (h1 : Ri W u1 zs) (h2 : Ri W u2 zs) (h : ∀ W', Below W.heap.size W W' → K (a.put o.dst (.bool true)) W') : if Region.wanted o (yielded ops a.tmps) = true then Oper.wp Try.prog o a W K Q else E := by
  rw [if_pos (by simp [Region.wanted, hgd])]
  obtain ⟨dst, op', ty, pos, after, guard⟩ := o
  simp only at ho hgd
  subst ho hgd
  have HC : Hid (Calls Try.prog 17 #[u1, u2] W fun e W' => e = .returned (.bool (decide (zs = zs))) ∧ Below W.heap.size W W') := ixsamei_any u1 u2 zs zs W h1 h2
  clear h1 h2
  go_simp
  refine HC.out.mono ?_
  rintro e W' ⟨rfl, r⟩
  rw [decide_eq_true rfl]
  exact h W' r
end
end Go.Proofs.Ytceokpklcfmadaa
