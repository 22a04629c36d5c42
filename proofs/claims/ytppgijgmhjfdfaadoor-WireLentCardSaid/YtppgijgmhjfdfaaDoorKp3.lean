/-
  append of marks, for the walk.
-/
import Derived.Test.YtppgijgmhjfdfaaDoorKp2
namespace Go.Proofs.YtppgijgmhjfdfaaDoor
open Go Go.RowKit
open Wb

theorem wpList_append_marks {P : Program} (w : World) {ops : Array Oper} {rest : List Oper} {o : Oper} {a : Act} {Q : Exit → Act → World → Prop} (hgd : o.guard = none) (s x : Operand) (t : TypeId)
    (ho : o.op = .call { callee := .builtin .append, args := #[s, x], argTypes := #[t, t] })
    (B : Nat) (hinfo : (P.info? 5).map (fun i => (i.zero, i.size, i.bytes)) = some (some (.int .u8 0), 1, 1)) (ht : P.underlying t = some (.slice 5))
    (v : Value) (n am k tm m : Nat) (hv : a.eval s = v) (h : Own B w v (mks n am k tm)) (xv : Value) (hxe : a.eval x = xv) (hx : Bs w xv (List.replicate m tm)) (hm : 0 < m) (hmax : n + k + m ≤ 140737488355328) (hB : B ≤ w.heap.size)
    (hK : ∀ v' w', Own B w' v' (mks n am (k + m) tm) → w.grownBy w' v.ownBlock → (v'.ownBlock = v.ownBlock ∨ v'.ownBlock = some w.heap.size) → (∀ u k', Own B w u (mks n am k' tm) → Own B w' u (mks n am k' tm)) → wpList P ops Q rest (a.put o.dst v') w') : wpList P ops Q (o :: rest) a w := by
  refine wpList_plain hgd fun K hK2 => ?_
  obtain ⟨v', w', hr, h1, h2, h3, h4⟩ := append_marks (P := P) w B t o.type hinfo ht v n am k tm m h xv hx hm hmax hB
  unfold Oper.wp execOp
  simp only [ho, resolve, invoke, builtin, Sem.run_bind, Sem.run_pure, Result.andThen_ok, List.map_toArray, List.map_cons, List.map_nil, hv, hxe, hr]
  exact hK2 _ _ (hK v' w' h1 h2 h3 h4)
theorem step_append_marks {P : Program} {ops : Array Oper} {o : Oper} {a : Act} {w : World} {K : Act → World → Prop} {Q : Exit → Act → World → Prop} {E : Prop} (hgd : o.guard = none) (dst : Option Tmp) (hdst : o.dst = dst) (s x : Operand) (t : TypeId)
    (ho : o.op = .call { callee := .builtin .append, args := #[s, x], argTypes := #[t, t] })
    (B : Nat) (hinfo : (P.info? 5).map (fun i => (i.zero, i.size, i.bytes)) = some (some (.int .u8 0), 1, 1)) (ht : P.underlying t = some (.slice 5))
    (v : Value) (n am k tm m : Nat) (hv : a.eval s = v) (h : Own B w v (mks n am k tm)) (xv : Value) (hxe : a.eval x = xv) (hx : Bs w xv (List.replicate m tm)) (hm : 0 < m) (hmax : n + k + m ≤ 140737488355328) (hB : B ≤ w.heap.size)
    (hK : ∀ v' w', Own B w' v' (mks n am (k + m) tm) → w.grownBy w' v.ownBlock → (v'.ownBlock = v.ownBlock ∨ v'.ownBlock = some w.heap.size) → (∀ u k', Own B w u (mks n am k' tm) → Own B w' u (mks n am k' tm)) → K (a.put dst v') w') :
    if Region.wanted o (yielded ops a.tmps) = true then Oper.wp P o a w K Q else E := by
  have hw : Region.wanted o (yielded ops a.tmps) = true := by simp [Region.wanted, hgd]
  rw [if_pos hw]
  subst hdst
  obtain ⟨v', w', hr, h1, h2, h3, h4⟩ := append_marks (P := P) w B t o.type hinfo ht v n am k tm m h xv hx hm hmax hB
  unfold Oper.wp
  simp [execOp, ho, resolve, invoke, builtin, hv, hxe, hr, Result.andThen]
  exact hK v' w' h1 h2 h3 h4
end Go.Proofs.YtppgijgmhjfdfaaDoor
