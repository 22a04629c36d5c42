/-
  Package index: laid, intact.
-/
import Derived.Test.YtceokpklcfmadaaIxg
import Derived.Maps.AppendAt
namespace Go.Proofs.Ytceokpklcfmadaa
open Go Go.RowKit
open Wb

/-- append(v, x...) of bytes onto a row of the call's own, and where it lies -/
theorem wpList_append_at {P : Program} (w : World) {ops : Array Oper} {rest : List Oper} {o : Oper} {a : Act} {Q : Exit → Act → World → Prop} (hgd : o.guard = none) (s x : Operand) (t : TypeId)
    (ho : o.op = .call { callee := .builtin .append, args := #[s, x], argTypes := #[t, t] })
    (B : Nat) (hinfo : (P.info? 5).map (fun i => (i.zero, i.size, i.bytes)) = some (some (.int .u8 0), 1, 1)) (ht : P.underlying t = some (.slice 5))
    (v : Value) (l : List Nat) (hv : a.eval s = v) (h : Wb.Own B w v l) (xv : Value) (m : List Nat) (hx : a.eval x = xv) (hm : Bs w xv m)
    (hmax : l.length + m.length ≤ 140737488355328) (hB : B ≤ w.heap.size)
    (hK : ∀ v' w', Wb.Own B w' v' (l ++ m) → w.grownBy w' v.ownBlock → (v'.ownBlock = v.ownBlock ∨ v'.ownBlock = some w.heap.size) → wpList P ops Q rest (a.put o.dst v') w') : wpList P ops Q (o :: rest) a w := by
  obtain ⟨i0, hi, hz0, hz1, hz2⟩ := info_parts hinfo
  obtain ⟨ao, cap, rfl, hl, hmx, hn, hc⟩ := hm.shape
  cases ao with
  | none =>
    obtain rfl := hn rfl
    have h0 : m = [] := List.eq_nil_of_length_eq_zero (by omega)
    subst h0
    refine wpList_append_own_none hgd s x t ho B 5 i0 1 ht hi v l.length (bv l) hv h.row hx ?_
    exact hK v w (by simpa using h) (World.grownBy.refl _ _) (.inl rfl)
  | some ad =>
    refine wpList_append_own_at w hgd s x t ho B 5 i0 (.int .u8 0) 1 1 ht hi hz0 hz1 hz2 rfl (by decide) v l.length (bv l) hv h.row ad m.length cap (bv m) hx (by rw [bv_length, Nat.mul_one]) ?_ (bv_one m) (by unfold maxLen; omega) (by omega) hB ?_
    · intro j u hj
      have hjl : j < m.length := by have := (List.getElem?_eq_some_iff.1 hj).1; rwa [bv_length] at this
      obtain ⟨b, off, e, hcell⟩ := hc (List.ne_nil_of_length_pos (by omega))
      obtain rfl := Option.some.inj e
      rw [bv_get m j hjl] at hj
      rw [Addr.add_lit, hcell j hjl]
      exact hj
    · intro v' w' h1 h2 _ h4
      refine hK v' w' ⟨?_, ok_append h.good hm.good⟩ h2 h4
      rw [List.length_append, bv_append]
      exact h1
theorem own_slice {B : Nat} {w : World} {v : Value} {l : List Nat} (h : Wb.Own B w v l) : ∃ a, ∃ n c : Nat, v = .slice a n c := by
  obtain ⟨a, c, e, _⟩ := h.bs.shape
  exact ⟨a, _, c, e⟩
def marksB : List Nat := [201, 202, 203, 204, 205]
end Go.Proofs.Ytceokpklcfmadaa
