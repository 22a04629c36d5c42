import Derived.Maps.AppendAt
import Derived.Test.YtebklbijpdphaaaDoorQO6
/-
  LiftEmpty, LiftOwn: filled.
-/
namespace Go.Proofs.YtebklbijpdphaaaDoor
open Go Go.RowKit
open Wb

/-- at work on one row -/
structure Wk (B : Nat) (d : Value) (ws w : World) : Prop where
  fr : FrD d ws w
  bel : Below B ws w
  sz : B ≤ w.heap.size
theorem Wk.below {B : Nat} {d : Value} {ws w w' : World} (h : Wk B d ws w) (hb : Below w.heap.size w w') : Wk B d ws w' := ⟨h.fr.below hb, h.bel.trans (hb.mono h.sz), Nat.le_trans h.sz hb.size⟩
theorem Wk.grown {B : Nat} {d v : Value} {ws w w' : World} (h : Wk B d ws w) (hg : w.grownBy w' v.ownBlock) (hv : ∀ g, v.ownBlock = some g → d.ownBlock = some g ∨ ws.heap.size ≤ g) (hB : ∀ g, v.ownBlock = some g → B ≤ g) : Wk B d ws w' := ⟨h.fr.grown hg hv, h.bel.trans ((Below.refl B w).grown hg h.sz hB), Nat.le_trans h.sz hg.size⟩
theorem wpList_append_three {P : Program} (w : World) {ops : Array Oper} {rest : List Oper} {o : Oper} {a : Act} {Q : Exit → Act → World → Prop} (hgd : o.guard = none) (s x : Operand) (t : TypeId)
    (ho : o.op = .call { callee := .builtin .append, args := #[s, x], argTypes := #[t, t] })
    (B : Nat) (hinfo : (P.info? 25).map (fun i => (i.zero, i.size, i.bytes)) = some (some (.slice none 0 0), 1, 24)) (ht : P.underlying t = some (.slice 25))
    (v : Value) (n : Nat) (xs : List Value) (hv : a.eval s = v) (h : w.ownsRow B 25 1 v n xs) (x1 x2 x3 : Value) (g : Nat) (hx : a.eval x = .slice (some ⟨g, 0, none⟩) 3 3)
    (hc : w.rangeAt g 0 [x1, x2, x3]) (h1 : x1.oneCell' = true) (h2 : x2.oneCell' = true) (h3 : x3.oneCell' = true) (hmax : (n + 3) * 24 ≤ 140737488355328) (hB : B ≤ w.heap.size)
    (hK : ∀ v' w', w'.ownsRow B 25 1 v' (n + 3) (xs ++ [x1, x2, x3]) → w.grownBy w' v.ownBlock → (v'.ownBlock = v.ownBlock ∨ v'.ownBlock = some w.heap.size) → wpList P ops Q rest (a.put o.dst v') w') : wpList P ops Q (o :: rest) a w := by
  obtain ⟨i0, hi, hz0, hz1, hz2⟩ := Lft.info_parts3 hinfo
  refine wpList_append_own_at w hgd s x t ho B 25 i0 _ 1 24 ht hi hz0 hz1 hz2 rfl (by decide) v n xs hv h ⟨g, 0, none⟩ 3 3 [x1, x2, x3] hx rfl ?_ ?_ (by unfold maxLen; omega) (by omega) hB (fun v' w' a1 a2 _ a4 => hK v' w' a1 a2 a4)
  · intro j u hj
    have := hc j u hj
    rw [Addr.add_lit]
    exact this
  · intro u hu
    simp only [List.mem_cons, List.not_mem_nil, or_false] at hu
    rcases hu with rfl | rfl | rfl
    · exact h1
    · exact h2
    · exact h3
theorem mks_zero (n a t : Nat) : mks n a 0 t = List.replicate n a := by simp [mks]
/-- what filled leaves -/
def FPost (B : Nat) (w : World) (ds : List Value) (c : Nat → List Nat) (e : Ending) (w' : World) : Prop := ∃ vm fs, e = .returned vm ∧ fs.length = ds.length ∧ Fams B w' ds (fun i => (c i).length) fs ∧ w'.ownsRow w.heap.size 25 1 vm (3 * fs.length) (fs.flatMap vw) ∧ Frm ds w w' ∧ Below B w w'
end Go.Proofs.YtebklbijpdphaaaDoor
