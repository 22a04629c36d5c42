/-
  annalsref5: Sorted, All of a list that is sorted.
-/
import Derived.Test.YtceokpklcfmadaaIxn
namespace Go.Proofs.Ytceokpklcfmadaa
open Go Go.RowKit Go.ChangeShapes
open Wb

def enP (p : Int × Int) : List Value := [.int .i64 p.1, .int .i64 p.2]
theorem flat_len (ps : List (Int × Int)) : (ps.flatMap enP).length = ps.length * 2 := by
  induction ps with
  | nil => rfl
  | cons p r ih =>
    rw [List.flatMap_cons, List.length_append, ih]
    simp [enP]
    omega
theorem flat_at : ∀ (ps : List (Int × Int)) (j : Nat) (h : j < ps.length), (ps.flatMap enP)[j * 2]? = some (.int .i64 ps[j].1) ∧ (ps.flatMap enP)[j * 2 + 1]? = some (.int .i64 ps[j].2)
  | p :: r, 0, _ => by simp [enP]
  | p :: r, j + 1, h => by
    have ih := flat_at r j (by simpa using h)
    rw [List.flatMap_cons]
    have e1 : (j + 1) * 2 = j * 2 + 2 := by omega
    have e2 : (enP p).length = 2 := rfl
    rw [e1, List.getElem?_append_right (by rw [e2]; omega), List.getElem?_append_right (by rw [e2]; omega), e2]
    have e3 : j * 2 + 2 - 2 = j * 2 := by omega
    have e4 : j * 2 + 2 + 1 - 2 = j * 2 + 1 := by omega
    rw [e3, e4]
    simpa using ih
theorem Pr.of {w : World} {base : Nat} {e : TypeId} {v : Value} {ps : List (Int × Int)} (h : w.ownsRow base e 2 v ps.length (ps.flatMap enP)) : Pr w v ps := by
  rcases h.2 with ⟨rfl, h0⟩ | ⟨g, cap, cur, rfl, -, hh, h1, h2, h3, h4⟩
  · obtain rfl := List.length_eq_zero_iff.1 h0
    exact ⟨none, 0, rfl, by simp, by simp [maxLen], fun e => absurd rfl e⟩
  · refine ⟨some ⟨g, 0, none⟩, cap, rfl, h1, h2, fun _ => ⟨g, 0, rfl, fun j hj => ?_⟩⟩
    have h5 := flat_at ps j hj
    rw [← h4, List.getElem?_take_of_lt (by omega), List.getElem?_take_of_lt (by omega)] at h5
    rw [Nat.zero_add]
    unfold World.cell?
    simp [hh]
    simpa using h5
theorem set_same {w : World} {g o : Nat} {v : Value} (h : w.cell? ⟨g, o, none⟩ = some v) : w.setCell ⟨g, o, none⟩ v = w := by
  unfold World.cell? at h
  unfold World.setCell
  have e : (w.heap.modify g fun
      | .cells c elem frozen => .cells (if (none : Option Nat).isSome then c else c.setIfInBounds o v) elem frozen
      | o => o) = w.heap := by
    apply Array.ext_getElem?
    intro i
    rw [Array.getElem?_modify]
    split
    · rename_i hi
      subst hi
      cases hg : w.heap[g]? with
      | none => rfl
      | some ob =>
        rw [hg] at h
        cases ob with
        | cells c t fr =>
          simp at h ⊢
          apply Array.ext_getElem?
          intro j
          rw [Array.getElem?_setIfInBounds]
          split
          · rename_i hj
            subst hj
            split
            · exact h.symm
            · rename_i hlt
              rw [Array.getElem?_eq_none (by omega)] at h
              cases h
          · rfl
        | _ => rfl
    · rfl
  exact congrArg (fun x => { w with heap := x }) e
theorem infoP : (Try.prog.info? 54).map (fun i => (i.zero, i.size, i.bytes)) = some (some (.agg #[.int .i64 0, .int .i64 0]), 2, 16) := by kernel_rfl
/-- append of one pair -/
theorem wpList_appP {P : Program} (w : World) {ops : Array Oper} {rest : List Oper} {o : Oper} {a : Act} {Q : Exit → Act → World → Prop} (hgd : o.guard = none) (s x : Operand) (t : TypeId)
    (ho : o.op = .call { callee := .builtin .append, args := #[s, x], argTypes := #[t, t] })
    (B : Nat) (hinfo : (P.info? 54).map (fun i => (i.zero, i.size, i.bytes)) = some (some (.agg #[.int .i64 0, .int .i64 0]), 2, 16)) (ht : P.underlying t = some (.slice 54))
    (v : Value) (ps : List (Int × Int)) (hv : a.eval s = v) (h : w.ownsRow B 54 2 v ps.length (ps.flatMap enP)) (g c : Nat) (p : Int × Int) (hx : a.eval x = .slice (some ⟨g, 0, none⟩) 1 c)
    (hc : w.rangeAt g 0 (enP p)) (hmax : ps.length ≤ 100000000) (hB : B ≤ w.heap.size)
    (hK : ∀ v' w', w'.ownsRow B 54 2 v' (ps ++ [p]).length ((ps ++ [p]).flatMap enP) → w.grownBy w' v.ownBlock → wpList P ops Q rest (a.put o.dst v') w') : wpList P ops Q (o :: rest) a w := by
  obtain ⟨i0, hi, hq⟩ := Option.map_eq_some_iff.1 hinfo
  simp only [Prod.mk.injEq] at hq
  obtain ⟨v', w', hrun, h2, h3, _⟩ := run_append_own (P := P) w B t o.type 54 i0 _ 2 16 ht hi hq.1 hq.2.1 hq.2.2 rfl (by decide) v ps.length _ h ⟨g, 0, none⟩ 1 c (enP p) rfl (fun j u hj => by
    have := hc j u hj
    rw [Addr.add_lit]
    exact this) (fun u hu => by simp [enP] at hu; rcases hu with rfl | rfl <;> rfl) (by unfold maxLen; omega) (by omega) hB
  refine wpList_plain hgd fun _ hK' => ?_
  unfold Oper.wp
  simp [execOp, ho, resolve, invoke, builtin, hv, hx, hrun, Result.andThen]
  refine hK' _ _ (hK v' w' ?_ h3)
  rw [List.length_append, List.flatMap_append]
  simpa using h2
end Go.Proofs.Ytceokpklcfmadaa
