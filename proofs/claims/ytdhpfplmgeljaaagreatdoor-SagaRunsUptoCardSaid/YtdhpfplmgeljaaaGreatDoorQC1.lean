import Derived.Test.YtdhpfplmgeljaaaGreatDoorQS2
import Derived.Test.YtdhpfplmgeljaaaGreatDoorQS7
import Derived.Test.YtdhpfplmgeljaaaGreatDoorQE1
namespace Go.Proofs.YtdhpfplmgeljaaaGreatDoor
open Go Go.RowKit
open Wb

def OutT (B : Nat) (w : World) (v : Value) (ps : List (Rec × Value)) : Prop := w.ownsRow B 26 12 v ps.length (ps.flatMap rcl) ∧ ∀ p ∈ ps, Own B w p.2 p.1.l
theorem OutT.nil (B : Nat) (w : World) : OutT B w (.slice none 0 0) [] := ⟨World.ownsRow_nil _ _ _ _, fun _ h => by cases h⟩
theorem OutT.kept {B : Nat} {w w' : World} {v : Value} {ps : List (Rec × Value)} (h : OutT B w v ps) (hb : Below w.heap.size w w') : OutT B w' v ps := ⟨ownsRec_kept h.1 hb, fun p hp => (h.2 p hp).kept hb⟩
theorem rrow_typed {B : Nat} {w : World} {v : Value} {n : Nat} {cs : List Value} (h : w.ownsRow B 26 12 v n cs) (b : Nat) (e : v.ownBlock = some b) : ∃ cs z, w.heap[b]? = some (.cells cs 26 z) := by
  rcases h.2 with ⟨rfl, _⟩ | ⟨g', cap, cur, rfl, _, hg', _⟩
  · simp [Value.ownBlock] at e
  · simp [Value.ownBlock] at e
    subst e
    exact ⟨_, _, hg'⟩
theorem rrow_kept2 {B : Nat} {w w' : World} {v : Value} {n : Nat} {cs : List Value} (h : w.ownsRow B 26 12 v n cs) (hb : ∀ g, v.ownBlock = some g → w'.heap[g]? = w.heap[g]?) : w'.ownsRow B 26 12 v n cs := by
  refine ⟨h.1, ?_⟩
  rcases h.2 with h1 | ⟨g, cap, cur, rfl, h1, hg, rest⟩
  · exact .inl h1
  · exact .inr ⟨g, cap, cur, rfl, h1, (hb g rfl).trans hg, rest⟩
theorem own_typed {B : Nat} {w : World} {d : Value} {l : List Nat} (h : Own B w d l) (b : Nat) (e : d.ownBlock = some b) : ∃ cs z, w.heap[b]? = some (.cells cs 5 z) := by
  rcases h.row.2 with ⟨e3, _⟩ | ⟨g', cap, cur, e3, _, hg', _⟩
  · rw [e3] at e; simp [Value.ownBlock] at e
  · rw [e3] at e; simp [Value.ownBlock] at e; subst e; exact ⟨_, _, hg'⟩
def ExT (t : Nat) (w w' : World) : Prop := ∀ b, b ≠ t → b < w.heap.size → w'.heap[b]? = w.heap[b]?
theorem OutT.but {B : Nat} {w w' : World} {v : Value} {ps : List (Rec × Value)} {t : Nat} {ty : TypeId} {C : List Value} (h : OutT B w v ps) (L : LB w t ty C) (h1 : ty ≠ 26) (h2 : ty ≠ 5) (ho : ExT t w w') : OutT B w' v ps :=
  ⟨rrow_kept2 h.1 fun g e => ho g (by rintro rfl; obtain ⟨cs, z, h9⟩ := rrow_typed h.1 g e; rw [L] at h9; simp at h9; exact h1 h9.2.1) (World.ownsRow.lt h.1 g e).2,
   fun p hp => own_keptB (h.2 p hp) fun g e => ho g (by rintro rfl; obtain ⟨cs, z, h9⟩ := own_typed (h.2 p hp) g e; rw [L] at h9; simp at h9; exact h2 h9.2.1) (own_block (h.2 p hp) g e).2⟩
def Fr (t : Nat) (w w' : World) : Prop := ∀ b ty C, b ≠ t → ty ≠ 26 → LB w b ty C → LB w' b ty C
theorem Fr.trans {t : Nat} {w w' w'' : World} (h : Fr t w w') (h2 : Fr t w' w'') : Fr t w w'' := fun b ty C h1 h3 h4 => h2 b ty C h1 h3 (h b ty C h1 h3 h4)
theorem Fr.below {t : Nat} {w w' : World} (h : Below w.heap.size w w') : Fr t w w' := fun _ _ _ _ _ h4 => h4.kept h
theorem Fr.ext {t : Nat} {w w' : World} (h : ExT t w w') : Fr t w w' := fun b _ _ h1 _ h4 => (h b h1 h4.lt).trans h4
theorem step_append_rec {P : Program} {ops : Array Oper} {o : Oper} {a : Act} {w : World} {K : Act → World → Prop} {Q : Exit → Act → World → Prop} {E : Prop} (hgd : o.guard = none) (s x : Operand) (t : TypeId)
    (ho : o.op = .call { callee := .builtin .append, args := #[s, x], argTypes := #[t, t] })
    (B : Nat) (hinfo : (P.info? 26).map (fun i => (i.zero, i.size, i.bytes)) = some (some (.agg #[.int .i64 0, .int .i64 0, .int .i64 0, .int .i64 0, .int .i64 0, .int .i64 0, .int .i64 0, .int .i64 0, .int .i64 0, .int .i64 0, .string ⟨#[]⟩, .slice none 0 0]), 12, 120)) (ht : P.underlying t = some (.slice 26))
    (v : Value) (ps : List (Rec × Value)) (q : Rec × Value) (hv : a.eval s = v) (h : OutT B w v ps) (g : Nat) (hx : a.eval x = .slice (some ⟨g, 0, none⟩) 1 1)
    (hc : w.rangeAt g 0 (rcl q)) (hq2 : Own B w q.2 q.1.l)
    (hmax : (ps.length + 1) * 120 ≤ 140737488355328) (hB : B ≤ w.heap.size)
    (hK : ∀ v' w', OutT B w' v' (ps ++ [q]) → Below B w w' → w.grownBy w' v.ownBlock → K (a.put o.dst v') w') :
    if Region.wanted o (yielded ops a.tmps) = true then Oper.wp P o a w K Q else E := by
  have hw : Region.wanted o (yielded ops a.tmps) = true := by simp [Region.wanted, hgd]
  rw [if_pos hw]
  obtain ⟨i0, hi, hz0, hz1, hz2⟩ := Lft.info_parts3 hinfo
  have hq : q.2.oneCell' = true := by rcases hq2.shape with ⟨e, _⟩ | ⟨_, _, e, _⟩ <;> (rw [e]; rfl)
  obtain ⟨v', w', hrun, h2, h3, _⟩ := run_append_own (P := P) w B t o.type 26 i0 _ 12 120 ht hi hz0 hz1 hz2 rfl (by decide) v ps.length (ps.flatMap rcl) h.1 ⟨g, 0, none⟩ 1 1 (rcl q) rfl (by
    intro j u hj
    have := hc j u hj
    rw [Addr.add_lit]
    exact this) (by
    intro u hu
    simp only [rcl, List.mem_cons, List.not_mem_nil, or_false] at hu
    rcases hu with rfl | rfl | rfl | rfl | rfl | rfl | rfl | rfl | rfl | rfl | rfl | rfl
    all_goals first | rfl | exact hq) (by unfold maxLen; omega) (by omega) hB
  unfold Oper.wp
  simp [execOp, ho, resolve, invoke, builtin, hv, hx, hrun, Result.andThen]
  have hown : w'.ownsRow B 26 12 v' (ps ++ [q]).length ((ps ++ [q]).flatMap rcl) := by
    rw [List.length_append, List.flatMap_append]
    simpa using h2
  have hne : ∀ (d : Value) (l : List Nat), Own B w d l → Own B w' d l := fun d l hd => own_keptB hd fun b e => h3.block b (own_block hd b e).2 fun e2 => by
    obtain ⟨cs, z, h8⟩ := own_typed hd b e
    obtain ⟨cs', z', h9⟩ := rrow_typed h.1 b e2.symm
    rw [h8] at h9
    simp at h9
  refine hK v' w' ⟨hown, fun p hp => ?_⟩ ((Below.refl B w).grown h3 hB (fun k hk => (World.ownsRow.lt h.1 k hk).1)) h3
  rcases List.mem_append.1 hp with hp | hp
  · exact hne _ _ (h.2 p hp)
  · obtain rfl := List.mem_singleton.1 hp
    exact hne _ _ hq2
def told (S : Sg) (r : Rec) : Rec := ⟨{ r.x with v := 3, s := S.x.id, a := S.x.la }, r.nm, r.l⟩
def TellPost (B t : Nat) (S : Sg) (h : SH) (ps : List (Rec × Value)) (q : Rec) (w : World) (e : Ending) (w' : World) : Prop := ∃ v' d', e = .returned (.tuple #[]) ∧ LB w' t 129 (scl S h ++ [v']) ∧ OutT B w' v' (ps ++ [(q, d')]) ∧ Below B w w' ∧ Fr t w w'
end Go.Proofs.YtdhpfplmgeljaaaGreatDoor
