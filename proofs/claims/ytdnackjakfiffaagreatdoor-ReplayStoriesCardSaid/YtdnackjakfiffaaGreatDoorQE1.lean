import Derived.Laws.AppendOwnNone
import Derived.Maps.AppendAt
import Derived.WalkSpells
import Derived.WalkLawsBesides
import Derived.Test.YtdnackjakfiffaaGreatDoorQL3
/-
  LiftEach: Up hands out memory of its own; a list of records in a row of its own.
-/
namespace Go.Proofs.YtdnackjakfiffaaGreatDoor
open Go Go.RowKit
open Wb

theorem off_own {B : Nat} {w : World} {d : Value} {l : List Nat} (h : Own B w d l) (g : Nat) (hg : g < B) : Off g d l := fun hne b off n cap e => by
  rcases h.shape with ⟨_, h0⟩ | ⟨g', cap', e2, hB, _⟩
  · exact absurd h0 hne
  · rw [e2] at e
    simp only [Value.slice.injEq, Option.some.injEq, Addr.mk.injEq] at e
    omega
theorem upP_zero {to : Int} {r : Rec} (h : (upP to r).1 = 0) : lckE to r = 0 ∧ ¬ to < r.x.v := by
  unfold upP at h
  by_cases h1 : lckE to r = 0
  · rw [if_neg (by simpa using h1)] at h
    by_cases h2 : to < r.x.v
    · rw [if_pos h2] at h
      exact absurd h (by decide)
    · exact ⟨h1, h2⟩
  · rw [if_pos h1] at h
    exact absurd h h1
/-- the cells of a record -/
def rcl (p : Rec × Value) : List Value := [.int .i64 p.1.x.v, .int .i64 p.1.x.k, .int .i64 p.1.x.s, .int .i64 p.1.x.p, .int .i64 p.1.x.t, .int .i64 p.1.x.a, .int .i64 p.1.x.l, .int .i64 p.1.x.c, .int .i64 p.1.x.n, .int .i64 p.1.x.i, .string p.1.nm, p.2]
theorem rcls_len : ∀ ps : List (Rec × Value), (ps.flatMap rcl).length = ps.length * 12
  | [] => rfl
  | p :: ps => by
    rw [List.flatMap_cons, List.length_append, rcls_len ps, List.length_cons]
    show 12 + ps.length * 12 = (ps.length + 1) * 12
    omega
theorem rcls_get : ∀ (ps : List (Rec × Value)) (k : Nat) (h : k < ps.length) (j : Nat), j < 12 → (ps.flatMap rcl)[k * 12 + j]? = (rcl ps[k])[j]?
  | q :: qs, 0, _, j, hj => by
    rw [List.flatMap_cons, List.getElem?_append_left (by show 0 * 12 + j < 12; omega)]
    simp
  | q :: qs, k + 1, h, j, hj => by
    rw [List.flatMap_cons, List.getElem?_append_right (by show 12 ≤ _; omega)]
    have := rcls_get qs k (by simpa using h) j hj
    rw [show (k + 1) * 12 + j - (rcl q).length = k * 12 + j by show (k + 1) * 12 + j - 12 = _; omega]
    simpa using this
/-- records in a row of its own -/
def Outs (B : Nat) (w : World) (v : Value) (ps : List (Rec × Value)) : Prop := w.ownsRow B 32 12 v ps.length (ps.flatMap rcl) ∧ ∀ p ∈ ps, Bs w p.2 p.1.l ∧ ∀ g, v.ownBlock = some g → Off g p.2 p.1.l
theorem Outs.nil (B : Nat) (w : World) : Outs B w (.slice none 0 0) [] := ⟨World.ownsRow_nil _ _ _ _, fun _ h => by cases h⟩
theorem ownsRec_kept {B : Nat} {w w' : World} {v : Value} {n : Nat} {cs : List Value} (h : w.ownsRow B 32 12 v n cs) (hb : Below w.heap.size w w') : w'.ownsRow B 32 12 v n cs := by
  refine ⟨h.1, ?_⟩
  rcases h.2 with h1 | ⟨g, cap, cur, rfl, h1, hg, rest⟩
  · exact .inl h1
  · exact .inr ⟨g, cap, cur, rfl, h1, (hb.block g (Array.getElem?_eq_some_iff.1 hg).1).trans hg, rest⟩
theorem Outs.kept {B : Nat} {w w' : World} {v : Value} {ps : List (Rec × Value)} (h : Outs B w v ps) (hb : Below w.heap.size w w') : Outs B w' v ps := ⟨ownsRec_kept h.1 hb, fun p hp => ⟨(h.2 p hp).1.kept hb, (h.2 p hp).2⟩⟩
theorem Outs.shape {B : Nat} {w : World} {v : Value} {ps : List (Rec × Value)} (h : Outs B w v ps) : ∃ ao cap, v = .slice ao ps.length cap ∧ cap ≤ maxLen ∧ (∀ k, k < ps.length → ∃ g, ao = some ⟨g, 0, none⟩) ∧
    ∀ g, ao = some ⟨g, 0, none⟩ → ∀ k (hk : k < ps.length), w.rangeAt g (k * 12) (rcl ps[k]) := by
  have h0 := h.1
  rcases h.1.2 with ⟨rfl, h1⟩ | ⟨g, cap, cur, rfl, hb, hg, h1, h2, h3, h4⟩
  · exact ⟨none, 0, by rw [h1], by simp [maxLen], fun k hk => by omega, fun g e => by cases e⟩
  · refine ⟨some ⟨g, 0, none⟩, cap, rfl, h2, fun k _ => ⟨g, rfl⟩, fun g' e k hk j u hu => ?_⟩
    obtain rfl : g = g' := by simpa using e
    have hj : j < 12 := (List.getElem?_eq_some_iff.1 hu).1
    have hl := rcls_len ps
    rw [← hu, ← rcls_get ps k hk j hj]
    exact World.ownsRow.cellAt h0 (k * 12 + j) (by rw [Nat.mul_comm]; omega)
/-- bytes elsewhere stay -/
theorem bs_grown {w w' : World} {d : Value} {l : List Nat} {row : Option Nat} (h : Bs w d l) (hg : w.grownBy w' row) (ho : ∀ g, row = some g → Off g d l) : Bs w' d l := by
  obtain ⟨ao, cap, rfl, h1, h2, h3, h4⟩ := h.shape
  refine ⟨⟨ao, cap, rfl, h1, h2, h3, fun hne => ?_⟩, h.good⟩
  obtain ⟨b, off, rfl, hc⟩ := h4 hne
  refine ⟨b, off, rfl, fun j hj => ?_⟩
  have hcj := hc j hj
  rw [← hcj]
  refine World.cell?_of_block (w := w) (hg.block b (World.block_lt_of_cell? w _ hcj) (fun e => ?_))
  exact ho b e.symm hne b off _ _ rfl rfl
theorem infoR12 : (Tryz.prog.info? 32).map (fun i => (i.zero, i.size, i.bytes)) = some (some (.agg #[.int .i64 0, .int .i64 0, .int .i64 0, .int .i64 0, .int .i64 0, .int .i64 0, .int .i64 0, .int .i64 0, .int .i64 0, .int .i64 0, .string ⟨#[]⟩, .slice none 0 0]), 12, 120) := by kernel_rfl
/-- append(v, x) of one record -/
theorem wpList_append_rec {P : Program} (w : World) {ops : Array Oper} {rest : List Oper} {o : Oper} {a : Act} {Q : Exit → Act → World → Prop} (hgd : o.guard = none) (s x : Operand) (t : TypeId)
    (ho : o.op = .call { callee := .builtin .append, args := #[s, x], argTypes := #[t, t] })
    (B : Nat) (hinfo : (P.info? 32).map (fun i => (i.zero, i.size, i.bytes)) = some (some (.agg #[.int .i64 0, .int .i64 0, .int .i64 0, .int .i64 0, .int .i64 0, .int .i64 0, .int .i64 0, .int .i64 0, .int .i64 0, .int .i64 0, .string ⟨#[]⟩, .slice none 0 0]), 12, 120)) (ht : P.underlying t = some (.slice 32))
    (v : Value) (ps : List (Rec × Value)) (q : Rec × Value) (hv : a.eval s = v) (h : Outs B w v ps) (g : Nat) (hx : a.eval x = .slice (some ⟨g, 0, none⟩) 1 1)
    (hc : w.rangeAt g 0 (rcl q)) (hq : q.2.oneCell' = true) (hq2 : Bs w q.2 q.1.l) (hqo : ∀ g, v.ownBlock = some g → Off g q.2 q.1.l)
    (hmax : (ps.length + 1) * 120 ≤ 140737488355328) (hB : B ≤ w.heap.size)
    (hK : ∀ v' w', Outs B w' v' (ps ++ [q]) → Below B w w' → w.grownBy w' v.ownBlock → wpList P ops Q rest (a.put o.dst v') w') : wpList P ops Q (o :: rest) a w := by
  obtain ⟨i0, hi, hz0, hz1, hz2⟩ := Lft.info_parts3 hinfo
  refine wpList_append_own_at w hgd s x t ho B 32 i0 _ 12 120 ht hi hz0 hz1 hz2 rfl (by decide) v ps.length (ps.flatMap rcl) hv h.1 ⟨g, 0, none⟩ 1 1 (rcl q) hx rfl ?_ ?_ (by unfold maxLen; omega) (by omega) hB ?_
  · intro j u hj
    have := hc j u hj
    rw [Addr.add_lit]
    exact this
  · intro u hu
    simp only [rcl, List.mem_cons, List.not_mem_nil, or_false] at hu
    rcases hu with rfl | rfl | rfl | rfl | rfl | rfl | rfl | rfl | rfl | rfl | rfl | rfl
    all_goals first | rfl | exact hq
  · intro v' w' h2 h3 _ h5
    have hown : w'.ownsRow B 32 12 v' (ps ++ [q]).length ((ps ++ [q]).flatMap rcl) := by
      rw [List.length_append, List.flatMap_append]
      simpa using h2
    have hof : ∀ p : Rec × Value, Bs w p.2 p.1.l → (∀ g, v.ownBlock = some g → Off g p.2 p.1.l) → Bs w' p.2 p.1.l ∧ ∀ g, v'.ownBlock = some g → Off g p.2 p.1.l := fun p hb ho => ⟨bs_grown hb h3 ho, fun g hg => by
      rcases h5 with e | e
      · exact ho g (e ▸ hg)
      · rw [e] at hg
        exact off_of hb g (Nat.le_of_eq (Option.some.inj hg))⟩
    refine hK v' w' ⟨hown, fun p hp => ?_⟩ ((Below.refl B w).grown h3 hB (fun k hk => (World.ownsRow.lt h.1 k hk).1)) h3
    rcases List.mem_append.1 hp with hp | hp
    · exact hof p (h.2 p hp).1 (h.2 p hp).2
    · obtain rfl := List.mem_singleton.1 hp
      exact hof _ hq2 hqo
end Go.Proofs.YtdnackjakfiffaaGreatDoor
