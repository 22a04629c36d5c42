import Derived.Laws.AppendOwnNone
import Derived.Maps.AppendAt
import Derived.WalkSpells
import Derived.WalkLawsBesides
import Derived.Test.YtdhpfplmgeljaaaGreatDoorQL3
namespace Go.Proofs.YtdhpfplmgeljaaaGreatDoor
open Go Go.RowKit
open Wb

theorem off_own {B : Nat} {w : World} {d : Value} {l : List Nat} (h : Own B w d l) (g : Nat) (hg : g < B) : Off g d l := fun hne b off n cap e => by
  rcases h.shape with ⟨_, h0⟩ | ⟨g', cap', e2, hB, _⟩
  · exact absurd h0 hne
  · rw [e2] at e
    simp only [Value.slice.injEq, Option.some.injEq, Addr.mk.injEq] at e
    omega
def rcl (p : Rec × Value) : List Value := [.int .i64 p.1.x.v, .int .i64 p.1.x.k, .int .i64 p.1.x.s, .int .i64 p.1.x.p, .int .i64 p.1.x.t, .int .i64 p.1.x.a, .int .i64 p.1.x.l, .int .i64 p.1.x.c, .int .i64 p.1.x.n, .int .i64 p.1.x.i, .string p.1.nm, p.2]
theorem rcls_len : ∀ ps : List (Rec × Value), (ps.flatMap rcl).length = ps.length * 12
  | [] => rfl
  | p :: ps => by
    rw [List.flatMap_cons, List.length_append, rcls_len ps, List.length_cons]
    show 12 + ps.length * 12 = (ps.length + 1) * 12
    omega
theorem rcls_get : ∀ (ps : List (Rec × Value)) (k : Nat) (h : k < ps.length) (j : Nat), j < 12 → (ps.flatMap rcl)[k * 12 + j]? = (rcl ps[k])[j]?
  | q :: qs, 0, _, j, hj => by
    rw [List.flatMap_cons, List.getElem?_append_left (by show 0 * 12 + j < 12; omega)]
    simp
  | q :: qs, k + 1, h, j, hj => by
    rw [List.flatMap_cons, List.getElem?_append_right (by show 12 ≤ _; omega)]
    have := rcls_get qs k (by simpa using h) j hj
    rw [show (k + 1) * 12 + j - (rcl q).length = k * 12 + j by show (k + 1) * 12 + j - 12 = _; omega]
    simpa using this
def Outs (B : Nat) (w : World) (v : Value) (ps : List (Rec × Value)) : Prop := w.ownsRow B 26 12 v ps.length (ps.flatMap rcl) ∧ ∀ p ∈ ps, Bs w p.2 p.1.l ∧ ∀ g, v.ownBlock = some g → Off g p.2 p.1.l
theorem Outs.nil (B : Nat) (w : World) : Outs B w (.slice none 0 0) [] := ⟨World.ownsRow_nil _ _ _ _, fun _ h => by cases h⟩
theorem ownsRec_kept {B : Nat} {w w' : World} {v : Value} {n : Nat} {cs : List Value} (h : w.ownsRow B 26 12 v n cs) (hb : Below w.heap.size w w') : w'.ownsRow B 26 12 v n cs := by
  refine ⟨h.1, ?_⟩
  rcases h.2 with h1 | ⟨g, cap, cur, rfl, h1, hg, rest⟩
  · exact .inl h1
  · exact .inr ⟨g, cap, cur, rfl, h1, (hb.block g (Array.getElem?_eq_some_iff.1 hg).1).trans hg, rest⟩
theorem Outs.kept {B : Nat} {w w' : World} {v : Value} {ps : List (Rec × Value)} (h : Outs B w v ps) (hb : Below w.heap.size w w') : Outs B w' v ps := ⟨ownsRec_kept h.1 hb, fun p hp => ⟨(h.2 p hp).1.kept hb, (h.2 p hp).2⟩⟩
theorem Outs.shape {B : Nat} {w : World} {v : Value} {ps : List (Rec × Value)} (h : Outs B w v ps) : ∃ ao cap, v = .slice ao ps.length cap ∧ cap ≤ maxLen ∧ (∀ k, k < ps.length → ∃ g, ao = some ⟨g, 0, none⟩) ∧
    ∀ g, ao = some ⟨g, 0, none⟩ → ∀ k (hk : k < ps.length), w.rangeAt g (k * 12) (rcl ps[k]) := by
  have h0 := h.1
  rcases h.1.2 with ⟨rfl, h1⟩ | ⟨g, cap, cur, rfl, hb, hg, h1, h2, h3, h4⟩
  · exact ⟨none, 0, by rw [h1], by simp [maxLen], fun k hk => by omega, fun g e => by cases e⟩
  · refine ⟨some ⟨g, 0, none⟩, cap, rfl, h2, fun k _ => ⟨g, rfl⟩, fun g' e k hk j u hu => ?_⟩
    obtain rfl : g = g' := by simpa using e
    have hj : j < 12 := (List.getElem?_eq_some_iff.1 hu).1
    have hl := rcls_len ps
    rw [← hu, ← rcls_get ps k hk j hj]
    exact World.ownsRow.cellAt h0 (k * 12 + j) (by rw [Nat.mul_comm]; omega)
theorem infoR12 : (Tryz.prog.info? 26).map (fun i => (i.zero, i.size, i.bytes)) = some (some (.agg #[.int .i64 0, .int .i64 0, .int .i64 0, .int .i64 0, .int .i64 0, .int .i64 0, .int .i64 0, .int .i64 0, .int .i64 0, .int .i64 0, .string ⟨#[]⟩, .slice none 0 0]), 12, 120) := by kernel_rfl
end Go.Proofs.YtdhpfplmgeljaaaGreatDoor
