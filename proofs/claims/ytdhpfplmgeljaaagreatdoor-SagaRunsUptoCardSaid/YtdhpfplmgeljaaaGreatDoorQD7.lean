import Derived.Test.YtdhpfplmgeljaaaGreatDoorQS2
import Derived.Test.YtdhpfplmgeljaaaGreatDoorQD3
import Derived.Test.YtdhpfplmgeljaaaGreatDoorQC1
import Derived.Test.YtdhpfplmgeljaaaGreatDoorQS1
import Derived.Test.YtdhpfplmgeljaaaGreatDoorQSM
import Derived.Test.YtdhpfplmgeljaaaGreatDoorQSY
namespace Go.Proofs.YtdhpfplmgeljaaaGreatDoor
open Go Go.RowKit
open Wb

theorem wpList_append_recT {P : Program} {ops : Array Oper} {rest : List Oper} {o : Oper} {a : Act} {w : World} {Q : Exit → Act → World → Prop} (hgd : o.guard = none) (s x : Operand) (t : TypeId)
    (ho : o.op = .call { callee := .builtin .append, args := #[s, x], argTypes := #[t, t] })
    (B : Nat) (hinfo : (P.info? 26).map (fun i => (i.zero, i.size, i.bytes)) = some (some (.agg #[.int .i64 0, .int .i64 0, .int .i64 0, .int .i64 0, .int .i64 0, .int .i64 0, .int .i64 0, .int .i64 0, .int .i64 0, .int .i64 0, .string ⟨#[]⟩, .slice none 0 0]), 12, 120)) (ht : P.underlying t = some (.slice 26))
    (v : Value) (ps : List (Rec × Value)) (q : Rec × Value) (hv : a.eval s = v) (h : OutT B w v ps) (g : Nat) (hx : a.eval x = .slice (some ⟨g, 0, none⟩) 1 1)
    (hc : w.rangeAt g 0 (rcl q)) (hq2 : Own B w q.2 q.1.l)
    (hmax : (ps.length + 1) * 120 ≤ 140737488355328) (hB : B ≤ w.heap.size)
    (hK : ∀ v' w', OutT B w' v' (ps ++ [q]) → Below B w w' → w.grownBy w' v.ownBlock → wpList P ops Q rest (a.put o.dst v') w') : wpList P ops Q (o :: rest) a w :=
  wpList_step fun _ hKK => step_append_rec hgd s x t ho B hinfo ht v ps q hv h g hx hc hq2 hmax hB fun v' w' h1 h2 h3 => hKK _ _ (hK v' w' h1 h2 h3)
theorem trR_step (S : Sg) (kk p : Int) (m n : Nat) : trL S kk p m (n + 1) = stR S kk p ((m : Int) + 1) 0 0 [] :: ((if n ≠ 0 ∨ S.x.fl = false then [stR S 4 p 0 0 0 []] else []) ++ trL S kk p (m + 1) n) := rfl
theorem lb_grown {w w' : World} {B b : Nat} {ty : TypeId} {C : List Value} {v : Value} {ps : List (Rec × Value)} (L : LB w b ty C) (h : OutT B w v ps) (hg : w.grownBy w' v.ownBlock) (hty : ty ≠ 26) : LB w' b ty C := (hg.block b L.lt (fun e => by
  obtain ⟨cs, z, h9⟩ := rrow_typed h.1 b e.symm
  rw [L] at h9
  simp at h9
  exact hty h9.2.1)).trans L
theorem step_load {P : Program} {ops : Array Oper} {o : Oper} {a : Act} {w : World} {K : Act → World → Prop} {Q : Exit → Act → World → Prop} {E : Prop} (hgd : o.guard = none) (ty : TypeId) (x : Operand) (ho : o.op = .load ty x)
    (b f : Nat) (hx : a.eval x = .pointer (some ⟨b, f, none⟩)) (cs : List Value) (d : TypeDesc) (hc : w.rangeAt b f cs) (hu : P.underlying ty = some d) (hd : d.isRow = true) (hi : (P.info? ty).map (·.size) = some cs.length)
    (h : K (a.put o.dst (.agg cs.toArray)) w) : if Region.wanted o (yielded ops a.tmps) = true then Oper.wp P o a w K Q else E := by
  rw [if_pos (by simp [Region.wanted, hgd])]
  exact wp_load_mid ty x ho b f hx cs d hc hu hd hi h
theorem OutT.at {B : Nat} {w : World} {v : Value} {ps : List (Rec × Value)} (h : OutT B w v ps) : ∃ ao cap, v = .slice ao ps.length cap ∧ ∀ k (hk : k < ps.length), ∃ g, ao = some ⟨g, 0, none⟩ ∧ w.rangeAt g (k * 12) (rcl ps[k]) ∧ Bs w ps[k].2 ps[k].1.l := by
  have h0 := h.1
  rcases h.1.2 with ⟨rfl, h1⟩ | ⟨g, cap, cur, rfl, hb, hg, h1, h2, h3, h4⟩
  · exact ⟨none, 0, by rw [h1], fun k hk => by omega⟩
  · refine ⟨some ⟨g, 0, none⟩, cap, rfl, fun k hk => ⟨g, rfl, fun j u hu => ?_, (h.2 _ (List.getElem_mem hk)).bs⟩⟩
    have hj : j < 12 := (List.getElem?_eq_some_iff.1 hu).1
    have hl := rcls_len ps
    rw [← hu, ← rcls_get ps k hk j hj]
    exact World.ownsRow.cellAt h0 (k * 12 + j) (by rw [Nat.mul_comm]; omega)
theorem v3_stB (S : Sg) (h : chkS S = true) : V3 (stB S) ∧ (stB S).x.fit := by
  obtain ⟨⟨b1, b2, b3, b4, b5, b6, b7, b8, b9, b10, b11⟩, h1⟩ := (chkS_iff S).1 h
  have hv : V3 (stB S) := ⟨b2.1, b5.1, b5.2, .inl ⟨rfl, rfl, rfl, rfl, rfl, b3.1, b3.2, b4.1, b4.2, by show lab S.nm = 0; unfold lab; rw [if_pos b1], b8⟩⟩
  exact ⟨hv, fit_v3 _ hv b2.2⟩
theorem begin_stB (S : Sg) (h : chkS S = true) : beginP (stB S) = (0, stO S S.x.beg 0) := by
  unfold beginP
  rw [up_v3 _ (v3_stB S h).1 rfl, if_neg (by simp), if_neg (by simp [stB])]
  simp [stO, stB]
theorem story_rec {S : Sg} {ps : List (Rec × Value)} (hm : ps.map Prod.fst = storyP S) (n : Nat) (hn : n < ps.length) : (storyP S).drop n = ps[n].1 :: (storyP S).drop (n + 1) := by
  have h1 : n < (storyP S).length := by rw [← hm]; simpa using hn
  rw [List.drop_eq_getElem_cons h1]
  congr 1
  simp [← hm]
theorem OutT.weak {B B2 : Nat} {w : World} {v : Value} {ps : List (Rec × Value)} (h : OutT B2 w v ps) (hB : B ≤ B2) : OutT B w v ps := by
  refine ⟨⟨h.1.1, ?_⟩, fun p hp => own_weak (h.2 p hp) hB⟩
  rcases h.1.2 with h1 | ⟨g, cap, cur, e, hb, rest⟩
  · exact .inl h1
  · exact .inr ⟨g, cap, cur, e, Nat.le_trans hB hb, rest⟩
theorem sgo_oth {B : Nat} {w w' : World} {S : Sg} {h : SH} {g : Nat} {C : List Value} (k : SgO B w S h) (L : LB w g 29 C) (ho : Oth g w w') : SgO B w' S h := k.oth L (by decide) (by decide) ho
def LX (w : World) (v : Value) (ps : List (Rec × Value)) (D : List Value) (q : Nat) (Q : Sg) (hq : SH) (wr : World) : Prop := LB wr q 29 (scl Q hq) ∧ SgO 0 wr Q hq ∧ OutT 0 wr v ps ∧ LB wr w.heap.size 29 D ∧ Below w.heap.size w wr ∧ w.heap.size < q
theorem LX.kept {w wr wr' : World} {v : Value} {ps : List (Rec × Value)} {D : List Value} {q : Nat} {Q : Sg} {hq : SH} (k : LX w v ps D q Q hq wr) (b : Below wr.heap.size wr wr') : LX w v ps D q Q hq wr' := ⟨k.1.kept b, k.2.1.kept b, k.2.2.1.kept b, k.2.2.2.1.kept b, andThen k.2.2.2.2.1 b, k.2.2.2.2.2⟩
theorem LX.put {w wr : World} {v : Value} {ps : List (Rec × Value)} {D : List Value} {q : Nat} {Q Q2 : Sg} {hq h2 : SH} (k : LX w v ps D q Q hq wr) (o : SgO 0 wr Q2 h2) : LX w v ps D q Q2 h2 (wr.setCells q 0 (scl Q2 h2)) :=
  ⟨k.1.sets _ rfl, sgo_oth o k.1 (Oth.sets _ _ _ _), k.2.2.1.but k.1 (by decide) (by decide) (Oth.sets _ _ _ _), k.2.2.2.1.others _ _ _ (by have := k.2.2.2.2.2; omega), below_cells (by have := k.2.2.2.2.2; omega) _ 0 _ k.2.2.2.2.1, k.2.2.2.2.2⟩
theorem play_step (Q S : Sg) (r : Rec) (rs : List Rec) (hc : chkS Q = true) (hl : Leads Q (r :: rs) S) : V3 r ∧ r.x.v = 3 ∧ refP Q.x r.x = 0 ∧ chkS (deedS Q r) = true ∧ r.nm.size ≤ 1048576 ∧ r.x.fit ∧ Leads (deedS Q r) rs S := by
  obtain ⟨hv, h3, h0, h4⟩ := hl
  have hz := ref_zero h0
  obtain ⟨⟨_, b2, _⟩, _⟩ := (chkS_iff Q).1 hc
  refine ⟨hv, h3, h0, chkS_deed Q r hc hv h0, ?_, fit_v3 r hv (by rw [hz.1]; exact b2.2), h4⟩
  have hn := hv
  obtain ⟨_, _, _, h1 | h1 | h1 | h1 | h1⟩ := hn
  · exact absurd h1.1 hz.2.1
  · rw [h1.2.2.2.2.2.2.2.2.2.1]; decide
  · rw [h1.2.2.2.2.2.2.2.2.1]; decide
  · rw [h1.2.2.2.2.2.2.2.2.2.2.1]; decide
  · rw [h1.2.2.2.2.2.2.2.2.1]; decide
end Go.Proofs.YtdhpfplmgeljaaaGreatDoor
