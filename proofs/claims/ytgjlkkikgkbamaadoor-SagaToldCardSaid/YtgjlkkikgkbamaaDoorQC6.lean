import Derived.Test.YtgjlkkikgkbamaaDoorQC3
import Derived.Test.YtgjlkkikgkbamaaDoorQSM
import Derived.Test.YtgjlkkikgkbamaaDoorQSY
import Derived.Test.YtgjlkkikgkbamaaDoorQSO
/-
  SagaTold: pieces.
-/
namespace Go.Proofs.YtgjlkkikgkbamaaDoor
open Go Go.RowKit
open Wb

/-- a load as a step of a drawn region -/
theorem step_load {P : Program} {ops : Array Oper} {o : Oper} {a : Act} {w : World} {K : Act → World → Prop} {Q : Exit → Act → World → Prop} {E : Prop} (hgd : o.guard = none) (ty : TypeId) (x : Operand) (ho : o.op = .load ty x)
    (b f : Nat) (hx : a.eval x = .pointer (some ⟨b, f, none⟩)) (cs : List Value) (d : TypeDesc) (hc : w.rangeAt b f cs) (hu : P.underlying ty = some d) (hd : d.isRow = true) (hi : (P.info? ty).map (·.size) = some cs.length)
    (h : K (a.put o.dst (.agg cs.toArray)) w) : if Region.wanted o (yielded ops a.tmps) = true then Oper.wp P o a w K Q else E := by
  rw [if_pos (by simp [Region.wanted, hgd])]
  exact wp_load_mid ty x ho b f hx cs d hc hu hd hi h
/-- a store as a step of a drawn region -/
theorem step_storeT {P : Program} {ops : Array Oper} {o : Oper} {a : Act} {w : World} {K : Act → World → Prop} {Q : Exit → Act → World → Prop} {E : Prop} (hgd : o.guard = none) (ty : TypeId) (x y : Operand) (ho : o.op = .store ty x y)
    (b f : Nat) (cells : Array Value) (hx : a.eval x = .pointer (some ⟨b, f, none⟩)) (hy : a.eval y = .agg cells) (ht : w.there b f cells.size) (hi : (P.info? ty).map (·.size) = some cells.size) (h1 : cells.all (·.oneCell') = true)
    (h : K (a.put o.dst undef) (w.setCells b f cells.toList)) : if Region.wanted o (yielded ops a.tmps) = true then Oper.wp P o a w K Q else E := by
  rw [if_pos (by simp [Region.wanted, hgd])]
  exact wp_store_mid ty x y ho b f cells hx hy ht hi h1 h
theorem OutT.at {B : Nat} {w : World} {v : Value} {ps : List (Rec × Value)} (h : OutT B w v ps) : ∃ ao cap, v = .slice ao ps.length cap ∧ ∀ k (hk : k < ps.length), ∃ g, ao = some ⟨g, 0, none⟩ ∧ w.rangeAt g (k * 12) (rcl ps[k]) ∧ Bs w ps[k].2 ps[k].1.l := by
  have h0 := h.1
  rcases h.1.2 with ⟨rfl, h1⟩ | ⟨g, cap, cur, rfl, hb, hg, h1, h2, h3, h4⟩
  · exact ⟨none, 0, by rw [h1], fun k hk => by omega⟩
  · refine ⟨some ⟨g, 0, none⟩, cap, rfl, fun k hk => ⟨g, rfl, fun j u hu => ?_, (h.2 _ (List.getElem_mem hk)).bs⟩⟩
    have hj : j < 12 := (List.getElem?_eq_some_iff.1 hu).1
    have hl := rcls_len ps
    rw [← hu, ← rcls_get ps k hk j hj]
    exact World.ownsRow.cellAt h0 (k * 12 + j) (by rw [Nat.mul_comm]; omega)
theorem v3_stB (S : Sg) (h : chkS S = true) : V3 (stB S) ∧ (stB S).x.fit := by
  obtain ⟨⟨b1, b2, b3, b4, b5, b6, b7, b8, b9, b10, b11⟩, h1⟩ := (chkS_iff S).1 h
  have hv : V3 (stB S) := ⟨b2.1, b5.1, b5.2, .inl ⟨rfl, rfl, rfl, rfl, rfl, b3.1, b3.2, b4.1, b4.2, by show lab S.nm = 0; unfold lab; rw [if_pos b1], b8⟩⟩
  exact ⟨hv, fit_v3 _ hv b2.2⟩
theorem begin_stB (S : Sg) (h : chkS S = true) : beginP (stB S) = (0, stO S S.x.beg 0) := by
  unfold beginP
  rw [up_v3 _ (v3_stB S h).1 rfl, if_neg (by simp), if_neg (by simp [stB])]
  simp [stO, stB]
theorem deed_nm (S : Sg) (r : Rec) : (deedS S r).nm = S.nm := by
  unfold deedS
  repeat' split
  all_goals rfl
theorem v3_nm (r : Rec) (h : V3 r) (hk : r.x.k ≠ 1) : r.nm.size ≤ 140737488355000 := by
  obtain ⟨_, _, _, h1 | h1 | h1 | h1 | h1⟩ := h
  · exact absurd h1.1 hk
  · rw [h1.2.2.2.2.2.2.2.2.2.1]; decide
  · rw [h1.2.2.2.2.2.2.2.2.1]; decide
  · rw [h1.2.2.2.2.2.2.2.2.2.2.1]; decide
  · rw [h1.2.2.2.2.2.2.2.2.1]; decide
theorem story_sg1 : storyP sg1 = [rec1] := rfl
/-- the first saga's story -/
theorem story_first (h1 : SH) (w : World) (k : SgAt w sg1 h1) (hT : Text.TabP 3 .i32 Text.Tx.lets w) : Calls Tryd.prog 19 #[sv sg1 h1] w fun e w'' => ∃ g cap d1, e = .returned (.tuple #[.slice (some ⟨g, 0, none⟩) 1 cap, .int .i64 0]) ∧ w''.rangeAt g 0 (rcl (rec1, d1)) ∧ Bs w'' d1 rec1.l ∧ Below w.heap.size w w'' :=
  (story_ok sg1 h1 w k hT (by decide) sg1_good.1).mono fun e w'' ⟨v, ps, he, ho, hm, hb''⟩ => by
    rw [story_sg1] at hm
    obtain ⟨p, rfl, hp⟩ := List.map_eq_singleton_iff.1 hm
    obtain ⟨ao, cap, rfl, hk⟩ := ho.at
    obtain ⟨g, rfl, q1, q2⟩ := hk 0 (by simp)
    obtain ⟨p1, p2⟩ := p
    obtain rfl : p1 = rec1 := hp
    exact ⟨g, cap, p2, he, by simpa using q1, q2, hb''⟩
theorem apply_good2 (S : Sg) (r : Rec) (hok : ok r.l) (h : (applyP S r).1 = 0) : ∃ u : Rec, V3 u ∧ refP S.x u.x = 0 ∧ (applyP S r).2 = deedS S u := by
  unfold applyP at h ⊢
  cases hc : chkS S with
  | false => rw [hc, if_pos rfl] at h; simp at h
  | true =>
    rw [hc, if_neg (by simp)] at h
    rw [if_neg (by simp)]
    by_cases h1 : (upP 3 r).1 = 0
    · rw [if_neg (by simpa using h1)] at h ⊢
      by_cases h2 : refP S.x (upP 3 r).2.x = 0
      · rw [if_neg (by simpa using h2)]
        exact ⟨_, (up3 r hok h1).1, h2, rfl⟩
      · rw [if_pos h2] at h; exact absurd h h2
    · rw [if_pos h1] at h; exact absurd h h1
theorem story_len (S : Sg) (h : chkS S = true) : (storyP S).length ≤ 3000 := by
  obtain ⟨q1, q2, q3, q4, _⟩ := story_bnds S h
  have h1 := failL_len S
  have h2 := trL_len S (trK S) S.x.turn S.x.tr.toNat 0
  have h3 : (endL S).length ≤ 1 := by unfold endL; split <;> simp
  simp only [storyP, storyT, List.length_cons, List.length_append, outL_len]
  omega
/-- a record of the story, where it lies -/
theorem story_rec {S : Sg} {ps : List (Rec × Value)} (hm : ps.map Prod.fst = storyP S) (n : Nat) (hn : n < ps.length) : (storyP S).drop n = ps[n].1 :: (storyP S).drop (n + 1) := by
  have h1 : n < (storyP S).length := by rw [← hm]; simpa using hn
  rw [List.drop_eq_getElem_cons h1]
  congr 1
  simp [← hm]
/-- what Apply makes of it -/
theorem story_step (Q S : Sg) (r : Rec) (rs : List Rec) (hc : chkS Q = true) (hl : Leads Q (r :: rs) S) : applyP Q r = (0, deedS Q r) ∧ chkS (deedS Q r) = true ∧ r.nm.size ≤ 140737488355000 ∧ r.x.fit ∧ Leads (deedS Q r) rs S := by
  obtain ⟨hv, h3, h0, h4⟩ := hl
  have hz := ref_zero h0
  obtain ⟨⟨_, b2, _⟩, _⟩ := (chkS_iff Q).1 hc
  exact ⟨apply_v3 Q r hc hv h3 h0, chkS_deed Q r hc hv h0, v3_nm r hv hz.2.1, fit_v3 r hv (by rw [hz.1]; exact b2.2), h4⟩
/-- what the loop over the story holds -/
def LT (w : World) (v : Value) (ps : List (Rec × Value)) (D E : List Value) (q : Nat) (Q : Sg) (hq : SH) (wr : World) : Prop := LB wr q 28 (scl Q hq) ∧ SgO 0 wr Q hq ∧ OutT 0 wr v ps ∧ LB wr w.heap.size 28 D ∧ LB wr (w.heap.size + 1) 25 E ∧ Below w.heap.size w wr ∧ w.heap.size + 1 < q
theorem LT.kept {w wr wr' : World} {v : Value} {ps : List (Rec × Value)} {D E : List Value} {q : Nat} {Q : Sg} {hq : SH} (k : LT w v ps D E q Q hq wr) (b : Below wr.heap.size wr wr') : LT w v ps D E q Q hq wr' := ⟨k.1.kept b, k.2.1.kept b, k.2.2.1.kept b, k.2.2.2.1.kept b, k.2.2.2.2.1.kept b, andThen k.2.2.2.2.2.1 b, k.2.2.2.2.2.2⟩
theorem LT.put {w wr : World} {v : Value} {ps : List (Rec × Value)} {D E : List Value} {q : Nat} {Q Q2 : Sg} {hq h2 : SH} (k : LT w v ps D E q Q hq wr) (o : SgO 0 wr Q2 h2) : LT w v ps D E q Q2 h2 (wr.setCells q 0 (scl Q2 h2)) :=
  ⟨k.1.sets _ rfl, o.oth k.1 (by decide) (by decide) (Oth.sets _ _ _ _), k.2.2.1.but k.1 (by decide) (by decide) (Oth.sets _ _ _ _), k.2.2.2.1.others _ _ _ (by have := k.2.2.2.2.2.2; omega), k.2.2.2.2.1.others _ _ _ (by have := k.2.2.2.2.2.2; omega), below_cells (by have := k.2.2.2.2.2.2; omega) _ 0 _ k.2.2.2.2.2.1, k.2.2.2.2.2.2⟩
theorem OutT.weak {B B2 : Nat} {w : World} {v : Value} {ps : List (Rec × Value)} (h : OutT B2 w v ps) (hB : B ≤ B2) : OutT B w v ps := by
  refine ⟨⟨h.1.1, ?_⟩, fun p hp => own_weak (h.2 p hp) hB⟩
  rcases h.1.2 with h1 | ⟨g, cap, cur, e, hb, rest⟩
  · exact .inl h1
  · exact .inr ⟨g, cap, cur, e, Nat.le_trans hB hb, rest⟩
end Go.Proofs.YtgjlkkikgkbamaaDoor

/-
  SagaTold: a saga among the arguments: its failure's code is an int.
-/
namespace Go.Proofs.YtgjlkkikgkbamaaDoor
open Go Go.RowKit Go.ChangeShapes Go.WideShapes Go.ChangeAt Go.ChangeMaps
open Wb

theorem saga_fc {H : Type} {enc : TypeId × Value → H} {W : World} {S : Sg} {h' : SH} {d : DataW H} {p : List MemPlace} (h : DataW.Trod enc Tryd.prog W 0 (fun _ => true) true 28 (sv S h') d p) : -9223372036854775808 ≤ S.x.fc ∧ S.x.fc ≤ 9223372036854775807 := by
  obtain ⟨fuel, hf⟩ := h
  obtain ⟨xs, k', _, hxy, _, hxl, hfs⟩ := DataW.trod_struct Tryd.underlying28 hf
  match xs, hxl with
  | [y0, y1, y2, y3, y4, y5, y6, y7, y8, y9, y10, y11, y12, y13, y14, y15], _ =>
    have g14 := hfs 14 _ rfl
    unfold sv at g14
    simp [Value.cells, cellsTI] at g14
    obtain ⟨z14, e14, _, b14⟩ := DataW.trod_int Tryd.underlying3 g14
    simp at e14
    rw [e14]
    exact i64_bounds b14
end Go.Proofs.YtgjlkkikgkbamaaDoor
