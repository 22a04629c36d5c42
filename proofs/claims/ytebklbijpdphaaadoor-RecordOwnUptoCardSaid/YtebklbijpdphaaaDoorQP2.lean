import Derived.Laws.AppendOwnNone
import Derived.Deep.RegionHeld
import Derived.Test.YtebklbijpdphaaaDoorQP1
import Derived.Test.YtebklbijpdphaaaDoorQR3
/-
  RecordOwn, RecordAgain: byte rows in lists; alike, alikeAll, copied, bytes2.
-/
namespace Go.Proofs.YtebklbijpdphaaaDoor
open Go Go.RowKit
open Wb

theorem info22 : (Tryd.prog.info? 25).map (fun i => (i.zero, i.size, i.bytes)) = some (some (.slice none 0 0), 1, 24) := by kernel_rfl
/-- A row of the call's own that holds these values. -/
def Row (B : Nat) (w : World) (v : Value) (vs : List Value) : Prop := w.ownsRow B 25 1 v vs.length vs
theorem Row.nil (B : Nat) (w : World) : Row B w (.slice none 0 0) [] := World.ownsRow_nil _ _ _ _
theorem Row.kept {B : Nat} {w w' : World} {v : Value} {vs : List Value} (h : Row B w v vs) (hb : Below w.heap.size w w') : Row B w' v vs := by
  refine ⟨h.1, ?_⟩
  rcases h.2 with h1 | ⟨g, cap, cur, rfl, h1, hg, rest⟩
  · exact .inl h1
  · exact .inr ⟨g, cap, cur, rfl, h1, (hb.block g (Array.getElem?_eq_some_iff.1 hg).1).trans hg, rest⟩
theorem Row.shape {B : Nat} {w : World} {v : Value} {vs : List Value} (h : Row B w v vs) : (v = .slice none 0 0 ∧ vs = []) ∨ ∃ g cap, v = .slice (some ⟨g, 0, none⟩) vs.length cap ∧ vs.length ≤ cap ∧ cap ≤ maxLen ∧ ∀ j (h : j < vs.length), w.cell? ⟨g, j, none⟩ = some vs[j] := by
  have h0 : w.ownsRow B 25 1 v vs.length vs := h
  rcases h.2 with ⟨rfl, h1⟩ | ⟨g, cap, cur, rfl, hb, hg, h1, h2, h3, h4⟩
  · exact .inl ⟨rfl, List.eq_nil_of_length_eq_zero h1⟩
  · refine .inr ⟨g, cap, rfl, h1, h2, fun j hj => ?_⟩
    rw [h0.cellAt j (by omega), List.getElem?_eq_getElem hj]
/-- a byte string of the call's own stays, while a row is written -/
theorem Own.grown {B : Nat} {w w' : World} {v x : Value} {vs : List Value} {l : List Nat} (hr : Row B w v vs) (hx : Own B w x l) (hg : w.grownBy w' v.ownBlock) : Own B w' x l := by
  refine ⟨⟨hx.row.1, ?_⟩, hx.good⟩
  rcases hx.row.2 with h1 | ⟨g, cap, cur, rfl, h1, hgg, rest⟩
  · exact .inl h1
  · refine .inr ⟨g, cap, cur, rfl, h1, ?_, rest⟩
    rw [hg.block g (Array.getElem?_eq_some_iff.1 hgg).1 ?_]
    · exact hgg
    · intro e
      rcases hr.2 with ⟨rfl, _⟩ | ⟨g', cap', cur', rfl, _, hg', _⟩
      · simp [Value.ownBlock] at e
      · simp [Value.ownBlock] at e
        subst e
        rw [hgg] at hg'
        simp at hg'
/-- append(v, x) of one value to a row -/
theorem wpList_push {P : Program} (w : World) {ops : Array Oper} {rest : List Oper} {o : Oper} {a : Act} {Q : Exit → Act → World → Prop} (hgd : o.guard = none) (s x : Operand) (t : TypeId)
    (ho : o.op = .call { callee := .builtin .append, args := #[s, x], argTypes := #[t, t] })
    (B : Nat) (hinfo : (P.info? 25).map (fun i => (i.zero, i.size, i.bytes)) = some (some (.slice none 0 0), 1, 24)) (ht : P.underlying t = some (.slice 25))
    (v : Value) (vs : List Value) (hv : a.eval s = v) (h : Row B w v vs) (g : Nat) (u : Value) (hx : a.eval x = .slice (some ⟨g, 0, none⟩) 1 1) (hu : w.cell? ⟨g, 0, none⟩ = some u) (h1 : u.oneCell' = true)
    (hmax : vs.length ≤ 5000000000) (hB : B ≤ w.heap.size)
    (hK : ∀ v' w', Row B w' v' (vs ++ [u]) → Below B w w' → w.grownBy w' v.ownBlock → wpList P ops Q rest (a.put o.dst v') w') : wpList P ops Q (o :: rest) a w := by
  obtain ⟨i0, hi, hz0, hz1, hz2⟩ := info_parts hinfo
  refine wpList_append_own w hgd s x t ho B 25 i0 (.slice none 0 0) 1 24 ht hi hz0 hz1 hz2 rfl (by decide) v vs.length vs hv h ⟨g, 0, none⟩ 1 1 [u] hx rfl ?_ (by intro y hy; simp at hy; subst hy; exact h1) (by unfold maxLen; omega) (by omega) hB ?_
  · intro j y hj
    match j, hj with
    | 0, hj => simp at hj; subst hj; simpa [Addr.add] using hu
  · intro v' w' h2 h3 _
    refine hK v' w' ?_ ((Below.refl B w).grown h3 hB (fun k hk => (h.lt k hk).1)) h3
    show w'.ownsRow B 25 1 v' (vs ++ [u]).length (vs ++ [u])
    rw [List.length_append]
    exact h2
/-- a slice of byte strings of the call's own -/
def OwnP (B : Nat) (w : World) (v : Value) (ls : List (List Nat)) : Prop := ∃ vs : List Value, Row B w v vs ∧ vs.length = ls.length ∧ ∀ j (h : j < vs.length) (h2 : j < ls.length), Own B w vs[j] ls[j]
theorem OwnP.kept {B : Nat} {w w' : World} {v : Value} {ls : List (List Nat)} (h : OwnP B w v ls) (hb : Below w.heap.size w w') : OwnP B w' v ls := by
  obtain ⟨vs, h1, h2, h3⟩ := h
  exact ⟨vs, h1.kept hb, h2, fun j a b => (h3 j a b).kept hb⟩
theorem OwnP.ps {B : Nat} {w : World} {v : Value} {ls : List (List Nat)} (h : OwnP B w v ls) : Ps w v ls := by
  obtain ⟨vs, h1, h2, h3⟩ := h
  rcases h1.shape with ⟨rfl, rfl⟩ | ⟨g, cap, rfl, hl, hm, hc⟩
  · have : ls = [] := List.eq_nil_of_length_eq_zero (by simpa using h2.symm)
    subst this
    exact ⟨none, 0, rfl, by simp [maxLen], fun e => absurd rfl e⟩
  · refine ⟨some ⟨g, 0, none⟩, cap, by rw [h2], by omega, fun _ => ⟨g, 0, rfl, fun j hj => ⟨vs[j]'(by omega), ?_, (h3 j (by omega) hj).bs⟩⟩⟩
    rw [Nat.zero_add]
    exact hc j (by omega)
/-- append(v, x) of one value to a row, as one step of a region that draws its order -/
theorem step_push {P : Program} {ops : Array Oper} {o : Oper} {a : Act} {w : World} {K : Act → World → Prop} {Q : Exit → Act → World → Prop} {E : Prop} (hgd : o.guard = none) (s x : Operand) (t : TypeId)
    (ho : o.op = .call { callee := .builtin .append, args := #[s, x], argTypes := #[t, t] })
    (B : Nat) (hinfo : (P.info? 25).map (fun i => (i.zero, i.size, i.bytes)) = some (some (.slice none 0 0), 1, 24)) (ht : P.underlying t = some (.slice 25))
    (v : Value) (vs : List Value) (hv : a.eval s = v) (h : Row B w v vs) (g : Nat) (u : Value) (hx : a.eval x = .slice (some ⟨g, 0, none⟩) 1 1) (hu : w.cell? ⟨g, 0, none⟩ = some u) (h1 : u.oneCell' = true)
    (hmax : vs.length ≤ 5000000000) (hB : B ≤ w.heap.size)
    (hK : ∀ v' w', Row B w' v' (vs ++ [u]) → Below B w w' → w.grownBy w' v.ownBlock → K (a.put o.dst v') w') :
    if Region.wanted o (yielded ops a.tmps) = true then Oper.wp P o a w K Q else E := by
  have hw : Region.wanted o (yielded ops a.tmps) = true := by simp [Region.wanted, hgd]
  rw [if_pos hw]
  obtain ⟨i0, hi, hz0, hz1, hz2⟩ := info_parts hinfo
  obtain ⟨v', w', hrun, h2, h3, _⟩ := run_append_own (P := P) w B t o.type 25 i0 (.slice none 0 0) 1 24 ht hi hz0 hz1 hz2 rfl (by decide) v vs.length vs h ⟨g, 0, none⟩ 1 1 [u] rfl (by
    intro j y hj
    match j, hj with
    | 0, hj => simp at hj; subst hj; simpa [Addr.add] using hu) (by intro y hy; simp at hy; subst hy; exact h1) (by unfold maxLen; omega) (by omega) hB
  unfold Oper.wp
  simp [execOp, ho, resolve, invoke, builtin, hv, hx, hrun, Result.andThen]
  refine hK v' w' ?_ ((Below.refl B w).grown h3 hB (fun k hk => (h.lt k hk).1)) h3
  show w'.ownsRow B 25 1 v' (vs ++ [u]).length (vs ++ [u])
  rw [List.length_append]
  exact h2
theorem own_weak {B B2 : Nat} {w : World} {d : Value} {l : List Nat} (h : Own B2 w d l) (hB : B ≤ B2) : Own B w d l := by
  refine ⟨⟨h.row.1, ?_⟩, h.good⟩
  rcases h.row.2 with h1 | ⟨g, cap, cur, e, hb, rest⟩
  · exact .inl h1
  · exact .inr ⟨g, cap, cur, e, Nat.le_trans hB hb, rest⟩
def Ap (u v : Value) : Prop := ∀ g, u.ownBlock = some g → v.ownBlock ≠ some g
structure Ans (B : Nat) (w : World) (v : Value) (ps : List (Value × List Nat)) : Prop where
  row : w.ownsRow B 25 1 v ps.length (ps.map Prod.fst)
  each : ∀ p ∈ ps, Own B w p.1 p.2
  apart : ps.Pairwise fun p q => Ap p.1 q.1
  rowap : ∀ p ∈ ps, Ap v p.1
/-- new rows: behind n0, apart -/
structure New (n0 : Nat) (w : World) (qs : List (Value × List Nat)) : Prop where
  each : ∀ q ∈ qs, Own n0 w q.1 q.2
  apart : qs.Pairwise fun p q => Ap p.1 q.1
theorem Ans.nil (B : Nat) (w : World) : Ans B w (.slice none 0 0) [] := ⟨World.ownsRow_nil _ _ _ _, (fun _ h => nomatch h), List.Pairwise.nil, (fun _ h => nomatch h)⟩
theorem Ans.kept {B : Nat} {w w' : World} {v : Value} {ps : List (Value × List Nat)} (h : Ans B w v ps) (hb : Below w.heap.size w w') : Ans B w' v ps := ⟨owns_kept h.row hb, fun p hp => (h.each p hp).kept hb, h.apart, h.rowap⟩
theorem Ans.lt {B : Nat} {w : World} {v : Value} {ps : List (Value × List Nat)} (h : Ans B w v ps) : (∀ p ∈ ps, ∀ g, p.1.ownBlock = some g → g < w.heap.size) ∧ ∀ g, v.ownBlock = some g → g < w.heap.size := ⟨fun p hp g hg => (World.ownsRow.lt (h.each p hp).row g hg).2, fun g hg => (World.ownsRow.lt h.row g hg).2⟩
theorem Ans.ge {B : Nat} {w : World} {v : Value} {ps : List (Value × List Nat)} (h : Ans B w v ps) : ∀ p ∈ ps, ∀ g, p.1.ownBlock = some g → B ≤ g := fun p hp g hg => (World.ownsRow.lt (h.each p hp).row g hg).1
theorem New.nil (n0 : Nat) (w : World) : New n0 w [] := ⟨(fun _ h => nomatch h), List.Pairwise.nil⟩
theorem New.kept {n0 : Nat} {w w' : World} {qs : List (Value × List Nat)} (h : New n0 w qs) (hb : Below w.heap.size w w') : New n0 w' qs := ⟨fun q hq => (h.each q hq).kept hb, h.apart⟩
theorem Ans.new {B : Nat} {w : World} {v : Value} {ps : List (Value × List Nat)} (h : Ans B w v ps) : New B w ps := ⟨h.each, h.apart⟩
/-- one more new row, of a later call -/
theorem New.snoc {n0 : Nat} {w w' : World} {qs : List (Value × List Nat)} {d : Value} {c : List Nat} (h : New n0 w qs) (h0 : n0 ≤ w.heap.size) (hb : Below w.heap.size w w') (ho : Own w.heap.size w' d c) : New n0 w' (qs ++ [(d, c)]) := by
  refine ⟨fun q hq => ?_, List.pairwise_append.2 ⟨h.apart, List.pairwise_singleton _ _, fun p hp q hq g hg e => ?_⟩⟩
  · rcases List.mem_append.1 hq with hq | hq
    · exact (h.each q hq).kept hb
    · obtain rfl := List.mem_singleton.1 hq
      exact ho.mono h0
  · obtain rfl := List.mem_singleton.1 hq
    have h1 := (World.ownsRow.lt (h.each p hp).row g hg).2
    have h2 := (World.ownsRow.lt ho.row g e).1
    omega
theorem New.one {w w' : World} {d : Value} {c : List Nat} (ho : Own w.heap.size w' d c) : New w.heap.size w' [(d, c)] := ⟨fun q hq => by obtain rfl := List.mem_singleton.1 hq; exact ho, List.pairwise_singleton _ _⟩
theorem Ans.cat {B n0 : Nat} {w w' : World} {v v' : Value} {ps qs : List (Value × List Nat)} (h : Ans B w v ps) (hn : New n0 w qs) (hB : B ≤ n0) (hlt : ∀ p ∈ ps, ∀ g, p.1.ownBlock = some g → g < n0) (hv : ∀ g, v.ownBlock = some g → g < n0)
    (hr : w'.ownsRow B 25 1 v' (ps.length + qs.length) (ps.map Prod.fst ++ qs.map Prod.fst)) (hg : w.grownBy w' v.ownBlock) (he : v'.ownBlock = v.ownBlock ∨ v'.ownBlock = some w.heap.size) : Ans B w' v' (ps ++ qs) := by
  have hall : ∀ p ∈ ps ++ qs, Own B w p.1 p.2 ∧ Ap v p.1 := fun p hp => by
    rcases List.mem_append.1 hp with hp | hp
    · exact ⟨h.each p hp, h.rowap p hp⟩
    · refine ⟨own_weak (hn.each p hp) hB, fun g hg e => ?_⟩
      have h1 := (World.ownsRow.lt (hn.each p hp).row g e).1
      have h3 := hv g hg
      omega
  refine ⟨by rw [List.length_append, List.map_append]; exact hr, fun p hp => own_kept2 (hall p hp).1 fun g hg' => hg.block g (World.ownsRow.lt (hall p hp).1.row g hg').2 (fun e => (hall p hp).2 g e.symm hg'), List.pairwise_append.2 ⟨h.apart, hn.apart, fun p hp q hq g hpg hqg => ?_⟩, fun p hp g hg' e => ?_⟩
  · have h1 := hlt p hp g hpg
    have h2 := (World.ownsRow.lt (hn.each q hq).row g hqg).1
    omega
  · rcases he with e1 | e1
    · exact (hall p hp).2 g (e1 ▸ hg') e
    · rw [e1] at hg'
      obtain rfl := Option.some.inj hg'
      exact absurd (World.ownsRow.lt (hall p hp).1.row _ e).2 (Nat.lt_irrefl _)
theorem own_one {B : Nat} {w : World} {d : Value} {c : List Nat} (h : Own B w d c) : d.oneCell' = true := by
  obtain ⟨ao, cp, e, _⟩ := h.bs.shape
  rw [e]; rfl
theorem wpList_append_new {P : Program} (w : World) {ops : Array Oper} {rest : List Oper} {o : Oper} {a : Act} {Q : Exit → Act → World → Prop} (hgd : o.guard = none) (s x : Operand) (t : TypeId)
    (ho : o.op = .call { callee := .builtin .append, args := #[s, x], argTypes := #[t, t] })
    (B n0 : Nat) (hinfo : (P.info? 25).map (fun i => (i.zero, i.size, i.bytes)) = some (some (.slice none 0 0), 1, 24)) (ht : P.underlying t = some (.slice 25))
    (v : Value) (ps qs : List (Value × List Nat)) (hv : a.eval s = v) (h : Ans B w v ps) (hn : New n0 w qs) (hB : B ≤ n0) (hlt : ∀ p ∈ ps, ∀ g, p.1.ownBlock = some g → g < n0) (hvl : ∀ g, v.ownBlock = some g → g < n0)
    (g : Nat) (hx : a.eval x = .slice (some ⟨g, 0, none⟩) qs.length qs.length) (hc : w.rangeAt g 0 (qs.map Prod.fst)) (hmax : (ps.length + qs.length) * 24 ≤ 140737488355328) (hBw : B ≤ w.heap.size)
    (hK : ∀ v' w', Ans B w' v' (ps ++ qs) → w.grownBy w' v.ownBlock → wpList P ops Q rest (a.put o.dst v') w') : wpList P ops Q (o :: rest) a w := by
  obtain ⟨i0, hi, hz0, hz1, hz2⟩ := Lft.info_parts3 hinfo
  refine wpList_append_own_at w hgd s x t ho B 25 i0 _ 1 24 ht hi hz0 hz1 hz2 rfl (by decide) v ps.length (ps.map Prod.fst) hv h.row ⟨g, 0, none⟩ qs.length qs.length (qs.map Prod.fst) hx (by rw [List.length_map, Nat.mul_one]) ?_ ?_ (by unfold maxLen; omega) (by omega) hBw (fun v' w' a1 a2 _ a4 => hK v' w' (h.cat hn hB hlt hvl a1 a2 a4) a2)
  · intro j u hj
    have := hc j u hj
    rw [Addr.add_lit]
    exact this
  · intro u hu
    obtain ⟨q, hq, rfl⟩ := List.mem_map.1 hu
    exact own_one (hn.each q hq)
theorem wpList_append_ans {P : Program} (w : World) {ops : Array Oper} {rest : List Oper} {o : Oper} {a : Act} {Q : Exit → Act → World → Prop} (hgd : o.guard = none) (s x : Operand) (t : TypeId)
    (ho : o.op = .call { callee := .builtin .append, args := #[s, x], argTypes := #[t, t] })
    (B n0 : Nat) (hinfo : (P.info? 25).map (fun i => (i.zero, i.size, i.bytes)) = some (some (.slice none 0 0), 1, 24)) (ht : P.underlying t = some (.slice 25))
    (v v2 : Value) (ps qs : List (Value × List Nat)) (hv : a.eval s = v) (hx : a.eval x = v2) (h : Ans B w v ps) (h2 : Ans n0 w v2 qs) (hB : B ≤ n0) (hlt : ∀ p ∈ ps, ∀ g, p.1.ownBlock = some g → g < n0) (hvl : ∀ g, v.ownBlock = some g → g < n0)
    (hmax : (ps.length + qs.length) * 24 ≤ 140737488355328) (hBw : B ≤ w.heap.size)
    (hK : ∀ v' w', Ans B w' v' (ps ++ qs) → w.grownBy w' v.ownBlock → wpList P ops Q rest (a.put o.dst v') w') : wpList P ops Q (o :: rest) a w := by
  obtain ⟨i0, hi, hz0, hz1, hz2⟩ := Lft.info_parts3 hinfo
  have hrow2 := h2.row
  rcases h2.row.2 with ⟨e2, hq0⟩ | ⟨g2, cap2, cur, e2, _, _, hn2, hm2, _, _⟩
  · obtain rfl : qs = [] := List.length_eq_zero_iff.1 hq0
    refine wpList_append_own_none hgd s x t ho B 25 i0 1 ht hi v ps.length (ps.map Prod.fst) hv h.row (by rw [hx, e2]) ?_
    exact hK v w (by rw [List.append_nil]; exact h) ⟨rfl, rfl, rfl, Nat.le_refl _, fun _ _ _ => rfl⟩
  · rw [e2] at hrow2
    refine wpList_append_own_at w hgd s x t ho B 25 i0 _ 1 24 ht hi hz0 hz1 hz2 rfl (by decide) v ps.length (ps.map Prod.fst) hv h.row ⟨g2, 0, none⟩ qs.length cap2 (qs.map Prod.fst) (by rw [hx, e2]) (by rw [List.length_map, Nat.mul_one]) ?_ ?_ (by unfold maxLen; omega) (by omega) hBw (fun v' w' a1 a2 _ a4 => hK v' w' (h.cat h2.new hB hlt hvl a1 a2 a4) a2)
    · intro j u hj
      have hjl := (List.getElem?_eq_some_iff.1 hj).1
      rw [List.length_map] at hjl
      rw [Addr.add_lit, Nat.zero_add, ← hj]
      exact World.ownsRow.cellAt hrow2 j (by omega)
    · intro u hu
      obtain ⟨q, hq, rfl⟩ := List.mem_map.1 hu
      exact own_one (h2.each q hq)
theorem Ans.ps {B : Nat} {w : World} {v : Value} {qs : List (Value × List Nat)} (h : Ans B w v qs) : Ps w v (qs.map Prod.snd) := by
  refine OwnP.ps (B := B) ⟨qs.map Prod.fst, ?_, by simp, fun j a b => ?_⟩
  · show w.ownsRow B 25 1 v (qs.map Prod.fst).length _
    rw [List.length_map]
    exact h.row
  · have hj : j < qs.length := by simpa using a
    simp only [List.getElem_map]
    exact h.each _ (List.getElem_mem hj)
/-- what the i-th row holds -/
def cA (ps : List (Value × List Nat)) (i : Nat) : List Nat := match ps[i]? with | some p => p.2 | none => []
theorem cA_some {ps : List (Value × List Nat)} {i : Nat} {p : Value × List Nat} (h : ps[i]? = some p) : cA ps i = p.2 := by unfold cA; rw [h]
theorem cA_len {ps : List (Value × List Nat)} {b : Nat} (h : ∀ p ∈ ps, p.2.length ≤ b) (i : Nat) : (cA ps i).length ≤ b := by
  unfold cA
  split
  · rename_i p hp
    exact h p (List.mem_of_getElem? hp)
  · exact Nat.zero_le _
theorem fst_get {ps : List (Value × List Nat)} {i : Nat} {d : Value} (h : (ps.map Prod.fst)[i]? = some d) : ∃ p, ps[i]? = some p ∧ p.1 = d := by
  rw [List.getElem?_map] at h
  cases hp : ps[i]? with
  | none => rw [hp] at h; cases h
  | some p => rw [hp] at h; exact ⟨p, rfl, Option.some.inj h⟩
theorem ownsBase {B : Nat} {w : World} {v : Value} {n : Nat} {xs : List Value} (h : w.ownsRow B 25 1 v n xs) : w.ownsRow 0 25 1 v n xs := by
  refine ⟨h.1, ?_⟩
  rcases h.2 with h1 | ⟨g, cap, cur, e, _, rest⟩
  · exact .inl h1
  · exact .inr ⟨g, cap, cur, e, Nat.zero_le _, rest⟩
theorem pair_get {ps : List (Value × List Nat)} (h : ps.Pairwise fun p q => Ap p.1 q.1) {i j : Nat} {p q : Value × List Nat} (hi : ps[i]? = some p) (hj : ps[j]? = some q) (hij : i ≠ j) : Ap p.1 q.1 := by
  rw [List.pairwise_iff_getElem] at h
  obtain ⟨h1, rfl⟩ := List.getElem?_eq_some_iff.1 hi
  obtain ⟨h2, rfl⟩ := List.getElem?_eq_some_iff.1 hj
  by_cases hlt : i < j
  · exact h i j h1 h2 hlt
  · exact fun g hp hq => h j i h2 h1 (by omega) g hq hp
theorem Ans.lst {B : Nat} {w : World} {v : Value} {ps : List (Value × List Nat)} (h : Ans B w v ps) : Lst B w v (ps.map Prod.fst) (cA ps) := by
  refine ⟨?_, fun i d hd => ?_, fun i j d e hd he hij => ?_, fun d hd g hg => ?_⟩
  · rw [List.length_map]
    exact ownsBase h.row
  · obtain ⟨p, hp, rfl⟩ := fst_get hd
    rw [cA_some hp]
    exact h.each p (List.mem_of_getElem? hp)
  · obtain ⟨p, hp, rfl⟩ := fst_get hd
    obtain ⟨q, hq, rfl⟩ := fst_get he
    exact pair_get h.apart hp hq hij
  · obtain ⟨p, hp, rfl⟩ := List.mem_map.1 hd
    exact h.rowap p hp g hg
/-- rows that no later write reaches -/
theorem ownP_frame {B : Nat} {w w' : World} {v : Value} {ls : List (List Nat)} (h : OwnP B w v ls) (hs : ∀ g, B ≤ g → g < w.heap.size → w'.heap[g]? = w.heap[g]?) : OwnP B w' v ls := by
  obtain ⟨vs, h1, h2, h3⟩ := h
  exact ⟨vs, owns_block h1 fun g hg => hs g (World.ownsRow.lt h1 g hg).1 (World.ownsRow.lt h1 g hg).2, h2, fun j a b => own_kept2 (h3 j a b) fun g hg => hs g (World.ownsRow.lt (h3 j a b).row g hg).1 (World.ownsRow.lt (h3 j a b).row g hg).2⟩
theorem copied_any (v : Value) (l : List Nat) (w : World) (h : Bs w v l) (hlen : l.length ≤ 140737488355328) :
    Calls Tryd.prog 9 #[v] w fun e w' => ∃ v', e = .returned v' ∧ Own w.heap.size w' v' l ∧ Below w.heap.size w w' := by
  have hin := info5
  have HB : Hid (Bs w v l) := h
  obtain ⟨ao, cap, rfl, _⟩ := h.shape
  clear h
  go_enter Tryd.func9, Tryd.ntmps9
  go_wp2_with (at_builtin; refine wpList_append _ rfl (.tmp 4) (.tmp 5) 25 rfl w.heap.size hin Tryd.underlying25 _ [] rfl (Own.nil _ _) _ l rfl HB.out (by simp; omega) (Nat.le_refl _) ?_)
  intro v' w' ho hb _
  have HO : Hid (Own w.heap.size w' v' l ∧ Below w.heap.size w w') := ⟨ho, hb⟩
  clear ho hb
  go_wp2
  go_ret
  exact ⟨_, rfl, HO.out.1, HO.out.2⟩
theorem bdrew {B : Nat} {a w : World} (h : Below B a w) (n : Nat) : Below B a (w.drewN n) := ⟨h.os, h.tape, h.output, h.size, h.block⟩
set_option maxHeartbeats 400000 in
theorem alike3_any (va vb : Value) (a b : List Nat) (w : World) (ha : Bs w va a) (hb : Bs w vb b) :
    Calls Tryd.prog 27 #[va, vb] w fun e w' => e = .returned (.bool (decide (a = b))) ∧ Below w.heap.size w w' := by
  obtain ⟨aoa, capa, rfl, hla, hma, hna, hca⟩ := ha.shape
  obtain ⟨aob, capb, rfl, hlb, hmb, hnb, hcb⟩ := hb.shape
  unfold maxLen at hma hmb
  have ga := ha.good
  have gb := hb.good
  by_cases hlen : a.length = b.length
  · have HL : Hid (a.length = b.length) := hlen
    have d0 : ((a.length : Int) != (b.length : Int)) = false := by simp [hlen]
    clear hlen
    go_enter Tryd.func27, Tryd.ntmps27
    go_wp2
    go_loopw [5] (fun i wr => ∃ k : Nat, k ≤ a.length ∧ i = .int .i64 k ∧ a.take k = b.take k ∧ Below w.heap.size w wr) (fun i _ => a.length - (intOf i).toNat)
    case atStart => exact ⟨0, Nat.zero_le _, rfl, by simp, Below.refl _ _⟩
    case round =>
      obtain ⟨k, hk, rfl, heq, hbel⟩ := hrel
      have HQ : Hid (a.take k = b.take k) := heq
      clear heq
      by_cases hlt : k < a.length
      · have hlt' : k < b.length := by rw [← HL.out]; exact hlt
        obtain ⟨b1, off1, rfl, hcell1⟩ := hca (List.ne_nil_of_length_pos (by omega))
        obtain ⟨b2, off2, rfl, hcell2⟩ := hcb (List.ne_nil_of_length_pos (by omega))
        have q1 := (hbel.cell (p := ⟨b1, off1 + k, none⟩) (World.block_lt_of_cell? _ _ (hcell1 k hlt))).trans (hcell1 k hlt)
        have q2 := (hbel.cell (p := ⟨b2, off2 + k, none⟩) (World.block_lt_of_cell? _ _ (hcell2 k hlt'))).trans (hcell2 k hlt')
        clear hca hcb hcell1 hcell2 hna hnb ha hb
        by_cases hxy : a[k] = b[k]
        · have HS : Hid (a.take (k + 1) = b.take (k + 1)) := by
            show _ = _
            rw [List.take_succ_eq_append_getElem hlt, List.take_succ_eq_append_getElem hlt', HQ.out, hxy]
          rw [hxy] at q1
          generalize b[k] = y at *
          have d1 : ((y : Int) != (y : Int)) = false := by simp
          clear hxy
          go_wp2
          go_quiet (fail)
          go_wp2
          go_roundw
          case rel => exact ⟨k + 1, by omega, by go_num, HS.out, bdrew hbel _⟩
          case measure => simp [intOf]; omega
        · have HN : Hid (¬ a = b) := by
            intro e
            subst e
            exact hxy rfl
          have d1 : ((a[k] : Int) != (b[k] : Int)) = true := by rw [bne_iff_ne]; omega
          generalize a[k] = x at *
          generalize b[k] = y at *
          clear hxy
          go_wp2
          go_quiet (fail)
          go_wp2
          go_ret
          exact ⟨by rw [decide_eq_false HN.out]; rfl, bdrew hbel _⟩
      · have HE : Hid (a = b) := by
          have h := HQ.out
          rw [List.take_of_length_le (by omega), List.take_of_length_le (by rw [← HL.out]; omega)] at h
          exact h
        go_wp2
        go_ret
        exact ⟨by rw [decide_eq_true HE.out]; rfl, hbel⟩
  · have HN : Hid (¬ a = b) := fun e => hlen (by rw [e])
    have d0 : ((a.length : Int) != (b.length : Int)) = true := by rw [bne_iff_ne]; omega
    clear hlen hca hcb
    go_enter Tryd.func27, Tryd.ntmps27
    go_wp2
    go_ret
    exact ⟨by rw [decide_eq_false HN.out]; rfl, Below.refl _ _⟩
theorem alike3_yes (va vb : Value) (a : List Nat) (w : World) (ha : Bs w va a) (hb : Bs w vb a) :
    Calls Tryd.prog 27 #[va, vb] w fun e w' => e = .returned (.bool true) ∧ Below w.heap.size w w' := by
  have := alike3_any va vb a a w ha hb
  simpa using this
set_option maxHeartbeats 1000000 in
theorem alikeAll_yes (va vb : Value) (ls : List (List Nat)) (w : World) (ha : Ps w va ls) (hb : Ps w vb ls) :
    Calls Tryd.prog 13 #[va, vb] w fun e w' => e = .returned (.bool true) ∧ Below w.heap.size w w' := by
  obtain ⟨aoa, capa, rfl, hma, hca⟩ := ha.shape
  obtain ⟨aob, capb, rfl, hmb, hcb⟩ := hb.shape
  unfold maxLen at hma hmb
  have d0 : ((ls.length : Int) != (ls.length : Int)) = false := by simp
  clear ha hb
  go_enter Tryd.func13, Tryd.ntmps13
  go_wp2
  go_loopw [5] (fun i wr => ∃ k : Nat, k ≤ ls.length ∧ i = .int .i64 k ∧ Below w.heap.size w wr) (fun i _ => ls.length - (intOf i).toNat)
  case atStart => exact ⟨0, Nat.zero_le _, rfl, Below.refl _ _⟩
  case round =>
    obtain ⟨k, hk, rfl, hbel⟩ := hrel
    by_cases hlt : k < ls.length
    · obtain ⟨b1, off1, rfl, hcell1⟩ := hca (List.ne_nil_of_length_pos (by omega))
      obtain ⟨b2, off2, rfl, hcell2⟩ := hcb (List.ne_nil_of_length_pos (by omega))
      obtain ⟨v1, c1, h1⟩ := hcell1 k hlt
      obtain ⟨v2, c2, h2⟩ := hcell2 k hlt
      have HB : Hid (∀ w', Below w.heap.size w w' → (w'.cell? ⟨b1, off1 + k, none⟩ = some v1 ∧ w'.cell? ⟨b2, off2 + k, none⟩ = some v2)) := fun w' hb => ⟨(hb.cell (p := ⟨b1, off1 + k, none⟩) (World.block_lt_of_cell? _ _ c1)).trans c1, (hb.cell (p := ⟨b2, off2 + k, none⟩) (World.block_lt_of_cell? _ _ c2)).trans c2⟩
      have H1 : Hid (∀ w', Below w.heap.size w w' → Bs w' v1 ls[k]) := fun w' hb => h1.kept hb
      have H2 : Hid (∀ w', Below w.heap.size w w' → Bs w' v2 ls[k]) := fun w' hb => h2.kept hb
      obtain ⟨q1, q2⟩ := HB.out wr hbel
      obtain ⟨ao1, cp1, rfl, _⟩ := h1.shape
      obtain ⟨ao2, cp2, rfl, _⟩ := h2.shape
      clear hca hcb hcell1 hcell2 c1 c2 h1 h2
      generalize ls[k] = x at *
      go_wp2
      go_region_held (fun w' => w'.cell? ⟨b1, off1 + k, none⟩ = some (.slice ao1 x.length cp1) ∧ w'.cell? ⟨b2, off2 + k, none⟩ = some (.slice ao2 x.length cp2)) (first | go_keep | (exact HB.out _ (andThen (Below.drew hbel) hb')))
        (first | (go_at_call 27; refine (alike3_yes _ _ x _ ?_ ?_).mono ?_; (exact H1.out _ (Below.drew hbel)); (exact H2.out _ (Below.drew hbel)); rintro e w' ⟨rfl, hb'⟩))
      have hb2 : Below w.heap.size w w' := andThen (Below.drew hbel) hb'
      clear hb' hbel HB H1 H2 q1 q2
      go_wp2
      go_roundw
      case rel => exact ⟨k + 1, by omega, by go_num, hb2⟩
      case measure => simp [intOf]; omega
    · go_wp2
      go_ret
      exact ⟨rfl, hbel⟩
set_option maxRecDepth 100000 in
set_option maxHeartbeats 2000000 in
theorem bytes2_any (v : Value) (ls : List (List Nat)) (w : World) (h : Ps w v ls) (hall : ∀ x ∈ ls, x.length ≤ 16777216) (hnl : ls.length ≤ 100000000) :
    Calls Tryd.prog 11 #[v] w fun e w' => ∃ v', e = .returned v' ∧ OwnP w.heap.size w' v' ls ∧ Below w.heap.size w w' := by
  have hin := info22
  obtain ⟨ao, cap, rfl, hmx, hc⟩ := h.shape
  unfold maxLen at hmx
  clear h
  go_enter Tryd.func11, Tryd.ntmps11
  go_wp2
  go_loopw [3, 4] (fun o i wr => ∃ k : Nat, k ≤ ls.length ∧ i = .int .i64 (k : Int) ∧ OwnP w.heap.size wr o (ls.take k) ∧ Below w.heap.size w wr) (fun _ i _ => ls.length - (intOf i).toNat)
  case atStart => exact ⟨0, Nat.zero_le _, rfl, ⟨[], Row.nil _ _, rfl, fun j h => absurd h (Nat.not_lt_zero _)⟩, Below.refl _ _⟩
  case round =>
    obtain ⟨k, hk, rfl, hown, hbel⟩ := hrel
    by_cases hlt : k < ls.length
    · obtain ⟨b, off, rfl, hcell⟩ := hc (List.ne_nil_of_length_pos (by omega))
      obtain ⟨vk, hck, hbk⟩ := hcell k hlt
      have HB : Hid (∀ w', Below w.heap.size w w' → w'.cell? ⟨b, off + k, none⟩ = some vk) := fun w' hb => (hb.cell (p := ⟨b, off + k, none⟩) (World.block_lt_of_cell? _ _ hck)).trans hck
      have H1 : Hid (∀ w', Below w.heap.size w w' → Bs w' vk ls[k]) := fun w' hb => hbk.kept hb
      have q1 := HB.out wr hbel
      obtain ⟨aok, capk, rfl, hlk, hmk, hx1, hx2⟩ := hbk.shape
      have hkl : ls[k].length ≤ 16777216 := hall _ (List.getElem_mem hlt)
      have HS : Hid (ls.take (k + 1) = ls.take k ++ [ls[k]]) := List.take_succ_eq_append_getElem hlt
      have hdl : (ls.take k).length = k := by simp; omega
      obtain ⟨vs, hrow, hvl, hel⟩ := hown
      have hvs : vs.length ≤ 5000000000 := by omega
      have HR : Hid (∀ w', Below wr.heap.size wr w' → Row w.heap.size w' u3 vs) := fun w' hb => hrow.kept hb
      have HE : Hid (∀ w', Below wr.heap.size wr w' → ∀ j (h : j < vs.length) (h2 : j < (ls.take k).length), Own w.heap.size w' vs[j] (ls.take k)[j]) := fun w' hb j a b => (hel j a b).kept hb
      have hsz := hbel.size
      clear hx1 hx2 hc hcell hbk hck hel hrow
      generalize ls[k] = x at *
      generalize ls.take k = done at *
      go_wp2_with fail
      refine (copied_any _ x _ (H1.out _ hbel) (Nat.le_trans hkl (by decide))).mono ?_
      rintro e w2 ⟨v2, rfl, ho2, b2⟩
      obtain ⟨ao2, cap2, rfl, _⟩ := ho2.bs.shape
      have HRA : Hid (∀ o, Row w.heap.size (w2.alloc o) u3 vs) := fun o => HR.out _ (up b2 _)
      have HC2 : Hid (∀ t, (w2.alloc (.cells #[.slice ao2 x.length cap2] t)).cell? ⟨w2.heap.size, 0, none⟩ = some (.slice ao2 x.length cap2)) := fun t => World.cell?_alloc_new w2 _ _ 0
      have hs2 := (andThen hbel b2).size
      go_wp2_with (at_builtin; refine wpList_push _ rfl (.tmp 11) (.tmp 17) 24 rfl w.heap.size hin Tryd.underlying24 _ vs rfl (HRA.out _) w2.heap.size (.slice ao2 x.length cap2) rfl (HC2.out _) rfl hvs (by simp; omega) ?_)
      intro v3 w3 hr3 b3 hg3
      have R : Hid (OwnP w.heap.size w3 v3 (ls.take (k + 1)) ∧ Below w.heap.size w w3) := by
        have hb2 := b2
        rw [HS.out]
        refine ⟨⟨vs ++ [.slice ao2 x.length cap2], hr3, by simp [hvl], fun j a b => ?_⟩, (up (andThen hbel b2) _).trans b3⟩
        by_cases hj : j < vs.length
        · rw [List.getElem_append_left hj, List.getElem_append_left (by omega)]
          exact Own.grown (HR.out _ (up hb2 _)) (HE.out _ (up hb2 _) j hj (by omega)) hg3
        · have ej : j = vs.length := by simp at a; omega
          subst ej
          rw [List.getElem_append_right (Nat.le_refl _), List.getElem_append_right (by omega)]
          simp only [hvl, Nat.sub_self, List.getElem_cons_zero]
          exact Own.grown (HR.out _ (up hb2 _)) ((ho2.mono hsz).kept (up0 _ _)) hg3
      clear hr3 b3 hg3 HR HE HB H1 q1 hbel b2 ho2 HS HRA HC2
      go_wp2
      go_roundw
      case rel => exact ⟨k + 1, by omega, by go_num, R.out.1, R.out.2⟩
      case measure => simp [intOf]; omega
    · rw [List.take_of_length_le (by omega)] at hown
      go_wp2
      go_ret
      exact ⟨_, rfl, hown, hbel⟩
/-- filled, kept -/
structure FilR (B : Nat) (w : World) (v vm : Value) (ps : List (Value × List Nat)) (fs : List Value) : Prop where
  row : w.ownsRow 0 25 1 v ps.length (ps.map Prod.fst)
  fam : FamR B w (ps.map Prod.fst) (fun i => (cA ps i).length) fs
  more : w.ownsRow 0 25 1 vm fs.length fs
  len : fs.length = ps.length
theorem FilR.kept {B : Nat} {w w' : World} {v vm : Value} {ps : List (Value × List Nat)} {fs : List Value} (h : FilR B w v vm ps fs) (hb : Below w.heap.size w w') : FilR B w' v vm ps fs := ⟨owns_kept h.row hb, h.fam.kept hb, owns_kept h.more hb, h.len⟩
theorem filledA {B b : Nat} {w : World} {v : Value} {ps : List (Value × List Nat)} (h : Ans B w v ps) (hn : ps.length ≤ 9000000) (hc : ∀ p ∈ ps, p.2.length ≤ b) (hb : b ≤ 16777216) (hB : B ≤ w.heap.size) :
    Calls Tryd.prog 12 #[v] w fun e w' => ∃ vm fs, e = .returned vm ∧ FilR B w' v vm ps fs ∧ Below B w w' ∧ Frm (ps.map Prod.fst) w w' :=
  (filledR_any B v (ps.map Prod.fst) (cA ps) w h.lst (by rw [List.length_map]; exact hn) (fun i => Nat.le_trans (cA_len hc i) hb) hB).mono fun e w' ⟨vm, fs, he, hl, hf, hr, hF, hb⟩ => ⟨vm, fs, he, ⟨ownsBase (owns_block h.row fun g hg => hF.same g (h.lt.2 g hg) fun d hd => by
    obtain ⟨p, hp, rfl⟩ := List.mem_map.1 hd
    exact h.rowap p hp g hg), hf, ownsBase hr, by rw [hl, List.length_map]⟩, hb, hF⟩
set_option maxRecDepth 100000 in
set_option maxHeartbeats 4000000 in
theorem standR_any {B b : Nat} {w : World} {v vm : Value} {ps : List (Value × List Nat)} {fs : List Value} (h : FilR B w v vm ps fs) (hN : ps.length ≤ 9000000) (hc : ∀ p ∈ ps, p.2.length ≤ b) (hb : b ≤ 16777216) :
    Calls Tryd.prog 14 #[v, vm] w fun e w' => e = .returned (.bool true) ∧ w' = w := by
  have h1 := h.row
  have e9 : (ps.map Prod.fst).length = ps.length := List.length_map _
  rw [← e9] at h1
  obtain ⟨al, cl, rfl, hcl⟩ := rowV_of h1
  obtain ⟨am, cm, rfl, hcm⟩ := rowV_of h.more
  have hfl : fs.length = (ps.map Prod.fst).length := by rw [e9]; exact h.len
  have hN' : (ps.map Prod.fst).length ≤ 9000000 := by rw [e9]; exact hN
  have HN : Hid (∀ i, (cA ps i).length ≤ 16777216) := fun i => Nat.le_trans (cA_len hc i) hb
  have HF : Hid (FamR B w (ps.map Prod.fst) (fun i => (cA ps i).length) fs) := h.fam
  clear h h1 e9 hN hc
  generalize ps.map Prod.fst = ds at *
  obtain ⟨nf, hnf⟩ : ∃ nf : Nat → Nat, nf = fun i => (cA ps i).length := ⟨_, rfl⟩
  have HNF : Hid (∀ i, nf i ≤ 16777216) := fun i => by rw [hnf]; exact HN.out i
  rw [← hnf] at HF
  clear hnf HN
  rw [hfl]
  have HCL : Hid (∀ (k : Nat) (x : Value), ds[k]? = some x → ∃ g, al = some ⟨g, 0, none⟩ ∧ w.cell? ⟨g, k, none⟩ = some x) := hcl
  have HCM : Hid (∀ (k : Nat) (x : Value), fs[k]? = some x → ∃ g, am = some ⟨g, 0, none⟩ ∧ w.cell? ⟨g, k, none⟩ = some x) := hcm
  have HFL : Hid (fs.length = ds.length) := hfl
  clear hcl hcm hfl
  go_enter Tryd.func14, Tryd.ntmps14
  go_wp2
  go_loopw [5] (fun i wr => wr = w ∧ ∃ k : Nat, k ≤ ds.length ∧ i = .int .i64 (k : Int)) (fun i _ => ds.length - (intOf i).toNat)
  case atStart => exact ⟨rfl, 0, Nat.zero_le _, rfl⟩
  case round =>
    obtain ⟨rfl, k, hk, rfl⟩ := hrel
    by_cases hlt : k < ds.length
    · obtain ⟨d, hd⟩ : ∃ d, ds[k]? = some d := ⟨ds[k], List.getElem?_eq_getElem hlt⟩
      obtain ⟨x, hx⟩ : ∃ x, fs[k]? = some x := ⟨fs[k]'(by rw [HFL.out]; exact hlt), List.getElem?_eq_getElem _⟩
      obtain ⟨gl, rfl, cl0⟩ := HCL.out k d hd
      obtain ⟨gm, rfl, cm0⟩ := HCM.out k x hx
      have hnk := HNF.out k
      obtain ⟨m, hm⟩ : ∃ m, nf k = m := ⟨_, rfl⟩
      have hbd := (HF.out.base k d hd).bs
      have hbx := (HF.out.view k x hx).bs
      rw [hm] at hnk hbd hbx
      obtain ⟨ad, cd, e3, _⟩ := hbd.shape
      rw [mks_len, Nat.add_zero] at e3
      subst e3
      obtain ⟨ax, cx, e3, _⟩ := hbx.shape
      rw [mks_len] at e3
      subst e3
      obtain ⟨_, hx1, hx2, bx, offx, rfl, hcx⟩ := mk_cell hbx (by omega)
      have e70 : m + (m + 70) = 2 * m + 70 := by omega
      rw [e70] at cm0 hx1
      have HCX : Hid (∀ j, j < 2 * m + 70 → wr.cell? ⟨bx, offx + j, none⟩ = some (.int .u8 ((mkA k : Nat) : Int))) := fun j hj => by
        have := hcx j (by omega)
        simpa using this
      have HCD : Hid (∀ j, j < m → ∃ bd offd, ad = some ⟨bd, offd, none⟩ ∧ m ≤ cd ∧ cd ≤ 9223372036854775807 ∧ wr.cell? ⟨bd, offd + j, none⟩ = some (.int .u8 ((mkA k : Nat) : Int))) := fun j hj => by
        obtain ⟨_, h1, h2, bd, offd, e, hcd⟩ := mk_cell hbd (by omega)
        refine ⟨bd, offd, e, h1, h2, ?_⟩
        have := hcd j (by omega)
        simpa using this
      have e250 := rem250 k
      have h250 : k % 250 < 250 := Nat.mod_lt _ (by decide)
      have HAT : Hid (mkA k = 1 + k % 250) := rfl
      generalize k % 250 = m250 at *
      clear hbd hbx hcx hd hx hm e70
      generalize wr = w9 at *
      go_wp2
      go_loopw [8] (fun i wx => wx = w9 ∧ ∃ p : Nat, p ≤ 2 * m + 70 ∧ i = .int .i64 (p : Int)) (fun i _ => 2 * m + 70 - (intOf i).toNat)
      case atStart => exact ⟨rfl, 0, Nat.zero_le _, rfl⟩
      case round =>
        obtain ⟨rfl, p, hp, rfl⟩ := hrel
        by_cases hlp : p < 2 * m + 70
        · have cp := HCX.out p hlp
          rw [HAT.out] at cp
          by_cases hpm : p < m
          · obtain ⟨bd, offd, rfl, hcd1, hcd2, cdp⟩ := HCD.out p hpm
            rw [HAT.out] at cdp
            clear HCX HCD
            go_wp2
            go_roundw
            case rel => exact ⟨trivial, p + 1, by omega, by go_num⟩
            case measure => simp [intOf]; omega
          · clear HCX HCD
            go_wp2
            go_roundw
            case rel => exact ⟨trivial, p + 1, by omega, by go_num⟩
            case measure => simp [intOf]; omega
        · obtain rfl : p = 2 * m + 70 := by omega
          clear HCX HCD
          go_wp2
          go_roundw
          case rel => exact ⟨trivial, k + 1, by omega, by go_num⟩
          case measure => simp [intOf]; omega
    · go_wp2
      go_ret
      exact ⟨rfl, rfl⟩
end Go.Proofs.YtebklbijpdphaaaDoor
