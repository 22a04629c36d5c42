/-
  LiftUps and its kin: rows of records and rows of byte strings that grow beside one another.
-/
import Derived.Test.YtggenlnknnhjgaaLe2
namespace Go.Proofs.Ytggenlnknnhjgaa
open Go Go.RowKit
open Wb

theorem infoBS : (Try.prog.info? 23).map (fun i => (i.zero, i.size, i.bytes)) = some (some (.slice none 0 0), 1, 24) := by kernel_rfl
/-- append(v, x) of one record; where the row lies behind it -/
theorem wpList_append_rec2 {P : Program} (w : World) {ops : Array Oper} {rest : List Oper} {o : Oper} {a : Act} {Q : Exit → Act → World → Prop} (hgd : o.guard = none) (s x : Operand) (t : TypeId)
    (ho : o.op = .call { callee := .builtin .append, args := #[s, x], argTypes := #[t, t] })
    (B : Nat) (hinfo : (P.info? 25).map (fun i => (i.zero, i.size, i.bytes)) = some (some (.agg #[.int .i64 0, .int .i64 0, .int .i64 0, .int .i64 0, .int .i64 0, .int .i64 0, .int .i64 0, .int .i64 0, .int .i64 0, .int .i64 0, .string ⟨#[]⟩, .slice none 0 0]), 12, 120)) (ht : P.underlying t = some (.slice 25))
    (v : Value) (ps : List (Rec × Value)) (q : Rec × Value) (hv : a.eval s = v) (h : Outs B w v ps) (g : Nat) (hx : a.eval x = .slice (some ⟨g, 0, none⟩) 1 1)
    (hc : w.rangeAt g 0 (rcl q)) (hq : q.2.oneCell' = true) (hq2 : Bs w q.2 q.1.l) (hqo : ∀ g, v.ownBlock = some g → Off g q.2 q.1.l)
    (hmax : (ps.length + 1) * 120 ≤ 140737488355328) (hB : B ≤ w.heap.size)
    (hK : ∀ v' w', Outs B w' v' (ps ++ [q]) → w.grownBy w' v.ownBlock → (v'.ownBlock = v.ownBlock ∨ v'.ownBlock = some w.heap.size) → wpList P ops Q rest (a.put o.dst v') w') : wpList P ops Q (o :: rest) a w := by
  obtain ⟨i0, hi, hz0, hz1, hz2⟩ := Lft.info_parts3 hinfo
  refine wpList_append_own_at w hgd s x t ho B 25 i0 _ 12 120 ht hi hz0 hz1 hz2 rfl (by decide) v ps.length (ps.flatMap rcl) hv h.1 ⟨g, 0, none⟩ 1 1 (rcl q) hx rfl ?_ ?_ (by unfold maxLen; omega) (by omega) hB ?_
  · intro j u hj
    have := hc j u hj
    rw [Addr.add_lit]
    exact this
  · intro u hu
    simp only [rcl, List.mem_cons, List.not_mem_nil, or_false] at hu
    rcases hu with rfl | rfl | rfl | rfl | rfl | rfl | rfl | rfl | rfl | rfl | rfl | rfl
    all_goals first | rfl | exact hq
  · intro v' w' h2 h3 _ h5
    have hown : w'.ownsRow B 25 12 v' (ps ++ [q]).length ((ps ++ [q]).flatMap rcl) := by
      rw [List.length_append, List.flatMap_append]
      simpa using h2
    have hof : ∀ p : Rec × Value, Bs w p.2 p.1.l → (∀ g, v.ownBlock = some g → Off g p.2 p.1.l) → Bs w' p.2 p.1.l ∧ ∀ g, v'.ownBlock = some g → Off g p.2 p.1.l := fun p hb ho => ⟨bs_grown hb h3 ho, fun g hg => by
      rcases h5 with e | e
      · exact ho g (e ▸ hg)
      · rw [e] at hg
        exact off_of hb g (Nat.le_of_eq (Option.some.inj hg))⟩
    refine hK v' w' ⟨hown, fun p hp => ?_⟩ h3 h5
    rcases List.mem_append.1 hp with hp | hp
    · exact hof p (h.2 p hp).1 (h.2 p hp).2
    · obtain rfl := List.mem_singleton.1 hp
      exact hof _ hq2 hqo
/-- byte strings in a row of its own -/
def Rows1 (B : Nat) (w : World) (v : Value) (qs : List (List Nat × Value)) : Prop := w.ownsRow B 23 1 v qs.length (qs.map Prod.snd) ∧ ∀ q ∈ qs, Bs w q.2 q.1 ∧ ∀ g, v.ownBlock = some g → Off g q.2 q.1
theorem Rows1.nil (B : Nat) (w : World) : Rows1 B w (.slice none 0 0) [] := ⟨World.ownsRow_nil _ _ _ _, fun _ h => by cases h⟩
theorem owns_kept {B : Nat} {w w' : World} {v : Value} {n s : Nat} {t : TypeId} {cs : List Value} (h : w.ownsRow B t s v n cs) (hb : Below w.heap.size w w') : w'.ownsRow B t s v n cs := by
  refine ⟨h.1, ?_⟩
  rcases h.2 with h1 | ⟨g, cap, cur, rfl, h1, hg, rest⟩
  · exact .inl h1
  · exact .inr ⟨g, cap, cur, rfl, h1, (hb.block g (Array.getElem?_eq_some_iff.1 hg).1).trans hg, rest⟩
theorem owns_grown {B : Nat} {w w' : World} {v : Value} {n s : Nat} {t : TypeId} {cs : List Value} {row : Option Nat} (h : w.ownsRow B t s v n cs) (hg : w.grownBy w' row) (ho : ∀ g, row = some g → v.ownBlock ≠ some g) : w'.ownsRow B t s v n cs := by
  refine ⟨h.1, ?_⟩
  rcases h.2 with h1 | ⟨g, cap, cur, rfl, h1, hg0, rest⟩
  · exact .inl h1
  · exact .inr ⟨g, cap, cur, rfl, h1, (hg.block g (Array.getElem?_eq_some_iff.1 hg0).1 (fun e => ho g e.symm rfl)).trans hg0, rest⟩
theorem owns_same {B : Nat} {w w' : World} {v : Value} {n s : Nat} {t : TypeId} {cs : List Value} (h : w.ownsRow B t s v n cs) (hg : ∀ g, B ≤ g → w'.heap[g]? = w.heap[g]?) : w'.ownsRow B t s v n cs := by
  refine ⟨h.1, ?_⟩
  rcases h.2 with h1 | ⟨g, cap, cur, rfl, h1, hg0, rest⟩
  · exact .inl h1
  · exact .inr ⟨g, cap, cur, rfl, h1, (hg g h1).trans hg0, rest⟩
theorem bs_same {B : Nat} {w w' : World} {d : Value} {l : List Nat} (h : Bs w d l) (hg : ∀ g, B ≤ g → w'.heap[g]? = w.heap[g]?) (ho : ∀ g, g < B → Off g d l) : Bs w' d l := by
  obtain ⟨ao, cap, rfl, h1, h2, h3, h4⟩ := h.shape
  refine ⟨⟨ao, cap, rfl, h1, h2, h3, fun hne => ?_⟩, h.good⟩
  obtain ⟨b, off, rfl, hc⟩ := h4 hne
  refine ⟨b, off, rfl, fun j hj => ?_⟩
  rw [← hc j hj]
  refine World.cell?_of_block (w := w) (hg b ?_)
  exact Nat.le_of_not_lt fun hlt => ho b hlt hne b off _ _ rfl rfl
theorem Rows1.kept {B : Nat} {w w' : World} {v : Value} {qs : List (List Nat × Value)} (h : Rows1 B w v qs) (hb : Below w.heap.size w w') : Rows1 B w' v qs := ⟨owns_kept h.1 hb, fun p hp => ⟨(h.2 p hp).1.kept hb, (h.2 p hp).2⟩⟩
/-- append(v, x) of one byte string -/
theorem wpList_append_bs2 {P : Program} (w : World) {ops : Array Oper} {rest : List Oper} {o : Oper} {a : Act} {Q : Exit → Act → World → Prop} (hgd : o.guard = none) (s x : Operand) (t : TypeId)
    (ho : o.op = .call { callee := .builtin .append, args := #[s, x], argTypes := #[t, t] })
    (B : Nat) (hinfo : (P.info? 23).map (fun i => (i.zero, i.size, i.bytes)) = some (some (.slice none 0 0), 1, 24)) (ht : P.underlying t = some (.slice 23))
    (v : Value) (qs : List (List Nat × Value)) (q : List Nat × Value) (hv : a.eval s = v) (h : Rows1 B w v qs) (g : Nat) (hx : a.eval x = .slice (some ⟨g, 0, none⟩) 1 1)
    (hc : w.cell? ⟨g, 0, none⟩ = some q.2) (hq : q.2.oneCell' = true) (hq2 : Bs w q.2 q.1) (hqo : ∀ g, v.ownBlock = some g → Off g q.2 q.1)
    (hmax : (qs.length + 1) * 24 ≤ 140737488355328) (hB : B ≤ w.heap.size)
    (hK : ∀ v' w', Rows1 B w' v' (qs ++ [q]) → w.grownBy w' v.ownBlock → (v'.ownBlock = v.ownBlock ∨ v'.ownBlock = some w.heap.size) → wpList P ops Q rest (a.put o.dst v') w') : wpList P ops Q (o :: rest) a w := by
  obtain ⟨i0, hi, hz0, hz1, hz2⟩ := Lft.info_parts3 hinfo
  refine wpList_append_own_at w hgd s x t ho B 23 i0 _ 1 24 ht hi hz0 hz1 hz2 rfl (by decide) v qs.length (qs.map Prod.snd) hv h.1 ⟨g, 0, none⟩ 1 1 [q.2] hx rfl ?_ ?_ (by unfold maxLen; omega) (by omega) hB ?_
  · intro j u hj
    cases j with
    | zero =>
      obtain rfl : q.2 = u := by simpa using hj
      rw [Addr.add_lit]
      exact hc
    | succ j => simp at hj
  · intro u hu
    obtain rfl := List.mem_singleton.1 hu
    exact hq
  · intro v' w' h2 h3 _ h5
    have hown : w'.ownsRow B 23 1 v' (qs ++ [q]).length ((qs ++ [q]).map Prod.snd) := by
      rw [List.length_append, List.map_append]
      simpa using h2
    have hof : ∀ p : List Nat × Value, Bs w p.2 p.1 → (∀ g, v.ownBlock = some g → Off g p.2 p.1) → Bs w' p.2 p.1 ∧ ∀ g, v'.ownBlock = some g → Off g p.2 p.1 := fun p hb ho => ⟨bs_grown hb h3 ho, fun g hg => by
      rcases h5 with e | e
      · exact ho g (e ▸ hg)
      · rw [e] at hg
        exact off_of hb g (Nat.le_of_eq (Option.some.inj hg))⟩
    refine hK v' w' ⟨hown, fun p hp => ?_⟩ h3 h5
    rcases List.mem_append.1 hp with hp | hp
    · exact hof p (h.2 p hp).1 (h.2 p hp).2
    · obtain rfl := List.mem_singleton.1 hp
      exact hof _ hq2 hqo
/-- a row of records and a row of byte strings, apart; nothing of them lies below B -/
structure Laid (B : Nat) (w : World) (m u : Value) (ps : List (Rec × Value)) (qs : List (List Nat × Value)) : Prop where
  recs : Outs B w m ps
  rows : Rows1 B w u qs
  apart : ∀ g, m.ownBlock = some g → u.ownBlock ≠ some g
  mq : ∀ g, m.ownBlock = some g → ∀ q ∈ qs, Off g q.2 q.1
  up : ∀ g, u.ownBlock = some g → ∀ p ∈ ps, Off g p.2 p.1.l
  lowp : ∀ g, g < B → ∀ p ∈ ps, Off g p.2 p.1.l
  lowq : ∀ g, g < B → ∀ q ∈ qs, Off g q.2 q.1
theorem Laid.nil (B : Nat) (w : World) : Laid B w (.slice none 0 0) (.slice none 0 0) [] [] := ⟨Outs.nil _ _, Rows1.nil _ _, (fun _ h => nomatch h), (fun _ h => nomatch h), (fun _ h => nomatch h), (fun _ _ _ h => nomatch h), (fun _ _ _ h => nomatch h)⟩
theorem Laid.kept {B : Nat} {w w' : World} {m u : Value} {ps : List (Rec × Value)} {qs : List (List Nat × Value)} (h : Laid B w m u ps qs) (hb : Below w.heap.size w w') : Laid B w' m u ps qs := ⟨h.recs.kept hb, h.rows.kept hb, h.apart, h.mq, h.up, h.lowp, h.lowq⟩
theorem Laid.same {B : Nat} {w w' : World} {m u : Value} {ps : List (Rec × Value)} {qs : List (List Nat × Value)} (h : Laid B w m u ps qs) (hg : ∀ g, B ≤ g → w'.heap[g]? = w.heap[g]?) : Laid B w' m u ps qs :=
  ⟨⟨owns_same h.recs.1 hg, fun p hp => ⟨bs_same (h.recs.2 p hp).1 hg (fun g hlt => h.lowp g hlt p hp), (h.recs.2 p hp).2⟩⟩, ⟨owns_same h.rows.1 hg, fun q hq => ⟨bs_same (h.rows.2 q hq).1 hg (fun g hlt => h.lowq g hlt q hq), (h.rows.2 q hq).2⟩⟩, h.apart, h.mq, h.up, h.lowp, h.lowq⟩
/-- the records' row grew -/
theorem Laid.more {B : Nat} {w w' : World} {m m' u : Value} {ps : List (Rec × Value)} {qs : List (List Nat × Value)} (h : Laid B w m u ps qs) (p : Rec × Value) (h1 : Outs B w' m' (ps ++ [p])) (h2 : w.grownBy w' m.ownBlock) (h3 : m'.ownBlock = m.ownBlock ∨ m'.ownBlock = some w.heap.size)
    (h4 : ∀ g, u.ownBlock = some g → Off g p.2 p.1.l) (h5 : ∀ g, g < B → Off g p.2 p.1.l) : Laid B w' m' u (ps ++ [p]) qs := by
  have hnew : ∀ g, m'.ownBlock = some g → m.ownBlock = some g ∨ w.heap.size = g := fun g hg => by
    rcases h3 with e | e
    · exact .inl (e ▸ hg)
    · exact .inr (Option.some.inj (e.symm.trans hg))
  refine ⟨h1, ⟨owns_grown h.rows.1 h2 h.apart, fun q hq => ⟨bs_grown (h.rows.2 q hq).1 h2 (fun g hg => h.mq g hg q hq), (h.rows.2 q hq).2⟩⟩, fun g hg hu => ?_, fun g hg q hq => ?_, fun g hg q hq => ?_, fun g hg q hq => ?_, h.lowq⟩
  · rcases hnew g hg with e | e
    · exact h.apart g e hu
    · have := (World.ownsRow.lt h.rows.1 g hu).2
      omega
  · rcases hnew g hg with e | e
    · exact h.mq g e q hq
    · exact off_of (h.rows.2 q hq).1 g (Nat.le_of_eq e)
  · rcases List.mem_append.1 hq with hq | hq
    · exact h.up g hg q hq
    · obtain rfl := List.mem_singleton.1 hq
      exact h4 g hg
  · rcases List.mem_append.1 hq with hq | hq
    · exact h.lowp g hg q hq
    · obtain rfl := List.mem_singleton.1 hq
      exact h5 g hg
/-- the byte strings' row grew -/
theorem Laid.row {B : Nat} {w w' : World} {m u u' : Value} {ps : List (Rec × Value)} {qs : List (List Nat × Value)} (h : Laid B w m u ps qs) (q : List Nat × Value) (h1 : Rows1 B w' u' (qs ++ [q])) (h2 : w.grownBy w' u.ownBlock) (h3 : u'.ownBlock = u.ownBlock ∨ u'.ownBlock = some w.heap.size)
    (h4 : ∀ g, m.ownBlock = some g → Off g q.2 q.1) (h5 : ∀ g, g < B → Off g q.2 q.1) : Laid B w' m u' ps (qs ++ [q]) := by
  have hnew : ∀ g, u'.ownBlock = some g → u.ownBlock = some g ∨ w.heap.size = g := fun g hg => by
    rcases h3 with e | e
    · exact .inl (e ▸ hg)
    · exact .inr (Option.some.inj (e.symm.trans hg))
  refine ⟨⟨owns_grown h.recs.1 h2 (fun g hg hm => h.apart g hm hg), fun p hp => ⟨bs_grown (h.recs.2 p hp).1 h2 (fun g hg => h.up g hg p hp), (h.recs.2 p hp).2⟩⟩, h1, fun g hg hu => ?_, fun g hg p hp => ?_, fun g hg p hp => ?_, h.lowp, fun g hg p hp => ?_⟩
  · rcases hnew g hu with e | e
    · exact h.apart g hg e
    · have := (World.ownsRow.lt h.recs.1 g hg).2
      omega
  · rcases List.mem_append.1 hp with hp | hp
    · exact h.mq g hg p hp
    · obtain rfl := List.mem_singleton.1 hp
      exact h4 g hg
  · rcases hnew g hg with e | e
    · exact h.up g e p hp
    · exact off_of (h.recs.2 p hp).1 g (Nat.le_of_eq e)
  · rcases List.mem_append.1 hp with hp | hp
    · exact h.lowq g hg p hp
    · obtain rfl := List.mem_singleton.1 hp
      exact h5 g hg
theorem grown_below {B : Nat} {w w' : World} {v : Value} {n s : Nat} {t : TypeId} {cs : List Value} (h : w.ownsRow B t s v n cs) (hg : w.grownBy w' v.ownBlock) (hB : B ≤ w.heap.size) : Below B w w' := (Below.refl B w).grown hg hB (fun k hk => (World.ownsRow.lt h k hk).1)
/-- handed in as a list of records -/
theorem Outs.recsAt {B : Nat} {w : World} {v : Value} {ps : List (Rec × Value)} (h : Outs B w v ps) : RecsAt w v (ps.map Prod.fst) := by
  obtain ⟨ao, cap, rfl, h1, h2, h3⟩ := h.shape
  have hle : ps.length ≤ maxLen := by
    rcases h.1.2 with ⟨_, h1⟩ | ⟨g, cap, cur, e, hb, hg, h1, h2, _⟩
    · rw [h1]; exact Nat.zero_le _
    · exact Nat.le_trans h1 h2
  refine ⟨ao, cap, by rw [List.length_map], by rw [List.length_map]; exact hle, fun k r hr => ?_⟩
  obtain ⟨p, hp, rfl⟩ : ∃ p, ps[k]? = some p ∧ p.1 = r := by simpa using hr
  have hk : k < ps.length := (List.getElem?_eq_some_iff.1 hp).1
  obtain ⟨g, rfl⟩ := h2 k hk
  have h4 := h3 g rfl k hk
  have e : ps[k] = p := (List.getElem?_eq_some_iff.1 hp).2
  rw [e] at h4
  exact ⟨g, 0, p.2, rfl, by rw [Nat.zero_add]; exact h4, (h.2 p (List.mem_of_getElem? hp)).1⟩
theorem Rows1.ps {B : Nat} {w : World} {v : Value} {qs : List (List Nat × Value)} (h : Rows1 B w v qs) : Ps w v (qs.map Prod.fst) := by
  have h0 := h.1
  rcases h.1.2 with ⟨rfl, h1⟩ | ⟨g, cap, cur, rfl, hb, hg, h1, h2, h3, h4⟩
  · have : qs = [] := List.eq_nil_of_length_eq_zero h1
    subst this
    exact ⟨⟨none, 0, rfl, by simp [maxLen], fun h => absurd rfl h⟩⟩
  · refine ⟨⟨some ⟨g, 0, none⟩, cap, by rw [List.length_map], by rw [List.length_map]; exact Nat.le_trans h1 h2, fun _ => ⟨g, 0, rfl, fun j hj => ?_⟩⟩⟩
    have hj' : j < qs.length := by simpa using hj
    refine ⟨qs[j].2, ?_, ?_⟩
    · rw [Nat.zero_add, World.ownsRow.cellAt h0 j (by omega), List.getElem?_map, List.getElem?_eq_getElem hj']
      rfl
    · have := (h.2 qs[j] (List.getElem_mem hj')).1
      simpa using this
end Go.Proofs.Ytggenlnknnhjgaa
