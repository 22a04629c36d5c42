/-
  A store into a block of another type: what stays.
-/
import Derived.Test.YtdoclmkldfemhaaDoorPlays2
import Derived.Test.YtdoclmkldfemhaaDoorSameAll
import Derived.Maps.AppendAt
import Derived.Laws.Rows
namespace Go.Proofs.YtdoclmkldfemhaaDoor
open Go Go.RowKit
open Wb

theorem own_set {B : Nat} {w : World} {v x : Value} {l : List Nat} {p : Addr} (h : Own B w v l) (hp : p.block < B) : Own B (w.setCell p x) v l := by
  refine ⟨⟨h.row.1, ?_⟩, h.good⟩
  rcases h.row.2 with h1 | ⟨g, cap, cur, rfl, h1, hg, rest⟩
  · exact .inl h1
  · exact .inr ⟨g, cap, cur, rfl, h1, (Below.heap_setCell w p x g (by omega)).trans hg, rest⟩
theorem row_set {B : Nat} {w : World} {v x : Value} {vs : List Value} {p : Addr} (h : Row B w v vs) (hp : p.block < B) : Row B (w.setCell p x) v vs := by
  refine ⟨h.1, ?_⟩
  rcases h.2 with h1 | ⟨g, cap, cur, rfl, h1, hg, rest⟩
  · exact .inl h1
  · exact .inr ⟨g, cap, cur, rfl, h1, (Below.heap_setCell w p x g (by omega)).trans hg, rest⟩
theorem ownP_set {B : Nat} {w : World} {v x : Value} {ls : List (List Nat)} {p : Addr} (h : OwnP B w v ls) (hp : p.block < B) : OwnP B (w.setCell p x) v ls := by
  obtain ⟨vs, h1, h2, h3⟩ := h
  exact ⟨vs, row_set h1 hp, h2, fun j a b => own_set (h3 j a b) hp⟩
theorem bk_set {w : World} {v x : Value} {l : List Nat} {p : Addr} (h : Bk w v l) (cs : Array Value) (t : TypeId) (z : Nat × Nat) (hp : w.heap[p.block]? = some (.cells cs t z)) (ht : t ≠ 5) : Bk (w.setCell p x) v l := by
  obtain ⟨hb, hty⟩ := h
  obtain ⟨ao, cap, rfl, hl, hm, hn, hc⟩ := hb.shape
  by_cases e : l = []
  · subst e
    exact ⟨⟨⟨ao, cap, rfl, hl, hm, hn, fun h => absurd rfl h⟩, ok_nil⟩, fun _ _ _ _ _ h => absurd rfl h⟩
  · obtain ⟨b, off, rfl, hcell⟩ := hc e
    obtain ⟨cs', z', h1⟩ := hty b off _ _ rfl e
    have hne : b ≠ p.block := by
      intro e2
      rw [e2, hp] at h1
      simp at h1
      exact ht h1.2.1
    have hblk := Below.heap_setCell w p x b hne
    refine ⟨⟨⟨_, cap, rfl, hl, hm, hn, fun _ => ⟨b, off, rfl, fun j hj => ?_⟩⟩, hb.good⟩, fun b' off' n' cap' e3 _ => ?_⟩
    · rw [World.cell?_of_block (w := w) (a := ⟨b, off + j, none⟩) hblk]
      exact hcell j hj
    · simp only [Value.slice.injEq, Option.some.injEq, Addr.mk.injEq] at e3
      obtain ⟨⟨rfl, _⟩, _⟩ := e3
      exact ⟨cs', z', hblk.trans h1⟩
theorem rowB_set {B : Nat} {w : World} {v x : Value} {ls : List (List Nat)} {p : Addr} (h : RowB B w v ls) (hb : p.block < B) (cs : Array Value) (t : TypeId) (z : Nat × Nat) (hp : w.heap[p.block]? = some (.cells cs t z)) (ht : t ≠ 5) : RowB B (w.setCell p x) v ls := by
  obtain ⟨vs, h1, h2, h3⟩ := h
  exact ⟨vs, row_set h1 hb, h2, fun j a b => bk_set (h3 j a b) cs t z hp ht⟩

theorem row_mono {B B' : Nat} {w : World} {v : Value} {vs : List Value} (h : Row B w v vs) (hB : B' ≤ B) : Row B' w v vs := by
  refine ⟨h.1, ?_⟩
  rcases h.2 with h1 | ⟨g, cap, cur, rfl, h1, rest⟩
  · exact .inl h1
  · exact .inr ⟨g, cap, cur, rfl, by omega, rest⟩
/-- a byte string of anyone's calls stays, while a row is written -/
theorem own_grown {B B' : Nat} {w w' : World} {v x : Value} {vs : List Value} {l : List Nat} (hr : Row B' w v vs) (hx : Own B w x l) (hg : w.grownBy w' v.ownBlock) : Own B w' x l := by
  refine ⟨⟨hx.row.1, ?_⟩, hx.good⟩
  rcases hx.row.2 with h1 | ⟨g, cap, cur, rfl, h1, hgg, rest⟩
  · exact .inl h1
  · refine .inr ⟨g, cap, cur, rfl, h1, ?_, rest⟩
    rw [hg.block g (Array.getElem?_eq_some_iff.1 hgg).1 ?_]
    · exact hgg
    · intro e
      rcases hr.2 with ⟨rfl, _⟩ | ⟨g', cap', cur', rfl, _, hg', _⟩
      · simp [Value.ownBlock] at e
      · simp [Value.ownBlock] at e
        subst e
        rw [hgg] at hg'
        simp at hg'
theorem ownP_grown {B : Nat} {w w' : World} {v : Value} {ls : List (List Nat)} {g0 : Option Nat} (h : OwnP B w v ls) (hg : w.grownBy w' g0) (h0 : ∀ k, g0 = some k → k < B) : OwnP B w' v ls := by
  have key : ∀ g, B ≤ g → g < w.heap.size → w'.heap[g]? = w.heap[g]? := fun g h1 h2 => hg.block g h2 (fun e => by have := h0 g e.symm; omega)
  obtain ⟨vs, h1, h2, h3⟩ := h
  refine ⟨vs, ⟨h1.1, ?_⟩, h2, fun j a b => ⟨⟨(h3 j a b).row.1, ?_⟩, (h3 j a b).good⟩⟩
  · rcases h1.2 with e | ⟨g, cap, cur, rfl, hB, hgg, rest⟩
    · exact .inl e
    · exact .inr ⟨g, cap, cur, rfl, hB, (key g hB (Array.getElem?_eq_some_iff.1 hgg).1).trans hgg, rest⟩
  · rcases (h3 j a b).row.2 with e | ⟨g, cap, cur, e, hB, hgg, rest⟩
    · exact .inl e
    · exact .inr ⟨g, cap, cur, e, hB, (key g hB (Array.getElem?_eq_some_iff.1 hgg).1).trans hgg, rest⟩

/-- append(v, x) of one value to a row, and where the new row lies -/
theorem wpList_push_at {P : Program} (w : World) {ops : Array Oper} {rest : List Oper} {o : Oper} {a : Act} {Q : Exit → Act → World → Prop} (hgd : o.guard = none) (s x : Operand) (t : TypeId)
    (ho : o.op = .call { callee := .builtin .append, args := #[s, x], argTypes := #[t, t] })
    (B : Nat) (hinfo : (P.info? 23).map (fun i => (i.zero, i.size, i.bytes)) = some (some (.slice none 0 0), 1, 24)) (ht : P.underlying t = some (.slice 23))
    (v : Value) (vs : List Value) (hv : a.eval s = v) (h : Row B w v vs) (g : Nat) (u : Value) (hx : a.eval x = .slice (some ⟨g, 0, none⟩) 1 1) (hu : w.cell? ⟨g, 0, none⟩ = some u) (h1 : u.oneCell' = true)
    (hmax : vs.length ≤ 5000000000) (hB : B ≤ w.heap.size)
    (hK : ∀ v' w', Row B w' v' (vs ++ [u]) → w.grownBy w' v.ownBlock → (v'.ownBlock = v.ownBlock ∨ v'.ownBlock = some w.heap.size) → wpList P ops Q rest (a.put o.dst v') w') : wpList P ops Q (o :: rest) a w := by
  obtain ⟨i0, hi, hz0, hz1, hz2⟩ := info_parts hinfo
  refine wpList_append_own_at w hgd s x t ho B 23 i0 (.slice none 0 0) 1 24 ht hi hz0 hz1 hz2 rfl (by decide) v vs.length vs hv h ⟨g, 0, none⟩ 1 1 [u] hx rfl ?_ (by intro y hy; simp at hy; subst hy; exact h1) (by unfold maxLen; omega) (by omega) hB ?_
  · intro j y hj
    match j, hj with
    | 0, hj => simp at hj; subst hj; simpa [Addr.add] using hu
  · intro v' w' h2 h3 _ h5
    refine hK v' w' ?_ h3 h5
    show w'.ownsRow B 23 1 v' (vs ++ [u]).length (vs ++ [u])
    rw [List.length_append]
    exact h2

theorem cell_two (w : World) (o : Obj) (c : Value) (t : TypeId) : ((w.alloc o).alloc (.cells #[c] t)).cell? ⟨w.heap.size + 1, 0, none⟩ = some c := by
  rw [show w.heap.size + 1 = (w.alloc o).heap.size from (by show w.heap.size + 1 = (w.heap.push o).size; simp)]
  exact World.cell?_alloc_new (w.alloc o) _ _ 0
theorem grown_trans {w6 wr wB w' : World} {g0 ob : Option Nat} (h : w6.grownBy wr g0) (hb : Below wr.heap.size wr wB) (hg : wB.grownBy w' ob) (ho : ob = g0 ∨ ∃ g, ob = some g ∧ w6.heap.size ≤ g) : w6.grownBy w' g0 := by
  refine ⟨hg.os.trans (hb.os.trans h.os), hg.tape.trans (hb.tape.trans h.tape), hg.output.trans (hb.output.trans h.output), Nat.le_trans h.size (Nat.le_trans hb.size hg.size), fun k hk hne => ?_⟩
  have h1 := h.size
  have h2 := hb.size
  rw [hg.block k (by omega) ?_, hb.block k (by omega), h.block k hk hne]
  rcases ho with rfl | ⟨g, rfl, hge⟩
  · exact hne
  · intro e
    have := Option.some.inj e
    omega
theorem bk_207 (w : World) (o : Obj) : Bk ((w.alloc (.cells #[.int .u8 207] 5)).alloc o) (.slice (some ⟨w.heap.size, 0, none⟩) 1 1) [207] :=
  (own_bk (Own.lit (B := 0) w [207] (ok_one (by decide)) (Nat.zero_le _) (by simp [maxLen]) #[.int .u8 207] rfl)).kept (up0 _ _)
theorem row_list {B : Nat} {w : World} {v : Value} {ls : List (List Nat)} (h : RowB B w v ls) (hp : 0 < ls.length) : ∃ g cap, v = .slice (some ⟨g, 0, none⟩) ls.length cap ∧ ls.length ≤ cap ∧ cap ≤ maxLen ∧ ∀ j (h : j < ls.length), ∃ vj, w.cell? ⟨g, j, none⟩ = some vj ∧ Bs w vj ls[j] := by
  obtain ⟨vs, h1, h2, h3⟩ := h
  rcases h1.shape with ⟨rfl, rfl⟩ | ⟨g, cap, rfl, hl, hm, hc⟩
  · simp at h2
    omega
  · exact ⟨g, cap, by rw [h2], by omega, hm, fun j hj => ⟨vs[j]'(by omega), hc j (by omega), (h3 j (by omega) hj).1⟩⟩
theorem list_ps {B : Nat} {w : World} {g cap n : Nat} {ls ex : List (List Nat)} (h : RowB B w (.slice (some ⟨g, 0, none⟩) n cap) (ls ++ ex)) : Ps w (.slice (some ⟨g, 0, none⟩) ls.length cap) ls := by
  obtain ⟨ao, cap', e, hm, hc⟩ := h.ps.shape
  simp only [Value.slice.injEq] at e
  obtain ⟨rfl, _, rfl⟩ := e
  rw [List.length_append] at hm
  refine ⟨_, _, rfl, by omega, fun hne => ?_⟩
  obtain ⟨b, off, e2, hcell⟩ := hc (by simp [hne])
  refine ⟨b, off, e2, fun j hj => ?_⟩
  obtain ⟨vj, h1, h2⟩ := hcell j (by rw [List.length_append]; omega)
  rw [List.getElem_append_left hj] at h2
  exact ⟨vj, h1, h2⟩
theorem list_more {B : Nat} {w : World} {g cap n : Nat} {ls ex : List (List Nat)} (h : RowB B w (.slice (some ⟨g, 0, none⟩) n cap) (ls ++ ex)) (k : Nat) (hk : k < ex.length) : ∃ vj, w.cell? ⟨g, ls.length + k, none⟩ = some vj ∧ Bs w vj ex[k] := by
  obtain ⟨ao, cap', e, hm, hc⟩ := h.ps.shape
  simp only [Value.slice.injEq] at e
  obtain ⟨rfl, _, rfl⟩ := e
  obtain ⟨b, off, e2, hcell⟩ := hc (List.ne_nil_of_length_pos (by rw [List.length_append]; omega))
  obtain ⟨vj, h1, h2⟩ := hcell (ls.length + k) (by rw [List.length_append]; omega)
  simp only [Option.some.injEq, Addr.mk.injEq, and_true] at e2
  obtain ⟨rfl, rfl⟩ := e2
  rw [List.getElem_append_right (by omega)] at h2
  simp only [Nat.add_sub_cancel_left] at h2
  rw [Nat.zero_add] at h1
  exact ⟨vj, h1, h2⟩
theorem box_new (w : World) (o : Obj) : (w.alloc o).heap[w.heap.size]? = some o := by
  show (w.heap.push o)[w.heap.size]? = some o
  simp
theorem box_size (w : World) (o : Obj) : (w.alloc o).heap.size = w.heap.size + 1 := by
  show (w.heap.push o).size = w.heap.size + 1
  simp

/-- a beginning of it -/
theorem bs_prefix {w : World} {ao : Option Addr} {cap : Nat} {R l x : List Nat} (h : Bs w (.slice ao R.length cap) R) (e : R = l ++ x) : Bs w (.slice ao l.length cap) l := by
  obtain ⟨ao', cap', e1, hl, hm, hn, hc⟩ := h.shape
  simp only [Value.slice.injEq] at e1
  obtain ⟨rfl, _, rfl⟩ := e1
  have hlen : l.length ≤ R.length := by rw [e, List.length_append]; omega
  refine ⟨⟨ao, cap, rfl, by omega, hm, hn, fun hne => ?_⟩, fun y hy => h.good y (by rw [e]; exact List.mem_append_left _ hy)⟩
  obtain ⟨b, off, rfl, hcell⟩ := hc (by rw [e]; simp [hne])
  refine ⟨b, off, rfl, fun j hj => ?_⟩
  rw [hcell j (by omega)]
  simp [e, List.getElem_append_left hj]
end Go.Proofs.YtdoclmkldfemhaaDoor
