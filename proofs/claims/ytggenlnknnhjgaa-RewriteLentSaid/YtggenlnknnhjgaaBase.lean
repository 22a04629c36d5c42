/-
  BYTE STRINGS IN MEMORY: 'Bs': a slice value that holds a list of bytes; 'Own': one that lies in a row of the call's own; 'Ps': a slice of such slices.
-/
import Derived.WalkKit
import Derived.Laws.AppendOwnNone
namespace Go.Proofs.Ytggenlnknnhjgaa
open Go Go.RowKit

namespace Wb
def bv (l : List Nat) : List Value := l.map fun (n : Nat) => Value.int .u8 (n : Int)
def ok (l : List Nat) : Prop := ∀ x ∈ l, x < 256
theorem bv_length (l : List Nat) : (bv l).length = l.length := by simp [bv]
theorem bv_append (a b : List Nat) : bv (a ++ b) = bv a ++ bv b := by simp [bv]
theorem bv_get (l : List Nat) (j : Nat) (h : j < l.length) : (bv l)[j]? = some (.int .u8 (l[j] : Int)) := by simp [bv, h]
theorem bv_one (l : List Nat) : ∀ u ∈ bv l, u.oneCell' = true := by
  intro u hu
  obtain ⟨_, _, rfl⟩ := List.mem_map.1 hu
  rfl
theorem ok_append {a b : List Nat} (h : ok a) (k : ok b) : ok (a ++ b) := by
  intro x hx
  rcases List.mem_append.1 hx with h1 | h1
  · exact h x h1
  · exact k x h1
theorem ok_nil : ok [] := by intro x hx; cases hx
theorem ok_one {n : Nat} (h : n < 256) : ok [n] := by intro x hx; simp at hx; omega
theorem ok_take {l : List Nat} (h : ok l) (k : Nat) : ok (l.take k) := fun x hx => h x (List.mem_of_mem_take hx)
theorem ok_drop {l : List Nat} (h : ok l) (k : Nat) : ok (l.drop k) := fun x hx => h x (List.mem_of_mem_drop hx)
theorem ok_get {l : List Nat} (h : ok l) (k : Nat) (hk : k < l.length) : l[k] < 256 := h _ (List.getElem_mem hk)
theorem ok_getD {l : List Nat} (h : ok l) (k : Nat) : l.getD k 0 < 256 := by
  by_cases hk : k < l.length
  · rw [List.getD_eq_getElem?_getD, List.getElem?_eq_getElem hk]; exact h _ (List.getElem_mem hk)
  · rw [List.getD_eq_getElem?_getD, List.getElem?_eq_none (by omega)]; decide

/-- A slice value that holds these bytes. -/
structure Bs (w : World) (v : Value) (l : List Nat) : Prop where
  shape : ∃ ao cap, v = .slice ao l.length cap ∧ l.length ≤ cap ∧ cap ≤ maxLen ∧ (ao = none → cap = 0) ∧
    (l ≠ [] → ∃ b off, ao = some ⟨b, off, none⟩ ∧ ∀ j (h : j < l.length), w.cell? ⟨b, off + j, none⟩ = some (.int .u8 (l[j] : Int)))
  good : ok l

theorem Bs.nil (w : World) : Bs w (.slice none 0 0) [] := ⟨⟨none, 0, rfl, Nat.le_refl _, by simp [maxLen], fun _ => rfl, fun h => absurd rfl h⟩, ok_nil⟩
/-- the two shapes -/
theorem Bs.cases {w : World} {v : Value} {l : List Nat} (h : Bs w v l) :
    (l = [] ∧ ∃ ao cap, v = .slice ao 0 cap ∧ cap ≤ maxLen ∧ (ao = none → cap = 0)) ∨
    (0 < l.length ∧ ∃ b off cap, v = .slice (some ⟨b, off, none⟩) l.length cap ∧ l.length ≤ cap ∧ cap ≤ maxLen ∧ ∀ j (h : j < l.length), w.cell? ⟨b, off + j, none⟩ = some (.int .u8 (l[j] : Int))) := by
  obtain ⟨ao, cap, rfl, hl, hm, hn, hc⟩ := h.shape
  by_cases e : l = []
  · subst e; exact .inl ⟨rfl, ao, cap, rfl, hm, hn⟩
  · obtain ⟨b, off, rfl, hcell⟩ := hc e
    exact .inr ⟨List.length_pos_iff.2 e, b, off, cap, rfl, hl, hm, hcell⟩
theorem Bs.lt {w : World} {b off cap : Nat} {l : List Nat} (h : Bs w (.slice (some ⟨b, off, none⟩) l.length cap) l) (hl : 0 < l.length) : b < w.heap.size := by
  obtain ⟨ao, cap', e, _, _, _, hc⟩ := h.shape
  obtain ⟨b', off', rfl, hcell⟩ := hc (List.ne_nil_of_length_pos hl)
  simp only [Value.slice.injEq, Option.some.injEq, Addr.mk.injEq, and_true, true_and] at e
  obtain ⟨⟨rfl, rfl⟩, rfl⟩ := e
  exact World.block_lt_of_cell? _ _ (hcell 0 hl)
/-- it stays so as long as what was there stays -/
theorem Bs.kept {w w' : World} {v : Value} {l : List Nat} (h : Bs w v l) (hb : Below w.heap.size w w') : Bs w' v l := by
  refine ⟨?_, h.good⟩
  obtain ⟨ao, cap, rfl, hl, hm, hn, hc⟩ := h.shape
  refine ⟨ao, cap, rfl, hl, hm, hn, fun hne => ?_⟩
  obtain ⟨b, off, rfl, hcell⟩ := hc hne
  exact ⟨b, off, rfl, fun j hj => (hb.cell (p := ⟨b, off + j, none⟩) (World.block_lt_of_cell? _ _ (hcell j hj))).trans (hcell j hj)⟩
theorem Bs.alloc {w : World} {v : Value} {l : List Nat} (h : Bs w v l) (o : Obj) : Bs (w.alloc o) v l := h.kept ((Below.refl _ _).alloc (Nat.le_refl _) o)
theorem Bs.drew {w : World} {v : Value} {l : List Nat} (h : Bs w v l) : Bs w.drew v l := h.kept ((Below.refl _ _).drew)
theorem Bs.len_le {w : World} {v : Value} {l : List Nat} (h : Bs w v l) : l.length ≤ maxLen := by
  obtain ⟨ao, cap, rfl, hl, hm, _⟩ := h.shape
  omega

/-- a piece of it -/
theorem Bs.sub {w : World} {b off cap : Nat} {l : List Nat} (h : Bs w (.slice (some ⟨b, off, none⟩) l.length cap) l) (lo hi : Nat) (h1 : lo < hi) (h2 : hi ≤ l.length) :
    Bs w (.slice (some ⟨b, off + lo, none⟩) (hi - lo) (cap - lo)) ((l.take hi).drop lo) := by
  obtain ⟨ao, cap', e, hl, hm, _, hc⟩ := h.shape
  obtain ⟨b', off', rfl, hcell⟩ := hc (List.ne_nil_of_length_pos (by omega))
  simp only [Value.slice.injEq, Option.some.injEq, Addr.mk.injEq, and_true, true_and] at e
  obtain ⟨⟨rfl, rfl⟩, rfl⟩ := e
  have hlen : ((l.take hi).drop lo).length = hi - lo := by simp; omega
  refine ⟨⟨_, _, by rw [hlen], by omega, by omega, fun e => (by cases e), fun _ => ⟨b, off + lo, rfl, fun j hj => ?_⟩⟩, ok_drop (ok_take h.good _) _⟩
  rw [hlen] at hj
  rw [Nat.add_assoc, hcell (lo + j) (by omega)]
  simp

/-- A slice value in a row of the call's own, from block B on. -/
structure Own (B : Nat) (w : World) (v : Value) (l : List Nat) : Prop where
  row : w.ownsRow B 5 1 v l.length (bv l)
  good : ok l
theorem Own.nil (B : Nat) (w : World) : Own B w (.slice none 0 0) [] := ⟨World.ownsRow_nil _ _ _ _, ok_nil⟩
theorem Own.shape {B : Nat} {w : World} {v : Value} {l : List Nat} (h : Own B w v l) : (v = .slice none 0 0 ∧ l = []) ∨ ∃ g cap, v = .slice (some ⟨g, 0, none⟩) l.length cap ∧ B ≤ g ∧ g < w.heap.size ∧ l.length ≤ cap ∧ cap ≤ maxLen ∧ (∀ j (h : j < l.length), w.cell? ⟨g, j, none⟩ = some (.int .u8 (l[j] : Int))) := by
  have h0 := h.row
  rcases h.row.2 with ⟨rfl, h1⟩ | ⟨g, cap, cur, rfl, hb, hg, h1, h2, h3, h4⟩
  · exact .inl ⟨rfl, List.eq_nil_of_length_eq_zero h1⟩
  · refine .inr ⟨g, cap, rfl, hb, (Array.getElem?_eq_some_iff.1 hg).1, h1, h2, fun j hj => ?_⟩
    rw [h0.cellAt j (by omega), bv_get l j hj]
theorem Own.bs {B : Nat} {w : World} {v : Value} {l : List Nat} (h : Own B w v l) : Bs w v l := by
  refine ⟨?_, h.good⟩
  rcases h.shape with ⟨rfl, rfl⟩ | ⟨g, cap, rfl, _, _, h1, h2, hc⟩
  · exact (Bs.nil w).shape
  · exact ⟨some ⟨g, 0, none⟩, cap, rfl, h1, h2, fun e => (by cases e), fun _ => ⟨g, 0, rfl, fun j hj => by rw [Nat.zero_add]; exact hc j hj⟩⟩
theorem Own.kept {B : Nat} {w w' : World} {v : Value} {l : List Nat} (h : Own B w v l) (hb : Below w.heap.size w w') : Own B w' v l := by
  refine ⟨⟨h.row.1, ?_⟩, h.good⟩
  rcases h.row.2 with h1 | ⟨g, cap, cur, rfl, h1, hg, rest⟩
  · exact .inl h1
  · exact .inr ⟨g, cap, cur, rfl, h1, (hb.block g (Array.getElem?_eq_some_iff.1 hg).1).trans hg, rest⟩
theorem Own.alloc {B : Nat} {w : World} {v : Value} {l : List Nat} (h : Own B w v l) (o : Obj) : Own B (w.alloc o) v l := h.kept ((Below.refl _ _).alloc (Nat.le_refl _) o)
theorem Own.mono {B B' : Nat} {w : World} {v : Value} {l : List Nat} (h : Own B w v l) (hB : B' ≤ B) : Own B' w v l := by
  refine ⟨⟨h.row.1, ?_⟩, h.good⟩
  rcases h.row.2 with h1 | ⟨g, cap, cur, rfl, h1, rest⟩
  · exact .inl h1
  · exact .inr ⟨g, cap, cur, rfl, by omega, rest⟩
/-- a literal []byte{..} -/
theorem Own.lit {B : Nat} (w : World) (l : List Nat) (hl : ok l) (hB : B ≤ w.heap.size) (hm : l.length ≤ maxLen) (cs : Array Value) (hcs : cs.toList = bv l) : Own B (w.alloc (.cells cs 5)) (.slice (some ⟨w.heap.size, 0, none⟩) l.length l.length) l := by
  have h := World.ownsRow_lit (base := B) (e := 5) (size := 1) w cs l.length hB hm (by rw [← Array.length_toList, hcs, bv_length, Nat.mul_one])
  rw [hcs] at h
  exact ⟨h, hl⟩

theorem Bs.one (w : World) (n : Nat) (h : n < 256) (x : Int) (hx : x = (n : Int)) : Bs (w.alloc (.cells #[.int .u8 x] 5)) (.slice (some ⟨w.heap.size, 0, none⟩) 1 1) [n] := by
  subst hx
  exact (Own.lit (B := 0) w [n] (ok_one h) (Nat.zero_le _) (by simp [maxLen]) #[.int .u8 (n : Int)] rfl).bs

/-- append(v, x...) of bytes onto a row of the call's own: for the walk. -/
theorem wpList_append {P : Program} (w : World) {ops : Array Oper} {rest : List Oper} {o : Oper} {a : Act} {Q : Exit → Act → World → Prop} (hgd : o.guard = none) (s x : Operand) (t : TypeId)
    (ho : o.op = .call { callee := .builtin .append, args := #[s, x], argTypes := #[t, t] })
    (B : Nat) (hinfo : (P.info? 5).map (fun i => (i.zero, i.size, i.bytes)) = some (some (.int .u8 0), 1, 1)) (ht : P.underlying t = some (.slice 5))
    (v : Value) (l : List Nat) (hv : a.eval s = v) (h : Own B w v l) (xv : Value) (m : List Nat) (hx : a.eval x = xv) (hm : Bs w xv m)
    (hmax : l.length + m.length ≤ 140737488355328) (hB : B ≤ w.heap.size)
    (hK : ∀ v' w', Own B w' v' (l ++ m) → Below B w w' → w.grownBy w' v.ownBlock → wpList P ops Q rest (a.put o.dst v') w') : wpList P ops Q (o :: rest) a w := by
  obtain ⟨i0, hi, hz0, hz1, hz2⟩ := info_parts hinfo
  have lift : ∀ v' w', w'.ownsRow B 5 1 v' (l.length + m.length) (bv l ++ bv m) → w.grownBy w' v.ownBlock → Own B w' v' (l ++ m) ∧ Below B w w' := by
    intro v' w' h1 h2
    refine ⟨⟨?_, ok_append h.good hm.good⟩, (Below.refl B w).grown h2 hB (fun k hk => (h.row.lt k hk).1)⟩
    rw [List.length_append, bv_append]
    exact h1
  obtain ⟨ao, cap, rfl, hl, hmx, hn, hc⟩ := hm.shape
  cases ao with
  | none =>
    obtain rfl := hn rfl
    have h0 : m = [] := List.eq_nil_of_length_eq_zero (by omega)
    subst h0
    refine wpList_append_own_none hgd s x t ho B 5 i0 1 ht hi v l.length (bv l) hv h.row hx ?_
    have := hK v w (by simpa using h) (Below.refl _ _) (World.grownBy.refl _ _)
    exact this
  | some ad =>
    refine wpList_append_own w hgd s x t ho B 5 i0 (.int .u8 0) 1 1 ht hi hz0 hz1 hz2 rfl (by decide) v l.length (bv l) hv h.row ad m.length cap (bv m) hx (by rw [bv_length, Nat.mul_one]) ?_ (bv_one m) (by unfold maxLen; omega) (by omega) hB ?_
    · intro j u hj
      have hjl : j < m.length := by have := (List.getElem?_eq_some_iff.1 hj).1; rwa [bv_length] at this
      obtain ⟨b, off, e, hcell⟩ := hc (List.ne_nil_of_length_pos (by omega))
      obtain rfl := Option.some.inj e
      rw [bv_get m j hjl] at hj
      rw [Addr.add_lit, hcell j hjl]
      exact hj
    · intro v' w' h1 h2 _
      obtain ⟨r1, r2⟩ := lift v' w' h1 h2
      exact hK v' w' r1 r2 h2

/-- The same as one step of a region that draws its order. -/
theorem step_append {P : Program} {ops : Array Oper} {o : Oper} {a : Act} {w : World} {K : Act → World → Prop} {Q : Exit → Act → World → Prop} {E : Prop} (hgd : o.guard = none) (s x : Operand) (t : TypeId)
    (ho : o.op = .call { callee := .builtin .append, args := #[s, x], argTypes := #[t, t] })
    (B : Nat) (hinfo : (P.info? 5).map (fun i => (i.zero, i.size, i.bytes)) = some (some (.int .u8 0), 1, 1)) (ht : P.underlying t = some (.slice 5))
    (v : Value) (l : List Nat) (hv : a.eval s = v) (h : Own B w v l) (xv : Value) (m : List Nat) (hx : a.eval x = xv) (hm : Bs w xv m)
    (hmax : l.length + m.length ≤ 140737488355328) (hB : B ≤ w.heap.size)
    (hK : ∀ v' w', Own B w' v' (l ++ m) → Below B w w' → w.grownBy w' v.ownBlock → K (a.put o.dst v') w') :
    if Region.wanted o (yielded ops a.tmps) = true then Oper.wp P o a w K Q else E := by
  have hw : Region.wanted o (yielded ops a.tmps) = true := by simp [Region.wanted, hgd]
  rw [if_pos hw]
  obtain ⟨i0, hi, hz0, hz1, hz2⟩ := info_parts hinfo
  have lift : ∀ v' w', w'.ownsRow B 5 1 v' (l.length + m.length) (bv l ++ bv m) → w.grownBy w' v.ownBlock → Own B w' v' (l ++ m) ∧ Below B w w' := by
    intro v' w' h1 h2
    refine ⟨⟨?_, ok_append h.good hm.good⟩, (Below.refl B w).grown h2 hB (fun k hk => (h.row.lt k hk).1)⟩
    rw [List.length_append, bv_append]
    exact h1
  obtain ⟨ao, cap, rfl, hl, hmx, hn, hc⟩ := hm.shape
  cases ao with
  | none =>
    obtain rfl := hn rfl
    have h0 : m = [] := List.eq_nil_of_length_eq_zero (by omega)
    subst h0
    have hrun := run_append_owned_none (P := P) w B t o.type 5 i0 1 ht hi v l.length (bv l) h.row
    unfold Oper.wp
    simp [execOp, ho, resolve, invoke, builtin, hv, hx, hrun, Result.andThen]
    exact hK v w (by simpa using h) (Below.refl _ _) (World.grownBy.refl _ _)
  | some ad =>
    obtain ⟨v', w', hrun, h1, h2, _⟩ := run_append_own (P := P) w B t o.type 5 i0 (.int .u8 0) 1 1 ht hi hz0 hz1 hz2 rfl (by decide) v l.length (bv l) h.row ad m.length cap (bv m) (by rw [bv_length, Nat.mul_one]) (by
      intro j u hj
      have hjl : j < m.length := by have := (List.getElem?_eq_some_iff.1 hj).1; rwa [bv_length] at this
      obtain ⟨b, off, e, hcell⟩ := hc (List.ne_nil_of_length_pos (by omega))
      obtain rfl := Option.some.inj e
      rw [bv_get m j hjl] at hj
      rw [Addr.add_lit, hcell j hjl]
      exact hj) (bv_one m) (by unfold maxLen; omega) (by omega) hB
    unfold Oper.wp
    simp [execOp, ho, resolve, invoke, builtin, hv, hx, hrun, Result.andThen]
    obtain ⟨r1, r2⟩ := lift v' w' h1 h2
    exact hK v' w' r1 r2 h2

/-- A slice of byte strings. -/
structure Ps (w : World) (v : Value) (ls : List (List Nat)) : Prop where
  shape : ∃ ao cap, v = .slice ao ls.length cap ∧ ls.length ≤ maxLen ∧ (ls ≠ [] → ∃ b off, ao = some ⟨b, off, none⟩ ∧ ∀ j (h : j < ls.length), ∃ vj, w.cell? ⟨b, off + j, none⟩ = some vj ∧ Bs w vj ls[j])
theorem Ps.kept {w w' : World} {v : Value} {ls : List (List Nat)} (h : Ps w v ls) (hb : Below w.heap.size w w') : Ps w' v ls := by
  obtain ⟨ao, cap, rfl, hm, hc⟩ := h.shape
  refine ⟨ao, cap, rfl, hm, fun hne => ?_⟩
  obtain ⟨b, off, rfl, hcell⟩ := hc hne
  refine ⟨b, off, rfl, fun j hj => ?_⟩
  obtain ⟨vj, h1, h2⟩ := hcell j hj
  exact ⟨vj, (hb.cell (p := ⟨b, off + j, none⟩) (World.block_lt_of_cell? _ _ h1)).trans h1, h2.kept hb⟩
/-- a new row of slices -/
theorem Ps.lit (w : World) (vs : List Value) (ls : List (List Nat)) (t : TypeId) (cs : Array Value) (hcs : cs.toList = vs) (hl : vs.length = ls.length) (hm : ls.length ≤ maxLen) (h : ∀ j (h1 : j < vs.length) (h2 : j < ls.length), Bs w vs[j] ls[j]) :
    Ps (w.alloc (.cells cs t)) (.slice (some ⟨w.heap.size, 0, none⟩) ls.length ls.length) ls := by
  refine ⟨_, _, rfl, hm, fun _ => ⟨_, _, rfl, fun j hj => ?_⟩⟩
  have hj' : j < vs.length := by omega
  refine ⟨vs[j], ?_, (h j hj' hj).alloc _⟩
  rw [Nat.zero_add]
  have e : (w.alloc (.cells cs t)).cell? ⟨w.heap.size, j, none⟩ = cs[j]? := World.cell?_alloc_new w _ _ j
  rw [e, ← Array.getElem?_toList, hcs, List.getElem?_eq_getElem hj']
theorem ps1 (w : World) (g : Nat) (hg : g = w.heap.size) {v : Value} {l : List Nat} (t : TypeId) (h : Bs w v l) : Ps (w.alloc (.cells #[v] t)) (.slice (some ⟨g, 0, none⟩) 1 1) [l] := by
  subst hg
  exact Ps.lit w [v] [l] t #[v] rfl rfl (by simp [maxLen]) (fun j h1 h2 => by
    match j, h1 with
    | 0, _ => exact h)
theorem ps2 (w : World) (g : Nat) (hg : g = w.heap.size) {v v2 : Value} {l l2 : List Nat} (t : TypeId) (h : Bs w v l) (h2 : Bs w v2 l2) : Ps (w.alloc (.cells #[v, v2] t)) (.slice (some ⟨g, 0, none⟩) 2 2) [l, l2] := by
  subst hg
  exact Ps.lit w [v, v2] [l, l2] t #[v, v2] rfl rfl (by simp [maxLen]) (fun j h1 _ => by
    match j, h1 with
    | 0, _ => exact h
    | 1, _ => exact h2)
theorem ps3 (w : World) (g : Nat) (hg : g = w.heap.size) {v v2 v3 : Value} {l l2 l3 : List Nat} (t : TypeId) (h : Bs w v l) (h2 : Bs w v2 l2) (h3 : Bs w v3 l3) : Ps (w.alloc (.cells #[v, v2, v3] t)) (.slice (some ⟨g, 0, none⟩) 3 3) [l, l2, l3] := by
  subst hg
  exact Ps.lit w [v, v2, v3] [l, l2, l3] t #[v, v2, v3] rfl rfl (by simp [maxLen]) (fun j h1 _ => by
    match j, h1 with
    | 0, _ => exact h
    | 1, _ => exact h2
    | 2, _ => exact h3)
theorem up {w w1 : World} (h : Below w.heap.size w w1) (o : Obj) : Below w.heap.size w (w1.alloc o) := h.alloc h.size o
theorem andThen {w w1 w2 : World} (h : Below w.heap.size w w1) (k : Below w1.heap.size w1 w2) : Below w.heap.size w w2 := h.trans (k.mono h.size)
theorem up0 (w : World) (o : Obj) : Below w.heap.size w (w.alloc o) := up (Below.refl _ _) o
end Wb
end Go.Proofs.Ytggenlnknnhjgaa
