import Derived.WalkKit
import Derived.Laws.AppendOwnNone
import Derived.Handy
import Derived.Test.YtcnnpohnfoaceaaGreatDoorChecked
import Derived.Deep.RegionHeld
import Derived.Deep.RegionHeld3
import Derived.Deep.CutRange
import Derived.BigQuiet
import Derived.Deep.QuietTactic
import Derived.WalkSmall
import Derived.Deep.MidRow
import Derived.Deep.RegionWith
import Derived.Maps.AppendAt
import Derived.WalkSpells
import Derived.WalkLawsBesides
import Derived.OwnWalk
/-
  BYTE STRINGS IN MEMORY: 'Bs': a slice value that holds a list of bytes; 'Own': one that lies in a row of the call's own; 'Ps': a slice of such slices.
-/
namespace Go.Proofs.YtcnnpohnfoaceaaGreatDoor
open Go Go.RowKit

namespace Wb
def bv (l : List Nat) : List Value := l.map fun (n : Nat) => Value.int .u8 (n : Int)
def ok (l : List Nat) : Prop := ∀ x ∈ l, x < 256
theorem bv_length (l : List Nat) : (bv l).length = l.length := by simp [bv]
theorem bv_append (a b : List Nat) : bv (a ++ b) = bv a ++ bv b := by simp [bv]
theorem bv_get (l : List Nat) (j : Nat) (h : j < l.length) : (bv l)[j]? = some (.int .u8 (l[j] : Int)) := by simp [bv, h]
theorem bv_one (l : List Nat) : ∀ u ∈ bv l, u.oneCell' = true := by
  intro u hu
  obtain ⟨_, _, rfl⟩ := List.mem_map.1 hu
  rfl
theorem ok_append {a b : List Nat} (h : ok a) (k : ok b) : ok (a ++ b) := by
  intro x hx
  rcases List.mem_append.1 hx with h1 | h1
  · exact h x h1
  · exact k x h1
theorem ok_nil : ok [] := by intro x hx; cases hx
theorem ok_one {n : Nat} (h : n < 256) : ok [n] := by intro x hx; simp at hx; omega
theorem ok_take {l : List Nat} (h : ok l) (k : Nat) : ok (l.take k) := fun x hx => h x (List.mem_of_mem_take hx)
theorem ok_drop {l : List Nat} (h : ok l) (k : Nat) : ok (l.drop k) := fun x hx => h x (List.mem_of_mem_drop hx)
theorem ok_get {l : List Nat} (h : ok l) (k : Nat) (hk : k < l.length) : l[k] < 256 := h _ (List.getElem_mem hk)
theorem ok_getD {l : List Nat} (h : ok l) (k : Nat) : l.getD k 0 < 256 := by
  by_cases hk : k < l.length
  · rw [List.getD_eq_getElem?_getD, List.getElem?_eq_getElem hk]; exact h _ (List.getElem_mem hk)
  · rw [List.getD_eq_getElem?_getD, List.getElem?_eq_none (by omega)]; decide

/-- A slice value that holds these bytes. -/
structure Bs (w : World) (v : Value) (l : List Nat) : Prop where
  shape : ∃ ao cap, v = .slice ao l.length cap ∧ l.length ≤ cap ∧ cap ≤ maxLen ∧ (ao = none → cap = 0) ∧
    (l ≠ [] → ∃ b off, ao = some ⟨b, off, none⟩ ∧ ∀ j (h : j < l.length), w.cell? ⟨b, off + j, none⟩ = some (.int .u8 (l[j] : Int)))
  good : ok l

theorem Bs.nil (w : World) : Bs w (.slice none 0 0) [] := ⟨⟨none, 0, rfl, Nat.le_refl _, by simp [maxLen], fun _ => rfl, fun h => absurd rfl h⟩, ok_nil⟩
/-- the two shapes -/
theorem Bs.cases {w : World} {v : Value} {l : List Nat} (h : Bs w v l) :
    (l = [] ∧ ∃ ao cap, v = .slice ao 0 cap ∧ cap ≤ maxLen ∧ (ao = none → cap = 0)) ∨
    (0 < l.length ∧ ∃ b off cap, v = .slice (some ⟨b, off, none⟩) l.length cap ∧ l.length ≤ cap ∧ cap ≤ maxLen ∧ ∀ j (h : j < l.length), w.cell? ⟨b, off + j, none⟩ = some (.int .u8 (l[j] : Int))) := by
  obtain ⟨ao, cap, rfl, hl, hm, hn, hc⟩ := h.shape
  by_cases e : l = []
  · subst e; exact .inl ⟨rfl, ao, cap, rfl, hm, hn⟩
  · obtain ⟨b, off, rfl, hcell⟩ := hc e
    exact .inr ⟨List.length_pos_iff.2 e, b, off, cap, rfl, hl, hm, hcell⟩
theorem Bs.lt {w : World} {b off cap : Nat} {l : List Nat} (h : Bs w (.slice (some ⟨b, off, none⟩) l.length cap) l) (hl : 0 < l.length) : b < w.heap.size := by
  obtain ⟨ao, cap', e, _, _, _, hc⟩ := h.shape
  obtain ⟨b', off', rfl, hcell⟩ := hc (List.ne_nil_of_length_pos hl)
  simp only [Value.slice.injEq, Option.some.injEq, Addr.mk.injEq, and_true, true_and] at e
  obtain ⟨⟨rfl, rfl⟩, rfl⟩ := e
  exact World.block_lt_of_cell? _ _ (hcell 0 hl)
/-- it stays so as long as what was there stays -/
theorem Bs.kept {w w' : World} {v : Value} {l : List Nat} (h : Bs w v l) (hb : Below w.heap.size w w') : Bs w' v l := by
  refine ⟨?_, h.good⟩
  obtain ⟨ao, cap, rfl, hl, hm, hn, hc⟩ := h.shape
  refine ⟨ao, cap, rfl, hl, hm, hn, fun hne => ?_⟩
  obtain ⟨b, off, rfl, hcell⟩ := hc hne
  exact ⟨b, off, rfl, fun j hj => (hb.cell (p := ⟨b, off + j, none⟩) (World.block_lt_of_cell? _ _ (hcell j hj))).trans (hcell j hj)⟩
theorem Bs.alloc {w : World} {v : Value} {l : List Nat} (h : Bs w v l) (o : Obj) : Bs (w.alloc o) v l := h.kept ((Below.refl _ _).alloc (Nat.le_refl _) o)
theorem Bs.drew {w : World} {v : Value} {l : List Nat} (h : Bs w v l) : Bs w.drew v l := h.kept ((Below.refl _ _).drew)
theorem Bs.len_le {w : World} {v : Value} {l : List Nat} (h : Bs w v l) : l.length ≤ maxLen := by
  obtain ⟨ao, cap, rfl, hl, hm, _⟩ := h.shape
  omega

/-- a piece of it -/
theorem Bs.sub {w : World} {b off cap : Nat} {l : List Nat} (h : Bs w (.slice (some ⟨b, off, none⟩) l.length cap) l) (lo hi : Nat) (h1 : lo < hi) (h2 : hi ≤ l.length) :
    Bs w (.slice (some ⟨b, off + lo, none⟩) (hi - lo) (cap - lo)) ((l.take hi).drop lo) := by
  obtain ⟨ao, cap', e, hl, hm, _, hc⟩ := h.shape
  obtain ⟨b', off', rfl, hcell⟩ := hc (List.ne_nil_of_length_pos (by omega))
  simp only [Value.slice.injEq, Option.some.injEq, Addr.mk.injEq, and_true, true_and] at e
  obtain ⟨⟨rfl, rfl⟩, rfl⟩ := e
  have hlen : ((l.take hi).drop lo).length = hi - lo := by simp; omega
  refine ⟨⟨_, _, by rw [hlen], by omega, by omega, fun e => (by cases e), fun _ => ⟨b, off + lo, rfl, fun j hj => ?_⟩⟩, ok_drop (ok_take h.good _) _⟩
  rw [hlen] at hj
  rw [Nat.add_assoc, hcell (lo + j) (by omega)]
  simp

/-- A slice value in a row of the call's own, from block B on. -/
structure Own (B : Nat) (w : World) (v : Value) (l : List Nat) : Prop where
  row : w.ownsRow B 5 1 v l.length (bv l)
  good : ok l
theorem Own.nil (B : Nat) (w : World) : Own B w (.slice none 0 0) [] := ⟨World.ownsRow_nil _ _ _ _, ok_nil⟩
theorem Own.shape {B : Nat} {w : World} {v : Value} {l : List Nat} (h : Own B w v l) : (v = .slice none 0 0 ∧ l = []) ∨ ∃ g cap, v = .slice (some ⟨g, 0, none⟩) l.length cap ∧ B ≤ g ∧ g < w.heap.size ∧ l.length ≤ cap ∧ cap ≤ maxLen ∧ (∀ j (h : j < l.length), w.cell? ⟨g, j, none⟩ = some (.int .u8 (l[j] : Int))) := by
  have h0 := h.row
  rcases h.row.2 with ⟨rfl, h1⟩ | ⟨g, cap, cur, rfl, hb, hg, h1, h2, h3, h4⟩
  · exact .inl ⟨rfl, List.eq_nil_of_length_eq_zero h1⟩
  · refine .inr ⟨g, cap, rfl, hb, (Array.getElem?_eq_some_iff.1 hg).1, h1, h2, fun j hj => ?_⟩
    rw [h0.cellAt j (by omega), bv_get l j hj]
theorem Own.bs {B : Nat} {w : World} {v : Value} {l : List Nat} (h : Own B w v l) : Bs w v l := by
  refine ⟨?_, h.good⟩
  rcases h.shape with ⟨rfl, rfl⟩ | ⟨g, cap, rfl, _, _, h1, h2, hc⟩
  · exact (Bs.nil w).shape
  · exact ⟨some ⟨g, 0, none⟩, cap, rfl, h1, h2, fun e => (by cases e), fun _ => ⟨g, 0, rfl, fun j hj => by rw [Nat.zero_add]; exact hc j hj⟩⟩
theorem Own.kept {B : Nat} {w w' : World} {v : Value} {l : List Nat} (h : Own B w v l) (hb : Below w.heap.size w w') : Own B w' v l := by
  refine ⟨⟨h.row.1, ?_⟩, h.good⟩
  rcases h.row.2 with h1 | ⟨g, cap, cur, rfl, h1, hg, rest⟩
  · exact .inl h1
  · exact .inr ⟨g, cap, cur, rfl, h1, (hb.block g (Array.getElem?_eq_some_iff.1 hg).1).trans hg, rest⟩
theorem Own.alloc {B : Nat} {w : World} {v : Value} {l : List Nat} (h : Own B w v l) (o : Obj) : Own B (w.alloc o) v l := h.kept ((Below.refl _ _).alloc (Nat.le_refl _) o)
theorem Own.mono {B B' : Nat} {w : World} {v : Value} {l : List Nat} (h : Own B w v l) (hB : B' ≤ B) : Own B' w v l := by
  refine ⟨⟨h.row.1, ?_⟩, h.good⟩
  rcases h.row.2 with h1 | ⟨g, cap, cur, rfl, h1, rest⟩
  · exact .inl h1
  · exact .inr ⟨g, cap, cur, rfl, by omega, rest⟩
/-- a literal []byte{..} -/
theorem Own.lit {B : Nat} (w : World) (l : List Nat) (hl : ok l) (hB : B ≤ w.heap.size) (hm : l.length ≤ maxLen) (cs : Array Value) (hcs : cs.toList = bv l) : Own B (w.alloc (.cells cs 5)) (.slice (some ⟨w.heap.size, 0, none⟩) l.length l.length) l := by
  have h := World.ownsRow_lit (base := B) (e := 5) (size := 1) w cs l.length hB hm (by rw [← Array.length_toList, hcs, bv_length, Nat.mul_one])
  rw [hcs] at h
  exact ⟨h, hl⟩

theorem Bs.one (w : World) (n : Nat) (h : n < 256) (x : Int) (hx : x = (n : Int)) : Bs (w.alloc (.cells #[.int .u8 x] 5)) (.slice (some ⟨w.heap.size, 0, none⟩) 1 1) [n] := by
  subst hx
  exact (Own.lit (B := 0) w [n] (ok_one h) (Nat.zero_le _) (by simp [maxLen]) #[.int .u8 (n : Int)] rfl).bs

/-- append(v, x...) of bytes onto a row of the call's own: for the walk. -/
theorem wpList_append {P : Program} (w : World) {ops : Array Oper} {rest : List Oper} {o : Oper} {a : Act} {Q : Exit → Act → World → Prop} (hgd : o.guard = none) (s x : Operand) (t : TypeId)
    (ho : o.op = .call { callee := .builtin .append, args := #[s, x], argTypes := #[t, t] })
    (B : Nat) (hinfo : (P.info? 5).map (fun i => (i.zero, i.size, i.bytes)) = some (some (.int .u8 0), 1, 1)) (ht : P.underlying t = some (.slice 5))
    (v : Value) (l : List Nat) (hv : a.eval s = v) (h : Own B w v l) (xv : Value) (m : List Nat) (hx : a.eval x = xv) (hm : Bs w xv m)
    (hmax : l.length + m.length ≤ 140737488355328) (hB : B ≤ w.heap.size)
    (hK : ∀ v' w', Own B w' v' (l ++ m) → Below B w w' → w.grownBy w' v.ownBlock → wpList P ops Q rest (a.put o.dst v') w') : wpList P ops Q (o :: rest) a w := by
  obtain ⟨i0, hi, hz0, hz1, hz2⟩ := info_parts hinfo
  have lift : ∀ v' w', w'.ownsRow B 5 1 v' (l.length + m.length) (bv l ++ bv m) → w.grownBy w' v.ownBlock → Own B w' v' (l ++ m) ∧ Below B w w' := by
    intro v' w' h1 h2
    refine ⟨⟨?_, ok_append h.good hm.good⟩, (Below.refl B w).grown h2 hB (fun k hk => (h.row.lt k hk).1)⟩
    rw [List.length_append, bv_append]
    exact h1
  obtain ⟨ao, cap, rfl, hl, hmx, hn, hc⟩ := hm.shape
  cases ao with
  | none =>
    obtain rfl := hn rfl
    have h0 : m = [] := List.eq_nil_of_length_eq_zero (by omega)
    subst h0
    refine wpList_append_own_none hgd s x t ho B 5 i0 1 ht hi v l.length (bv l) hv h.row hx ?_
    have := hK v w (by simpa using h) (Below.refl _ _) (World.grownBy.refl _ _)
    exact this
  | some ad =>
    refine wpList_append_own w hgd s x t ho B 5 i0 (.int .u8 0) 1 1 ht hi hz0 hz1 hz2 rfl (by decide) v l.length (bv l) hv h.row ad m.length cap (bv m) hx (by rw [bv_length, Nat.mul_one]) ?_ (bv_one m) (by unfold maxLen; omega) (by omega) hB ?_
    · intro j u hj
      have hjl : j < m.length := by have := (List.getElem?_eq_some_iff.1 hj).1; rwa [bv_length] at this
      obtain ⟨b, off, e, hcell⟩ := hc (List.ne_nil_of_length_pos (by omega))
      obtain rfl := Option.some.inj e
      rw [bv_get m j hjl] at hj
      rw [Addr.add_lit, hcell j hjl]
      exact hj
    · intro v' w' h1 h2 _
      obtain ⟨r1, r2⟩ := lift v' w' h1 h2
      exact hK v' w' r1 r2 h2

/-- The same as one step of a region that draws its order. -/
theorem step_append {P : Program} {ops : Array Oper} {o : Oper} {a : Act} {w : World} {K : Act → World → Prop} {Q : Exit → Act → World → Prop} {E : Prop} (hgd : o.guard = none) (s x : Operand) (t : TypeId)
    (ho : o.op = .call { callee := .builtin .append, args := #[s, x], argTypes := #[t, t] })
    (B : Nat) (hinfo : (P.info? 5).map (fun i => (i.zero, i.size, i.bytes)) = some (some (.int .u8 0), 1, 1)) (ht : P.underlying t = some (.slice 5))
    (v : Value) (l : List Nat) (hv : a.eval s = v) (h : Own B w v l) (xv : Value) (m : List Nat) (hx : a.eval x = xv) (hm : Bs w xv m)
    (hmax : l.length + m.length ≤ 140737488355328) (hB : B ≤ w.heap.size)
    (hK : ∀ v' w', Own B w' v' (l ++ m) → Below B w w' → w.grownBy w' v.ownBlock → K (a.put o.dst v') w') :
    if Region.wanted o (yielded ops a.tmps) = true then Oper.wp P o a w K Q else E := by
  have hw : Region.wanted o (yielded ops a.tmps) = true := by simp [Region.wanted, hgd]
  rw [if_pos hw]
  obtain ⟨i0, hi, hz0, hz1, hz2⟩ := info_parts hinfo
  have lift : ∀ v' w', w'.ownsRow B 5 1 v' (l.length + m.length) (bv l ++ bv m) → w.grownBy w' v.ownBlock → Own B w' v' (l ++ m) ∧ Below B w w' := by
    intro v' w' h1 h2
    refine ⟨⟨?_, ok_append h.good hm.good⟩, (Below.refl B w).grown h2 hB (fun k hk => (h.row.lt k hk).1)⟩
    rw [List.length_append, bv_append]
    exact h1
  obtain ⟨ao, cap, rfl, hl, hmx, hn, hc⟩ := hm.shape
  cases ao with
  | none =>
    obtain rfl := hn rfl
    have h0 : m = [] := List.eq_nil_of_length_eq_zero (by omega)
    subst h0
    have hrun := run_append_owned_none (P := P) w B t o.type 5 i0 1 ht hi v l.length (bv l) h.row
    unfold Oper.wp
    simp [execOp, ho, resolve, invoke, builtin, hv, hx, hrun, Result.andThen]
    exact hK v w (by simpa using h) (Below.refl _ _) (World.grownBy.refl _ _)
  | some ad =>
    obtain ⟨v', w', hrun, h1, h2, _⟩ := run_append_own (P := P) w B t o.type 5 i0 (.int .u8 0) 1 1 ht hi hz0 hz1 hz2 rfl (by decide) v l.length (bv l) h.row ad m.length cap (bv m) (by rw [bv_length, Nat.mul_one]) (by
      intro j u hj
      have hjl : j < m.length := by have := (List.getElem?_eq_some_iff.1 hj).1; rwa [bv_length] at this
      obtain ⟨b, off, e, hcell⟩ := hc (List.ne_nil_of_length_pos (by omega))
      obtain rfl := Option.some.inj e
      rw [bv_get m j hjl] at hj
      rw [Addr.add_lit, hcell j hjl]
      exact hj) (bv_one m) (by unfold maxLen; omega) (by omega) hB
    unfold Oper.wp
    simp [execOp, ho, resolve, invoke, builtin, hv, hx, hrun, Result.andThen]
    obtain ⟨r1, r2⟩ := lift v' w' h1 h2
    exact hK v' w' r1 r2 h2

/-- A slice of byte strings. -/
structure Ps (w : World) (v : Value) (ls : List (List Nat)) : Prop where
  shape : ∃ ao cap, v = .slice ao ls.length cap ∧ ls.length ≤ maxLen ∧ (ls ≠ [] → ∃ b off, ao = some ⟨b, off, none⟩ ∧ ∀ j (h : j < ls.length), ∃ vj, w.cell? ⟨b, off + j, none⟩ = some vj ∧ Bs w vj ls[j])
theorem Ps.kept {w w' : World} {v : Value} {ls : List (List Nat)} (h : Ps w v ls) (hb : Below w.heap.size w w') : Ps w' v ls := by
  obtain ⟨ao, cap, rfl, hm, hc⟩ := h.shape
  refine ⟨ao, cap, rfl, hm, fun hne => ?_⟩
  obtain ⟨b, off, rfl, hcell⟩ := hc hne
  refine ⟨b, off, rfl, fun j hj => ?_⟩
  obtain ⟨vj, h1, h2⟩ := hcell j hj
  exact ⟨vj, (hb.cell (p := ⟨b, off + j, none⟩) (World.block_lt_of_cell? _ _ h1)).trans h1, h2.kept hb⟩
/-- a new row of slices -/
theorem Ps.lit (w : World) (vs : List Value) (ls : List (List Nat)) (t : TypeId) (cs : Array Value) (hcs : cs.toList = vs) (hl : vs.length = ls.length) (hm : ls.length ≤ maxLen) (h : ∀ j (h1 : j < vs.length) (h2 : j < ls.length), Bs w vs[j] ls[j]) :
    Ps (w.alloc (.cells cs t)) (.slice (some ⟨w.heap.size, 0, none⟩) ls.length ls.length) ls := by
  refine ⟨_, _, rfl, hm, fun _ => ⟨_, _, rfl, fun j hj => ?_⟩⟩
  have hj' : j < vs.length := by omega
  refine ⟨vs[j], ?_, (h j hj' hj).alloc _⟩
  rw [Nat.zero_add]
  have e : (w.alloc (.cells cs t)).cell? ⟨w.heap.size, j, none⟩ = cs[j]? := World.cell?_alloc_new w _ _ j
  rw [e, ← Array.getElem?_toList, hcs, List.getElem?_eq_getElem hj']
theorem ps1 (w : World) (g : Nat) (hg : g = w.heap.size) {v : Value} {l : List Nat} (t : TypeId) (h : Bs w v l) : Ps (w.alloc (.cells #[v] t)) (.slice (some ⟨g, 0, none⟩) 1 1) [l] := by
  subst hg
  exact Ps.lit w [v] [l] t #[v] rfl rfl (by simp [maxLen]) (fun j h1 h2 => by
    match j, h1 with
    | 0, _ => exact h)
theorem ps2 (w : World) (g : Nat) (hg : g = w.heap.size) {v v2 : Value} {l l2 : List Nat} (t : TypeId) (h : Bs w v l) (h2 : Bs w v2 l2) : Ps (w.alloc (.cells #[v, v2] t)) (.slice (some ⟨g, 0, none⟩) 2 2) [l, l2] := by
  subst hg
  exact Ps.lit w [v, v2] [l, l2] t #[v, v2] rfl rfl (by simp [maxLen]) (fun j h1 _ => by
    match j, h1 with
    | 0, _ => exact h
    | 1, _ => exact h2)
theorem ps3 (w : World) (g : Nat) (hg : g = w.heap.size) {v v2 v3 : Value} {l l2 l3 : List Nat} (t : TypeId) (h : Bs w v l) (h2 : Bs w v2 l2) (h3 : Bs w v3 l3) : Ps (w.alloc (.cells #[v, v2, v3] t)) (.slice (some ⟨g, 0, none⟩) 3 3) [l, l2, l3] := by
  subst hg
  exact Ps.lit w [v, v2, v3] [l, l2, l3] t #[v, v2, v3] rfl rfl (by simp [maxLen]) (fun j h1 _ => by
    match j, h1 with
    | 0, _ => exact h
    | 1, _ => exact h2
    | 2, _ => exact h3)
theorem up {w w1 : World} (h : Below w.heap.size w w1) (o : Obj) : Below w.heap.size w (w1.alloc o) := h.alloc h.size o
theorem andThen {w w1 w2 : World} (h : Below w.heap.size w w1) (k : Below w1.heap.size w1 w2) : Below w.heap.size w w2 := h.trans (k.mono h.size)
theorem up0 (w : World) (o : Obj) : Below w.heap.size w (w.alloc o) := up (Below.refl _ _) o
end Wb
end Go.Proofs.YtcnnpohnfoaceaaGreatDoor

/-
  Package record: a record's value; apart; the reference's number.
-/
namespace Go.Proofs.YtcnnpohnfoaceaaGreatDoor
open Go Go.RowKit
open Wb

/-- a record's numbers -/
structure Nums where
  v : Int
  k : Int
  s : Int
  p : Int
  t : Int
  a : Int
  l : Int
  c : Int
  n : Int
  i : Int
deriving DecidableEq
/-- a record by value -/
def rv (x : Nums) (nm : ByteArray) (d : Value) : Value := .agg #[.int .i64 x.v, .int .i64 x.k, .int .i64 x.s, .int .i64 x.p, .int .i64 x.t, .int .i64 x.a, .int .i64 x.l, .int .i64 x.c, .int .i64 x.n, .int .i64 x.i, .string nm, d]
/-- the number of a tag -/
def Nums.tag (x : Nums) (t : Nat) : Int := if t = 1 then x.k else if t = 2 then x.s else if t = 3 then x.p else if t = 4 then x.t else if t = 5 then x.a else if t = 6 then x.l else if t = 7 then x.c else if t = 8 then x.n else if t = 9 then x.i else 0
end Go.Proofs.YtcnnpohnfoaceaaGreatDoor

/-
  The base of a plan seat without sagas: a block's cells by a letter.
-/
namespace Go.Proofs.YtcnnpohnfoaceaaGreatDoor
open Go Go.RowKit
open Wb

theorem range_kept {w w' : World} {g o : Nat} {D : List Value} (h : w.rangeAt g o D) (hb : Below w.heap.size w w') : w'.rangeAt g o D := fun j v hv =>
  (hb.cell (p := ⟨g, o + j, none⟩) (World.block_lt_of_cell? _ _ (h j v hv))).trans (h j v hv)
theorem wpList_load_midG {P : Program} {ops : Array Oper} {rest : List Oper} {op : Oper} {a : Act} {w : World} {Q : Exit → Act → World → Prop} (hw : Region.wanted op (yielded ops a.tmps) = true) (ty : TypeId) (x : Operand) (ho : op.op = .load ty x)
    (b o : Nat) (hx : a.eval x = .pointer (some ⟨b, o, none⟩)) (cs : List Value) (d : TypeDesc) (hc : w.rangeAt b o cs)
    (hu : P.underlying ty = some d) (hd : d.isRow = true) (hi : (P.info? ty).map (·.size) = some cs.length)
    (h : wpList P ops Q rest (a.put op.dst (.agg cs.toArray)) w) : wpList P ops Q (op :: rest) a w :=
  wpList_step fun K hK => by
    rw [if_pos hw]
    exact wp_load_mid ty x ho b o hx cs d hc hu hd hi (hK _ _ h)

theorem set_other (w : World) (p : Addr) (u : Value) (g : Nat) (h : g ≠ p.block) : (w.setCell p u).heap[g]? = w.heap[g]? := by
  simp only [World.setCell, Array.getElem?_modify]
  rw [if_neg (Ne.symm h)]
theorem cells_other (g : Nat) : ∀ (vs : List Value) (o : Nat) (w : World) (i : Nat), i ≠ g → (w.setCells g o vs).heap[i]? = w.heap[i]?
  | [], _, _, _, _ => rfl
  | v :: r, o, w, i, h => by
    show ((w.setCell ⟨g, o, none⟩ v).setCells g (o + 1) r).heap[i]? = _
    rw [cells_other g r (o + 1) _ i h, set_other w ⟨g, o, none⟩ v i h]
theorem below_cells {B g : Nat} {a : World} (hg : B ≤ g) : ∀ (vs : List Value) (o : Nat) (w : World), Below B a w → Below B a (w.setCells g o vs)
  | [], _, _, h => h
  | v :: r, o, _, h => below_cells hg r (o + 1) _ (Below.setCell h hg v)
theorem heap_one (w : World) (o : Obj) : (w.alloc o).heap.size = w.heap.size + 1 := by
  show (w.heap.push o).size = _
  rw [Array.size_push]
/-- block g holds just these cells -/
def LB (w : World) (g : Nat) (t : TypeId) (D : List Value) : Prop := w.heap[g]? = some (.cells D.toArray t)
theorem LB.lt {w : World} {g : Nat} {t : TypeId} {D : List Value} (h : LB w g t D) : g < w.heap.size := (Array.getElem?_eq_some_iff.1 h).1
theorem LB.kept {w w' : World} {g : Nat} {t : TypeId} {D : List Value} (h : LB w g t D) (hb : Below w.heap.size w w') : LB w' g t D := (hb.block g h.lt).trans h
theorem LB.cell {w : World} {g : Nat} {t : TypeId} {D : List Value} (h : LB w g t D) (j : Nat) (v : Value) (hv : D[j]? = some v) : w.cell? ⟨g, j, none⟩ = some v := by
  unfold LB at h
  simp [World.cell?, h, hv]
theorem LB.range {w : World} {g : Nat} {t : TypeId} {D : List Value} (h : LB w g t D) : w.rangeAt g 0 D := fun j v hv => by rw [Nat.zero_add]; exact h.cell j v hv
theorem LB.free {w : World} {g : Nat} {t : TypeId} {D : List Value} (h : LB w g t D) (j : Nat) : w.frozen? ⟨g, j, none⟩ = false := by
  unfold LB at h
  simp [World.frozen?, h]
theorem LB.there {w : World} {g : Nat} {t : TypeId} {D : List Value} (h : LB w g t D) : w.there g 0 D.length := fun j hj => by
  rw [Nat.zero_add]
  exact ⟨by rw [h.cell j D[j] (List.getElem?_eq_getElem hj)]; rfl, h.free j⟩
theorem LB.set {w : World} {g : Nat} {t : TypeId} {D : List Value} (h : LB w g t D) (j : Nat) (v : Value) : LB (w.setCell ⟨g, j, none⟩ v) g t (D.set j v) := by
  unfold LB at *
  simp [World.setCell, Array.getElem?_modify, h]
theorem LB.other {w : World} {g : Nat} {t : TypeId} {D : List Value} (h : LB w g t D) (p : Addr) (v : Value) (hp : g ≠ p.block) : LB (w.setCell p v) g t D := (set_other w p v g hp).trans h
theorem LB.others {w : World} {g : Nat} {t : TypeId} {D : List Value} (h : LB w g t D) (g' o : Nat) (vs : List Value) (hp : g ≠ g') : LB (w.setCells g' o vs) g t D := (cells_other g' vs o w g hp).trans h
theorem set_lst (D r : List Value) (o : Nat) (v : Value) (h : o + (r.length + 1) ≤ D.length) : (D.set o v).take (o + 1) ++ r ++ (D.set o v).drop (o + 1 + r.length) = D.take o ++ (v :: r) ++ D.drop (o + (r.length + 1)) := by
  have e1 : (D.set o v).take (o + 1) = D.take o ++ [v] := by
    rw [List.take_succ_eq_append_getElem (by rw [List.length_set]; omega), List.take_set_of_le (Nat.le_refl _), List.getElem_set_self]
  have e2 : (D.set o v).drop (o + 1 + r.length) = D.drop (o + (r.length + 1)) := by
    rw [List.drop_set_of_lt (by omega), show o + 1 + r.length = o + (r.length + 1) by omega]
  rw [e1, e2]
  simp
theorem LB.sets_at {g : Nat} {t : TypeId} : ∀ (E : List Value) (o : Nat) (w : World) (D : List Value), LB w g t D → o + E.length ≤ D.length → LB (w.setCells g o E) g t (D.take o ++ E ++ D.drop (o + E.length))
  | [], o, w, D, h, _ => by
    have e : D.take o ++ [] ++ D.drop (o + ([] : List Value).length) = D := by simp
    rw [e]
    exact h
  | v :: r, o, w, D, h, hl => by
    have hl' : o + (r.length + 1) ≤ D.length := by simpa using hl
    have ih := LB.sets_at r (o + 1) (w.setCell ⟨g, o, none⟩ v) (D.set o v) (h.set o v) (by rw [List.length_set]; omega)
    rw [set_lst D r o v hl'] at ih
    exact ih
theorem LB.sets {w : World} {g : Nat} {t : TypeId} {D : List Value} (h : LB w g t D) (E : List Value) (hl : E.length = D.length) : LB (w.setCells g 0 E) g t E := by
  have h2 := LB.sets_at E 0 w D h (by omega)
  rw [show D.drop (0 + E.length) = [] by rw [Nat.zero_add, hl, List.drop_length]] at h2
  simpa using h2
theorem lb_new (w : World) (D : List Value) (t : TypeId) : LB (w.alloc (.cells D.toArray t)) w.heap.size t D := Array.getElem?_push_size
/-- two new blocks -/
theorem lb_new2 (w : World) (D Z : List Value) (t t2 : TypeId) : LB ((w.alloc (.cells D.toArray t)).alloc (.cells Z.toArray t2)) w.heap.size t D ∧ LB ((w.alloc (.cells D.toArray t)).alloc (.cells Z.toArray t2)) (w.heap.size + 1) t2 Z ∧ Below w.heap.size w ((w.alloc (.cells D.toArray t)).alloc (.cells Z.toArray t2)) := by
  refine ⟨(lb_new w D t).kept (up0 _ _), ?_, up (up0 _ _) _⟩
  have h := lb_new (w.alloc (.cells D.toArray t)) Z t2
  rwa [heap_one] at h
theorem size_set1 (w : World) (p : Addr) (v : Value) : (w.setCell p v).heap.size = w.heap.size := by simp [World.setCell]
theorem there_of {w : World} {g : Nat} {t : TypeId} {Z : List Value} {n : Nat} (h : LB w g t Z) (e : n = Z.length) : w.there g 0 n := by rw [e]; exact h.there
theorem lb_rec (w : World) (g : Nat) (t t2 : TypeId) (C E : List Value) (L : LB w g t C) : LB (w.alloc (.cells E.toArray t2)) g t C ∧ LB (w.alloc (.cells E.toArray t2)) w.heap.size t2 E ∧ Below w.heap.size w (w.alloc (.cells E.toArray t2)) := ⟨L.kept (up0 _ _), lb_new _ _ _, up0 _ _⟩
end Go.Proofs.YtcnnpohnfoaceaaGreatDoor

/-
  What a call leaves below; rows of numbers.
-/
namespace Go.Proofs.YtcnnpohnfoaceaaGreatDoor.Fld
open Go Go.RowKit

theorem up {w w1 : World} (h : Below w.heap.size w w1) (o : Obj) : Below w.heap.size w (w1.alloc o) := h.alloc h.size o
theorem andThen {w w1 w2 : World} (h : Below w.heap.size w w1) (k : Below w1.heap.size w1 w2) : Below w.heap.size w w2 := h.trans (k.mono h.size)
theorem up0 (w : World) (o : Obj) : Below w.heap.size w (w.alloc o) := up (Below.refl _ _) o

def ic (l : List Int) : List Value := l.map fun z => Value.int .i64 z
theorem ic_len (l : List Int) : (ic l).length = l.length := by simp [ic]
theorem info_parts3 {P : Program} {t : TypeId} {z : Value} {a b : Nat} (h : (P.info? t).map (fun i => (i.zero, i.size, i.bytes)) = some (some z, a, b)) : ∃ i, P.info? t = some i ∧ i.zero = some z ∧ i.size = a ∧ i.bytes = b := by
  cases hq : P.info? t with
  | none => rw [hq] at h; simp at h
  | some i =>
    rw [hq] at h
    simp at h
    exact ⟨i, rfl, h.1, h.2.1, h.2.2⟩
theorem info3 : ∃ i, Tryz.prog.info? 3 = some i ∧ i.zero = some (.int .i64 0) ∧ i.size = 1 ∧ i.bytes = 8 := by
  have h : (Tryz.prog.info? 3).map (fun i => (i.zero, i.size, i.bytes)) = some (some (.int .i64 0), 1, 8) := by kernel_rfl
  exact info_parts3 h
/-- numbers in a row of the call's own -/
def RoI (B : Nat) (w : World) (v : Value) (l : List Int) : Prop := w.ownsRow B 3 1 v l.length (ic l)
theorem RoI.kept {B : Nat} {w w' : World} {v : Value} {l : List Int} (h : RoI B w v l) (hb : Below w.heap.size w w') : RoI B w' v l := by
  refine ⟨h.1, ?_⟩
  rcases h.2 with h1 | ⟨g, cap, cur, rfl, h1, hg, rest⟩
  · exact .inl h1
  · exact .inr ⟨g, cap, cur, rfl, h1, (hb.block g (Array.getElem?_eq_some_iff.1 hg).1).trans hg, rest⟩
theorem RoI.below {w0 w w' : World} {v : Value} {l : List Int} (h : RoI w0.heap.size w v l) (hb : Below w0.heap.size w0 w) (hg : w.grownBy w' v.ownBlock) : Below w0.heap.size w0 w' :=
  hb.grown hg hb.size (fun k hk => (World.ownsRow.lt h k hk).1)
theorem RoI.shape {B : Nat} {w : World} {v : Value} {l : List Int} (h : RoI B w v l) : ∃ ao cap, v = .slice ao l.length cap := by
  rcases h.2 with ⟨rfl, h1⟩ | ⟨g, cap, cur, rfl, _⟩
  · exact ⟨none, 0, by rw [h1]⟩
  · exact ⟨_, cap, rfl⟩
theorem RoI.cell {B : Nat} {w : World} {ao : Option Addr} {n cap : Nat} {l : List Int} (h : RoI B w (.slice ao n cap) l) (j : Nat) (hj : j < l.length) : ∃ g, ao = some ⟨g, 0, none⟩ ∧ w.cell? ⟨g, j, none⟩ = some (.int .i64 l[j]) := by
  have h0 := h
  rcases h.2 with ⟨_, h1⟩ | ⟨g, cap', cur, he, hb, hg, h1, h2, h3, h4⟩
  · omega
  · cases he
    refine ⟨g, rfl, ?_⟩
    rw [World.ownsRow.cellAt h0 j (by omega)]
    simp [ic, hj]
theorem roI_nil (B : Nat) (w : World) : RoI B w (.slice none 0 0) [] := ⟨rfl, .inl ⟨rfl, rfl⟩⟩
/-- append(v, c) of one number -/
theorem wpList_app_int {P : Program} (w : World) {ops : Array Oper} {rest : List Oper} {o : Oper} {a : Act} {Q : Exit → Act → World → Prop} (hgd : o.guard = none) (s x : Operand) (t : TypeId)
    (ho : o.op = .call { callee := .builtin .append, args := #[s, x], argTypes := #[t, t] })
    (B : Nat) (hinfo : ∃ i, P.info? 3 = some i ∧ i.zero = some (.int .i64 0) ∧ i.size = 1 ∧ i.bytes = 8) (ht : P.underlying t = some (.slice 3))
    (v : Value) (l : List Int) (hv : a.eval s = v) (h : RoI B w v l) (g : Nat) (c : Int) (hx : a.eval x = .slice (some ⟨g, 0, none⟩) 1 1) (hc : w.cell? ⟨g, 0, none⟩ = some (.int .i64 c)) (hl : l.length ≤ 1000) (hB : B ≤ w.heap.size)
    (hK : ∀ v' w', RoI B w' v' (l ++ [c]) → w.grownBy w' v.ownBlock → wpList P ops Q rest (a.put o.dst v') w') : wpList P ops Q (o :: rest) a w := by
  obtain ⟨i, hi, hz, h1, h2⟩ := hinfo
  refine wpList_append_own w hgd s x t ho B 3 i (.int .i64 0) 1 8 ht hi hz h1 h2 rfl (by decide) v l.length (ic l) hv h ⟨g, 0, none⟩ 1 1 [.int .i64 c] hx rfl ?_ (by intro u hu; simp at hu; subst hu; rfl) (by unfold maxLen; omega) (by omega) hB fun v' w' h3 h4 _ => hK v' w' ?_ h4
  · intro j u hj
    match j, hj with
    | 0, hj =>
      simp at hj
      subst hj
      rw [Addr.add_lit]
      exact hc
  · show w'.ownsRow B 3 1 v' (l ++ [c]).length (ic (l ++ [c]))
    have e2 : ic (l ++ [c]) = ic l ++ [.int .i64 c] := by simp [ic]
    rw [List.length_append, e2]
    exact h3
end Go.Proofs.YtcnnpohnfoaceaaGreatDoor.Fld

/-
  The moves of a region that draws, in short.
-/
namespace Go.Proofs.YtcnnpohnfoaceaaGreatDoor
open Go Go.RowKit
open Wb

theorem zq1 {α : Type} {l : List α} {i : Nat} {a : α} : l.toArray.setIfInBounds i a = (l.set i a).toArray := List.setIfInBounds_toArray _ _ _
theorem zq2 {α : Type} {x : α} {l : List α} {b : α} : (x :: l).set 0 b = b :: l := rfl
theorem zq3 {α : Type} {x : α} {l : List α} {n : Nat} {b : α} : (x :: l).set (n + 1) b = x :: l.set n b := rfl
theorem zq4 {α : Type} {l : List α} {i : Nat} (h : i < l.toArray.size) : l.toArray[i] = l[i]'(by simpa using h) := List.getElem_toArray h
theorem zq5 {α : Type} {x : α} {l : List α} (h : 0 < (x :: l).length) : (x :: l)[0] = x := rfl
theorem zq6 {α : Type} {x : α} {l : List α} {i : Nat} (h : i + 1 < (x :: l).length) : (x :: l)[i + 1] = l[i]'(Nat.lt_of_succ_lt_succ h) := rfl
section
variable {P : Program} {md : Region.Mode} {ops : Array Oper} {Q : Exit → Act → World → Prop} {S : World → Prop} {fuel : Nat} {listed : Array Bool} {a : Act} {w : World} {oi : Oper} {v : Value}
theorem zql (i : Nat) (hi : ops[i]? = some oi) (hy : YieldsIf P ops S oi v a) (hS : S w) (h : wpAnyH P md ops Q S fuel (listed.setIfInBounds i true) (a.put oi.dst v) w) (hs : Region.noSelect ops = true := by kernel_rfl) (hf : Region.free md ops listed i = true := by kernel_rfl) (hr : (Region.ready md ops listed).contains i = true := by kernel_rfl)
    (hQ : ∀ c a w, Q (.panic c) (a.put oi.dst v) w → Q (.panic c) a w := by exact fun _ _ _ h => h) : wpAnyH P md ops Q S (fuel + 1) listed a w := wpAnyH_take hi hs hf hr hQ hy hS h
theorem zqk (i : Nat) (hi : ops[i]? = some oi) (hS : S w) (h : wpAnyH P md ops Q S fuel (listed.setIfInBounds i true) (a.put oi.dst v) w) (hw : Region.wanted oi (yielded ops a.tmps) = true := by rfl) (hy : ∀ w', S w' → (execOp a.eval oi).run P w' = .ok (.value v) w' := by intro w' hSw; (try dsimp only at hSw); go_simp; all_goals rfl) (hs : Region.noSelect ops = true := by kernel_rfl) (hf : Region.free md ops listed i = true := by kernel_rfl) (hr : (Region.ready md ops listed).contains i = true := by kernel_rfl)
    (hQ : ∀ c a w, Q (.panic c) (a.put oi.dst v) w → Q (.panic c) a w := by exact fun _ _ _ h => h) : wpAnyH P md ops Q S (fuel + 1) listed a w := wpAnyH_take hi hs hf hr hQ (Or.inl ⟨hw, hy⟩) hS h
theorem zqr (i : Nat) (hi : ops[i]? = some oi) (h : ∀ K' : Act → World → Prop, Shut (∀ a w, S w → (S w → wpAnyH P md ops Q S fuel (listed.setIfInBounds i true) a w) → K' a w) → if Region.wanted oi (yielded ops a.tmps) = true then Oper.wp P oi a w K' Q else K' (a.put oi.dst undef) w) (hr : Region.ready md ops listed = [i] := by kernel_rfl) : wpAnyH P md ops Q S (fuel + 1) listed a w := wpAnyH_ready hr (by simp) (AllReadyH.cons hi h AllReadyH.nil)
end
end Go.Proofs.YtcnnpohnfoaceaaGreatDoor
