import Derived.KernelRfl
import Derived.WalkKit
import Derived.Laws.AppendOwnNone
import Derived.Lib.Zigzag
import Derived.Laws.BitsAllLaws
import Derived.Test.YtodcakplmoajiaaDoorChecked
import Derived.WalkSpells
import Derived.WalkLawsBesides
import Derived.Deep.QuietTactic
import Derived.BigQuiet
import Derived.Laws.CopyOwn
namespace Go.Proofs.YtodcakplmoajiaaDoor.Wm

def poly : Nat := 3988292384
def step (r : Nat) : Nat := if r % 2 = 1 then (r / 2) ^^^ poly else r / 2
def step4 (r : Nat) : Nat := step (step (step (step r)))
def feed (r c : Nat) : Nat := step4 (step4 (r ^^^ c))
def reg (r : Nat) (l : List Nat) : Nat := l.foldl feed r
def crc (l : List Nat) : Nat := 4294967295 ^^^ reg 4294967295 l
def tab : List Nat := [0, 498536548, 997073096, 651767980, 1994146192, 1802195444, 1303535960, 1342533948, 3988292384, 4027552580, 3604390888, 3412177804, 2607071920, 2262029012, 2685067896, 3183342108]

def xor3 : List Nat → List Nat → List Nat → List Nat
 | a :: x, b :: y, c :: z => (a ^^^ b ^^^ c) :: xor3 x y z
 | _, _, _ => []
end Go.Proofs.YtodcakplmoajiaaDoor.Wm

namespace Go.Proofs.YtodcakplmoajiaaDoor.Wn

def encF : Nat → Nat → List Nat
 | 0, v => [v]
 | f + 1, v => if v < 128 then [v] else (128 + v % 128) :: encF f (v / 128)
def uint (v : Nat) : List Nat := encF v v
def rd : List Nat → Nat → Nat → Nat × Nat × Nat
 | [], _, _ => (0, 0, 10)
 | c :: r, i, v =>
  if i = 9 ∧ 1 < c then (0, 0, 12)
  else if 128 ≤ c then rd r (i + 1) (v + c % 128 * 2 ^ (7 * i))
  else if c = 0 ∧ 0 < i then (0, 0, 11)
  else (v + c % 128 * 2 ^ (7 * i), i + 1, 0)

def ru (l : List Nat) (p : Int) : Nat × Int × Nat :=
 if p < 0 ∨ (l.length : Int) < p then (0, 0, 1)
 else ((rd (l.drop p.toNat) 0 0).1, (if (rd (l.drop p.toNat) 0 0).2.2 = 0 then p + ((rd (l.drop p.toNat) 0 0).2.1 : Int) else 0), (rd (l.drop p.toNat) 0 0).2.2)
end Go.Proofs.YtodcakplmoajiaaDoor.Wn

namespace Go.Proofs.YtodcakplmoajiaaDoor
open Go Go.RowKit

namespace Wb
def bv (l : List Nat) : List Value := l.map fun (n : Nat) => Value.int .u8 (n : Int)
def ok (l : List Nat) : Prop := ∀ x ∈ l, x < 256
theorem bv_length (l : List Nat) : (bv l).length = l.length := by simp [bv]
theorem bv_append (a b : List Nat) : bv (a ++ b) = bv a ++ bv b := by simp [bv]
theorem bv_get (l : List Nat) (j : Nat) (h : j < l.length) : (bv l)[j]? = some (.int .u8 (l[j] : Int)) := by simp [bv, h]
theorem bv_one (l : List Nat) : ∀ u ∈ bv l, u.oneCell' = true := by
 intro u hu
 obtain ⟨_, _, rfl⟩ := List.mem_map.1 hu
 rfl
theorem ok_append {a b : List Nat} (h : ok a) (k : ok b) : ok (a ++ b) := by
 intro x hx
 rcases List.mem_append.1 hx with h1 | h1
 ·exact h x h1
 ·exact k x h1
theorem ok_nil : ok [] := by intro x hx; cases hx
theorem ok_one {n : Nat} (h : n < 256) : ok [n] := by intro x hx; simp at hx; omega
theorem ok_get {l : List Nat} (h : ok l) (k : Nat) (hk : k < l.length) : l[k] < 256 := h _ (List.getElem_mem hk)
structure Bs (w : World) (v : Value) (l : List Nat) : Prop where
 shape : ∃ ao cap, v = .slice ao l.length cap ∧ l.length ≤ cap ∧ cap ≤ maxLen ∧ (ao = none → cap = 0) ∧
  (l ≠ [] → ∃ b off, ao = some ⟨b, off, none⟩ ∧ ∀ j (h : j < l.length), w.cell? ⟨b, off + j, none⟩ = some (.int .u8 (l[j] : Int)))
 good : ok l

theorem Bs.nil (w : World) : Bs w (.slice none 0 0) [] := ⟨⟨none, 0, rfl, Nat.le_refl _, by simp [maxLen], fun _ => rfl, fun h => absurd rfl h⟩, ok_nil⟩
theorem Bs.cases {w : World} {v : Value} {l : List Nat} (h : Bs w v l) :
  (l = [] ∧ ∃ ao cap, v = .slice ao 0 cap ∧ cap ≤ maxLen ∧ (ao = none → cap = 0)) ∨
  (0 < l.length ∧ ∃ b off cap, v = .slice (some ⟨b, off, none⟩) l.length cap ∧ l.length ≤ cap ∧ cap ≤ maxLen ∧ ∀ j (h : j < l.length), w.cell? ⟨b, off + j, none⟩ = some (.int .u8 (l[j] : Int))) := by
 obtain ⟨ao, cap, rfl, hl, hm, hn, hc⟩ := h.shape
 by_cases e : l = []
 ·subst e; exact .inl ⟨rfl, ao, cap, rfl, hm, hn⟩
 ·obtain ⟨b, off, rfl, hcell⟩ := hc e
  exact .inr ⟨List.length_pos_iff.2 e, b, off, cap, rfl, hl, hm, hcell⟩
theorem Bs.lt {w : World} {b off cap : Nat} {l : List Nat} (h : Bs w (.slice (some ⟨b, off, none⟩) l.length cap) l) (hl : 0 < l.length) : b < w.heap.size := by
 obtain ⟨ao, cap', e, _, _, _, hc⟩ := h.shape
 obtain ⟨b', off', rfl, hcell⟩ := hc (List.ne_nil_of_length_pos hl)
 simp only [Value.slice.injEq, Option.some.injEq, Addr.mk.injEq, and_true, true_and] at e
 obtain ⟨⟨rfl, rfl⟩, rfl⟩ := e
 exact World.block_lt_of_cell? _ _ (hcell 0 hl)
theorem Bs.kept {w w' : World} {v : Value} {l : List Nat} (h : Bs w v l) (hb : Below w.heap.size w w') : Bs w' v l := by
 refine ⟨?_, h.good⟩
 obtain ⟨ao, cap, rfl, hl, hm, hn, hc⟩ := h.shape
 refine ⟨ao, cap, rfl, hl, hm, hn, fun hne => ?_⟩
 obtain ⟨b, off, rfl, hcell⟩ := hc hne
 exact ⟨b, off, rfl, fun j hj => (hb.cell (p := ⟨b, off + j, none⟩) (World.block_lt_of_cell? _ _ (hcell j hj))).trans (hcell j hj)⟩
theorem Bs.alloc {w : World} {v : Value} {l : List Nat} (h : Bs w v l) (o : Obj) : Bs (w.alloc o) v l := h.kept ((Below.refl _ _).alloc (Nat.le_refl _) o)
theorem Bs.drew {w : World} {v : Value} {l : List Nat} (h : Bs w v l) : Bs w.drew v l := h.kept ((Below.refl _ _).drew)
structure Own (B : Nat) (w : World) (v : Value) (l : List Nat) : Prop where
 row : w.ownsRow B 5 1 v l.length (bv l)
 good : ok l
theorem Own.nil (B : Nat) (w : World) : Own B w (.slice none 0 0) [] := ⟨World.ownsRow_nil _ _ _ _, ok_nil⟩
theorem Own.shape {B : Nat} {w : World} {v : Value} {l : List Nat} (h : Own B w v l) : (v = .slice none 0 0 ∧ l = []) ∨ ∃ g cap, v = .slice (some ⟨g, 0, none⟩) l.length cap ∧ B ≤ g ∧ g < w.heap.size ∧ l.length ≤ cap ∧ cap ≤ maxLen ∧ (∀ j (h : j < l.length), w.cell? ⟨g, j, none⟩ = some (.int .u8 (l[j] : Int))) := by
 have h0 := h.row
 rcases h.row.2 with ⟨rfl, h1⟩ | ⟨g, cap, cur, rfl, hb, hg, h1, h2, h3, h4⟩
 ·exact .inl ⟨rfl, List.eq_nil_of_length_eq_zero h1⟩
 ·refine .inr ⟨g, cap, rfl, hb, (Array.getElem?_eq_some_iff.1 hg).1, h1, h2, fun j hj => ?_⟩
  rw [h0.cellAt j (by omega), bv_get l j hj]
theorem Own.bs {B : Nat} {w : World} {v : Value} {l : List Nat} (h : Own B w v l) : Bs w v l := by
 refine ⟨?_, h.good⟩
 rcases h.shape with ⟨rfl, rfl⟩ | ⟨g, cap, rfl, _, _, h1, h2, hc⟩
 ·exact (Bs.nil w).shape
 ·exact ⟨some ⟨g, 0, none⟩, cap, rfl, h1, h2, fun e => (by cases e), fun _ => ⟨g, 0, rfl, fun j hj => by rw [Nat.zero_add]; exact hc j hj⟩⟩
theorem Own.kept {B : Nat} {w w' : World} {v : Value} {l : List Nat} (h : Own B w v l) (hb : Below w.heap.size w w') : Own B w' v l := by
 refine ⟨⟨h.row.1, ?_⟩, h.good⟩
 rcases h.row.2 with h1 | ⟨g, cap, cur, rfl, h1, hg, rest⟩
 ·exact .inl h1
 ·exact .inr ⟨g, cap, cur, rfl, h1, (hb.block g (Array.getElem?_eq_some_iff.1 hg).1).trans hg, rest⟩
theorem Own.alloc {B : Nat} {w : World} {v : Value} {l : List Nat} (h : Own B w v l) (o : Obj) : Own B (w.alloc o) v l := h.kept ((Below.refl _ _).alloc (Nat.le_refl _) o)
theorem Own.mono {B B' : Nat} {w : World} {v : Value} {l : List Nat} (h : Own B w v l) (hB : B' ≤ B) : Own B' w v l := by
 refine ⟨⟨h.row.1, ?_⟩, h.good⟩
 rcases h.row.2 with h1 | ⟨g, cap, cur, rfl, h1, rest⟩
 ·exact .inl h1
 ·exact .inr ⟨g, cap, cur, rfl, by omega, rest⟩
theorem Own.lit {B : Nat} (w : World) (l : List Nat) (hl : ok l) (hB : B ≤ w.heap.size) (hm : l.length ≤ maxLen) (cs : Array Value) (hcs : cs.toList = bv l) : Own B (w.alloc (.cells cs 5)) (.slice (some ⟨w.heap.size, 0, none⟩) l.length l.length) l := by
 have h := World.ownsRow_lit (base := B) (e := 5) (size := 1) w cs l.length hB hm (by rw [← Array.length_toList, hcs, bv_length, Nat.mul_one])
 rw [hcs] at h
 exact ⟨h, hl⟩

theorem Bs.one (w : World) (n : Nat) (h : n < 256) (x : Int) (hx : x = (n : Int)) : Bs (w.alloc (.cells #[.int .u8 x] 5)) (.slice (some ⟨w.heap.size, 0, none⟩) 1 1) [n] := by
 subst hx
 exact (Own.lit (B := 0) w [n] (ok_one h) (Nat.zero_le _) (by simp [maxLen]) #[.int .u8 (n : Int)] rfl).bs

theorem wpList_append {P : Program} (w : World) {ops : Array Oper} {rest : List Oper} {o : Oper} {a : Act} {Q : Exit → Act → World → Prop} (hgd : o.guard = none) (s x : Operand) (t : TypeId)
  (ho : o.op = .call { callee := .builtin .append, args := #[s, x], argTypes := #[t, t] })
  (B : Nat) (hinfo : (P.info? 5).map (fun i => (i.zero, i.size, i.bytes)) = some (some (.int .u8 0), 1, 1)) (ht : P.underlying t = some (.slice 5))
  (v : Value) (l : List Nat) (hv : a.eval s = v) (h : Own B w v l) (xv : Value) (m : List Nat) (hx : a.eval x = xv) (hm : Bs w xv m)
  (hmax : l.length + m.length ≤ 140737488355328) (hB : B ≤ w.heap.size)
  (hK : ∀ v' w', Own B w' v' (l ++ m) → Below B w w' → w.grownBy w' v.ownBlock → wpList P ops Q rest (a.put o.dst v') w') : wpList P ops Q (o :: rest) a w := by
 obtain ⟨i0, hi, hz0, hz1, hz2⟩ := info_parts hinfo
 have lift : ∀ v' w', w'.ownsRow B 5 1 v' (l.length + m.length) (bv l ++ bv m) → w.grownBy w' v.ownBlock → Own B w' v' (l ++ m) ∧ Below B w w' := by
  intro v' w' h1 h2
  refine ⟨⟨?_, ok_append h.good hm.good⟩, (Below.refl B w).grown h2 hB (fun k hk => (h.row.lt k hk).1)⟩
  rw [List.length_append, bv_append]
  exact h1
 obtain ⟨ao, cap, rfl, hl, hmx, hn, hc⟩ := hm.shape
 cases ao with
 | none =>
  obtain rfl := hn rfl
  have h0 : m = [] := List.eq_nil_of_length_eq_zero (by omega)
  subst h0
  refine wpList_append_own_none hgd s x t ho B 5 i0 1 ht hi v l.length (bv l) hv h.row hx ?_
  have := hK v w (by simpa using h) (Below.refl _ _) (World.grownBy.refl _ _)
  exact this
 | some ad =>
  refine wpList_append_own w hgd s x t ho B 5 i0 (.int .u8 0) 1 1 ht hi hz0 hz1 hz2 rfl (by decide) v l.length (bv l) hv h.row ad m.length cap (bv m) hx (by rw [bv_length, Nat.mul_one]) ?_ (bv_one m) (by unfold maxLen; omega) (by omega) hB ?_
  ·intro j u hj
   have hjl : j < m.length := by have := (List.getElem?_eq_some_iff.1 hj).1; rwa [bv_length] at this
   obtain ⟨b, off, e, hcell⟩ := hc (List.ne_nil_of_length_pos (by omega))
   obtain rfl := Option.some.inj e
   rw [bv_get m j hjl] at hj
   rw [Addr.add_lit, hcell j hjl]
   exact hj
  ·intro v' w' h1 h2 _
   obtain ⟨r1, r2⟩ := lift v' w' h1 h2
   exact hK v' w' r1 r2 h2

structure Ps (w : World) (v : Value) (ls : List (List Nat)) : Prop where
 shape : ∃ ao cap, v = .slice ao ls.length cap ∧ ls.length ≤ maxLen ∧ (ls ≠ [] → ∃ b off, ao = some ⟨b, off, none⟩ ∧ ∀ j (h : j < ls.length), ∃ vj, w.cell? ⟨b, off + j, none⟩ = some vj ∧ Bs w vj ls[j])
theorem Ps.kept {w w' : World} {v : Value} {ls : List (List Nat)} (h : Ps w v ls) (hb : Below w.heap.size w w') : Ps w' v ls := by
 obtain ⟨ao, cap, rfl, hm, hc⟩ := h.shape
 refine ⟨ao, cap, rfl, hm, fun hne => ?_⟩
 obtain ⟨b, off, rfl, hcell⟩ := hc hne
 refine ⟨b, off, rfl, fun j hj => ?_⟩
 obtain ⟨vj, h1, h2⟩ := hcell j hj
 exact ⟨vj, (hb.cell (p := ⟨b, off + j, none⟩) (World.block_lt_of_cell? _ _ h1)).trans h1, h2.kept hb⟩
theorem Ps.lit (w : World) (vs : List Value) (ls : List (List Nat)) (t : TypeId) (cs : Array Value) (hcs : cs.toList = vs) (hl : vs.length = ls.length) (hm : ls.length ≤ maxLen) (h : ∀ j (h1 : j < vs.length) (h2 : j < ls.length), Bs w vs[j] ls[j]) :
  Ps (w.alloc (.cells cs t)) (.slice (some ⟨w.heap.size, 0, none⟩) ls.length ls.length) ls := by
 refine ⟨_, _, rfl, hm, fun _ => ⟨_, _, rfl, fun j hj => ?_⟩⟩
 have hj' : j < vs.length := by omega
 refine ⟨vs[j], ?_, (h j hj' hj).alloc _⟩
 rw [Nat.zero_add]
 have e : (w.alloc (.cells cs t)).cell? ⟨w.heap.size, j, none⟩ = cs[j]? := World.cell?_alloc_new w _ _ j
 rw [e, ← Array.getElem?_toList, hcs, List.getElem?_eq_getElem hj']
theorem ps1 (w : World) (g : Nat) (hg : g = w.heap.size) {v : Value} {l : List Nat} (t : TypeId) (h : Bs w v l) : Ps (w.alloc (.cells #[v] t)) (.slice (some ⟨g, 0, none⟩) 1 1) [l] := by
 subst hg
 exact Ps.lit w [v] [l] t #[v] rfl rfl (by simp [maxLen]) (fun j h1 h2 => by
  match j, h1 with
  | 0, _ => exact h)
theorem ps2 (w : World) (g : Nat) (hg : g = w.heap.size) {v v2 : Value} {l l2 : List Nat} (t : TypeId) (h : Bs w v l) (h2 : Bs w v2 l2) : Ps (w.alloc (.cells #[v, v2] t)) (.slice (some ⟨g, 0, none⟩) 2 2) [l, l2] := by
 subst hg
 exact Ps.lit w [v, v2] [l, l2] t #[v, v2] rfl rfl (by simp [maxLen]) (fun j h1 _ => by
  match j, h1 with
  | 0, _ => exact h
  | 1, _ => exact h2)
theorem ps3 (w : World) (g : Nat) (hg : g = w.heap.size) {v v2 v3 : Value} {l l2 l3 : List Nat} (t : TypeId) (h : Bs w v l) (h2 : Bs w v2 l2) (h3 : Bs w v3 l3) : Ps (w.alloc (.cells #[v, v2, v3] t)) (.slice (some ⟨g, 0, none⟩) 3 3) [l, l2, l3] := by
 subst hg
 exact Ps.lit w [v, v2, v3] [l, l2, l3] t #[v, v2, v3] rfl rfl (by simp [maxLen]) (fun j h1 _ => by
  match j, h1 with
  | 0, _ => exact h
  | 1, _ => exact h2
  | 2, _ => exact h3)
theorem up {w w1 : World} (h : Below w.heap.size w w1) (o : Obj) : Below w.heap.size w (w1.alloc o) := h.alloc h.size o
theorem andThen {w w1 w2 : World} (h : Below w.heap.size w w1) (k : Below w1.heap.size w1 w2) : Below w.heap.size w w2 := h.trans (k.mono h.size)
theorem up0 (w : World) (o : Obj) : Below w.heap.size w (w.alloc o) := up (Below.refl _ _) o
end Wb
end Go.Proofs.YtodcakplmoajiaaDoor
namespace Go.Proofs.YtodcakplmoajiaaDoor
open Go Go.RowKit
open Wb

def zz (v : Int) : Nat := if 0 ≤ v then (2 * v).toNat else (-2 * v - 1).toNat
def uz (x : Nat) : Int := if x % 2 = 0 then ((x / 2 : Nat) : Int) else -((x / 2 : Nat) : Int) - 1
def rb (l : List Nat) (p m : Int) : List Nat × Int × Nat :=
 if m < 0 then ([], 0, 1)
 else if (Wn.ru l p).2.2 ≠ 0 then ([], 0, (Wn.ru l p).2.2)
 else if m < ((Wn.ru l p).1 : Int) then ([], 0, 13)
 else if (l.length : Int) - (Wn.ru l p).2.1 < ((Wn.ru l p).1 : Int) then ([], 0, 10)
 else ((l.take ((Wn.ru l p).2.1.toNat + (Wn.ru l p).1)).drop (Wn.ru l p).2.1.toNat, (Wn.ru l p).2.1 + ((Wn.ru l p).1 : Int), 0)
theorem info5 : (Tryd.prog.info? 5).map (fun i => (i.zero, i.size, i.bytes)) = some (some (.int .u8 0), 1, 1) := by kernel_rfl
def le4 (s : Nat) : List Nat := [s % 256, s / 256 % 256, s / 65536 % 256, s / 16777216 % 256]
def tup3 (a : Nat) (b : Int) (c : Nat) : Value := .tuple #[.int .u64 (a : Int), .int .i64 b, .int .i64 (c : Int)]

def fr (body : List Nat) : List Nat := Wn.uint body.length ++ body ++ le4 (Wm.crc (Wn.uint body.length ++ body)) ++ [165]

def ri (l : List Nat) (p : Int) : Int × Int × Nat := if (Wn.ru l p).2.2 ≠ 0 then (0, 0, (Wn.ru l p).2.2) else (uz (Wn.ru l p).1, (Wn.ru l p).2.1, 0)

def stp : Nat → Nat → Nat
 | 0, r => r
 | k + 1, r => Wm.step (stp k r)
end Go.Proofs.YtodcakplmoajiaaDoor
