import Derived.Test.YtenhaogheilmoaaDoorChecked
import Derived.Deep.MidRow
import Derived.Laws.AppendOwnNone
import Derived.Maps.AppendAt
import Derived.WalkSpells
import Derived.WalkLawsBesides
import Derived.OwnWalk
import Derived.Deep.QuietTactic
import Derived.BigQuiet
import Derived.WalkSmall
import Derived.Deep.RegionHeldLaw
import Derived.Laws.EntriesVeiled
import Derived.Test.YtenhaogheilmoaaDoorRows
import Derived.Lib.LaidU8
import Derived.ChangeMaps5
import Derived.ProofKit
import Derived.OpenShut
import Derived.ShutString
import Derived.ChangeOld
import Derived.Deep.DeepHandedRow
import Derived.Deep.Strs
/-
  Package lift: what a way does.
-/
namespace Go.Proofs.YtenhaogheilmoaaDoor.Lft
open Go Go.RowKit

theorem up {w w1 : World} (h : Below w.heap.size w w1) (o : Obj) : Below w.heap.size w (w1.alloc o) := h.alloc h.size o
theorem andThen {w w1 w2 : World} (h : Below w.heap.size w w1) (k : Below w1.heap.size w1 w2) : Below w.heap.size w w2 := h.trans (k.mono h.size)
theorem up0 (w : World) (o : Obj) : Below w.heap.size w (w.alloc o) := up (Below.refl _ _) o
theorem infoI : ∃ i, Tryd.prog.info? 3 = some i ∧ i.size = 1 := by
  have h : (Tryd.prog.info? 3).map (·.size) = some 1 := by kernel_rfl
  cases hq : Tryd.prog.info? 3 with
  | none => rw [hq] at h; simp at h
  | some i => rw [hq] at h; exact ⟨i, rfl, by simpa using h⟩
set_option maxRecDepth 100000 in
/-- two arrays of two numbers -/
theorem eq2 (a1 a2 b1 b2 : Int) (w : World) :
    (Op.equalIn 10000 131 (.agg #[.int .i64 a1, .int .i64 a2]) (.agg #[.int .i64 b1, .int .i64 b2])).run Tryd.prog w = .ok (decide (a1 = b1 ∧ a2 = b2)) w := by
  obtain ⟨i, hi, hs⟩ := infoI
  have hagg : ∀ w', (isAgg 3).run Tryd.prog w' = .ok false w' := fun w' => by
    unfold isAgg
    rw [Sem.run_bind, run_underlying Tryd.underlying3 w']
    rfl
  have hel : ∀ a b w', (Op.equalIn 9999 3 (.int .i64 a) (.int .i64 b)).run Tryd.prog w' = .ok (a == b) w' := fun a b w' => run_equalIn_int w' 9998 3 .i64 .i64 a b Tryd.underlying3
  unfold Op.equalIn
  simp [run_underlying Tryd.underlying131, sizeOf, typeInfo, hi, hs, part, hagg, Std.Legacy.Range.forIn_eq_forIn_range', List.range', hel, go_sem]
  repeat' split
  all_goals simp_all
/-- the ways -/
def wF (k : Nat) : Int := if k = 0 then 1 else if k = 1 then 2 else if k = 2 then 3 else 2
def wT (k : Nat) : Int := if k = 0 then 2 else if k = 1 then 3 else if k = 2 then 2 else 1
def wN (k : Nat) : ByteArray := ⟨if k = 0 then #[49, 116, 111, 50] else if k = 1 then #[50, 116, 111, 51] else if k = 2 then #[51, 116, 111, 50] else #[50, 116, 111, 49]⟩
end Go.Proofs.YtenhaogheilmoaaDoor.Lft

/-
  Package lift: walk.
-/
namespace Go.Proofs.YtenhaogheilmoaaDoor.Lft
open Go Go.RowKit

theorem info_parts3 {P : Program} {t : TypeId} {z : Value} {a b : Nat} (h : (P.info? t).map (fun i => (i.zero, i.size, i.bytes)) = some (some z, a, b)) : ∃ i, P.info? t = some i ∧ i.zero = some z ∧ i.size = a ∧ i.bytes = b := by
  cases hq : P.info? t with
  | none => rw [hq] at h; simp at h
  | some i =>
    rw [hq] at h
    simp at h
    exact ⟨i, rfl, h.1, h.2.1, h.2.2⟩
def zStep : Value := .agg #[.string ⟨#[]⟩, .nilFunc]
/-- the state behind k ways: where one is, and which ways were gone -/
def go (f t : Int) : Nat → Int × List Nat
  | 0 => (f, [])
  | k + 1 => if (go f t k).1 ≠ t ∧ wF k = (go f t k).1 ∧ decide (wF k < wT k) = decide (f < t) then (wT k, (go f t k).2 ++ [k]) else go f t k
theorem go_len (f t : Int) : ∀ k, (go f t k).2.length ≤ k
  | 0 => Nat.le_refl _
  | k + 1 => by
    have := go_len f t k
    unfold go
    split
    · simp; omega
    · omega
theorem rng_alloc {w : World} {g o : Nat} {cs : List Value} (h : w.rangeAt g o cs) {w' : World} (hb : Below w.heap.size w w') : w'.rangeAt g o cs := fun m v hv =>
  (hb.cell (p := ⟨g, o + m, none⟩) (World.block_lt_of_cell? _ _ (h m v hv))).trans (h m v hv)

end Go.Proofs.YtenhaogheilmoaaDoor.Lft

/-
  Package lift: Steps; the law's sameWords.
-/
namespace Go.Proofs.YtenhaogheilmoaaDoor.Lft
open Go Go.RowKit

theorem infoStr : ∃ i, Tryd.prog.info? 9 = some i ∧ i.zero = some (.string ⟨#[]⟩) ∧ i.size = 1 ∧ i.bytes = 16 := by
  have h : (Tryd.prog.info? 9).map (fun i => (i.zero, i.size, i.bytes)) = some (some (.string ⟨#[]⟩), 1, 16) := by kernel_rfl
  exact info_parts3 h
def tc (l : List ByteArray) : List Value := l.map fun z => Value.string z
/-- texts in a row of the call's own -/
def RoT (B : Nat) (w : World) (v : Value) (l : List ByteArray) : Prop := w.ownsRow B 9 1 v l.length (tc l)
theorem RoT.kept {B : Nat} {w w' : World} {v : Value} {l : List ByteArray} (h : RoT B w v l) (hb : Below w.heap.size w w') : RoT B w' v l := by
  refine ⟨h.1, ?_⟩
  rcases h.2 with h1 | ⟨g, cap, cur, rfl, h1, hg, rest⟩
  · exact .inl h1
  · exact .inr ⟨g, cap, cur, rfl, h1, (hb.block g (Array.getElem?_eq_some_iff.1 hg).1).trans hg, rest⟩
theorem RoT.below {w0 w w' : World} {v : Value} {l : List ByteArray} (h : RoT w0.heap.size w v l) (hb : Below w0.heap.size w0 w) (hg : w.grownBy w' v.ownBlock) : Below w0.heap.size w0 w' :=
  hb.grown hg hb.size (fun k hk => (World.ownsRow.lt h k hk).1)
theorem RoT.shape {B : Nat} {w : World} {v : Value} {l : List ByteArray} (h : RoT B w v l) : ∃ ao cap, v = .slice ao l.length cap := by
  rcases h.2 with ⟨rfl, h1⟩ | ⟨g, cap, cur, rfl, _⟩
  · exact ⟨none, 0, by rw [h1]⟩
  · exact ⟨_, cap, rfl⟩
theorem RoT.mono {B B' : Nat} {w : World} {v : Value} {l : List ByteArray} (h : RoT B w v l) (hB : B' ≤ B) : RoT B' w v l := by
  refine ⟨h.1, ?_⟩
  rcases h.2 with h1 | ⟨g, cap, cur, rfl, h1, rest⟩
  · exact .inl h1
  · exact .inr ⟨g, cap, cur, rfl, by omega, rest⟩
theorem roT_nil (B : Nat) (w : World) : RoT B w (.slice none 0 0) [] := ⟨rfl, .inl ⟨rfl, rfl⟩⟩
/-- append(v, c) of one text -/
theorem wpList_app_str {P : Program} (w : World) {ops : Array Oper} {rest : List Oper} {o : Oper} {a : Act} {Q : Exit → Act → World → Prop} (hgd : o.guard = none) (s x : Operand) (t : TypeId)
    (ho : o.op = .call { callee := .builtin .append, args := #[s, x], argTypes := #[t, t] })
    (B : Nat) (hinfo : ∃ i, P.info? 9 = some i ∧ i.zero = some (.string ⟨#[]⟩) ∧ i.size = 1 ∧ i.bytes = 16) (ht : P.underlying t = some (.slice 9))
    (v : Value) (l : List ByteArray) (hv : a.eval s = v) (h : RoT B w v l) (g : Nat) (c : ByteArray) (hx : a.eval x = .slice (some ⟨g, 0, none⟩) 1 1) (hc : w.cell? ⟨g, 0, none⟩ = some (.string c)) (hl : l.length ≤ 1000) (hB : B ≤ w.heap.size)
    (hK : ∀ v' w', RoT B w' v' (l ++ [c]) → w.grownBy w' v.ownBlock → wpList P ops Q rest (a.put o.dst v') w') : wpList P ops Q (o :: rest) a w := by
  obtain ⟨i, hi, hz, h1, h2⟩ := hinfo
  refine wpList_append_own w hgd s x t ho B 9 i (.string ⟨#[]⟩) 1 16 ht hi hz h1 h2 rfl (by decide) v l.length (tc l) hv h ⟨g, 0, none⟩ 1 1 [.string c] hx rfl ?_ (by intro u hu; simp at hu; subst hu; rfl) (by unfold maxLen; omega) (by omega) hB fun v' w' h3 h4 _ => hK v' w' ?_ h4
  · intro j u hj
    match j, hj with
    | 0, hj =>
      simp at hj
      subst hj
      rw [Addr.add_lit]
      exact hc
  · show w'.ownsRow B 9 1 v' (l ++ [c]).length (tc (l ++ [c]))
    have e2 : tc (l ++ [c]) = tc l ++ [.string c] := by simp [tc]
    rw [List.length_append, e2]
    exact h3
theorem new2 (w : World) (o : Obj) (x : ByteArray) (t : TypeId) : ((w.alloc o).alloc (.cells #[.string x] t)).cell? ⟨w.heap.size + 1, 0, none⟩ = some (.string x) := by
  have e : (w.alloc o).heap.size = w.heap.size + 1 := by
    show (w.heap.push o).size = _
    rw [Array.size_push]
  rw [← e, World.cell?_alloc_new]
  rfl
def names (l : List Nat) : List ByteArray := l.map wN

end Go.Proofs.YtenhaogheilmoaaDoor.Lft

/-
  Package lift: the table of ways.
-/
namespace Go.Proofs.YtenhaogheilmoaaDoor.Lft
open Go Go.RowKit

theorem cInt : Tryd.prog.cellsOf 3 = 1 := by kernel_rfl
theorem cStr : Tryd.prog.cellsOf 9 = 1 := by kernel_rfl
/-- For the witness: the table's block holds what its initialiser lays. -/
def lay_ways : Obj → Obj
  | .cells _ ty frozen => .cells ((List.range 4).flatMap fun k => [Value.int .i64 (wF k), .int .i64 (wT k), .string (wN k)]).toArray ty frozen
  | o => o
theorem own : ownKnob Tryd.prog.godebug = none := by kernel_rfl
theorem laidOut : laidOutB Tryd.prog = true := by kernel_rfl
end Go.Proofs.YtenhaogheilmoaaDoor.Lft
