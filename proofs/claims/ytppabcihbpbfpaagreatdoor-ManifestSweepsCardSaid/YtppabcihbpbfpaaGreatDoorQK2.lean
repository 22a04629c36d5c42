import Derived.Deep.RegionHeld
import Derived.Deep.RegionHeld3
import Derived.Deep.CutRange
import Derived.BigQuiet
import Derived.Deep.QuietTactic
import Derived.WalkSmall
import Derived.Deep.MidRow
import Derived.Deep.RegionWith
import Derived.Laws.AppendOwnNone
import Derived.Sort.KeysCollected
import Derived.Test.YtppabcihbpbfpaaGreatDoorQK1
/-
  The base of a plan seat without sagas: a block's cells by a letter.
-/
namespace Go.Proofs.YtppabcihbpbfpaaGreatDoor
open Go Go.RowKit
open Wb

theorem range_kept {w w' : World} {g o : Nat} {D : List Value} (h : w.rangeAt g o D) (hb : Below w.heap.size w w') : w'.rangeAt g o D := fun j v hv =>
  (hb.cell (p := ⟨g, o + j, none⟩) (World.block_lt_of_cell? _ _ (h j v hv))).trans (h j v hv)
theorem wpList_load_midG {P : Program} {ops : Array Oper} {rest : List Oper} {op : Oper} {a : Act} {w : World} {Q : Exit → Act → World → Prop} (hw : Region.wanted op (yielded ops a.tmps) = true) (ty : TypeId) (x : Operand) (ho : op.op = .load ty x)
    (b o : Nat) (hx : a.eval x = .pointer (some ⟨b, o, none⟩)) (cs : List Value) (d : TypeDesc) (hc : w.rangeAt b o cs)
    (hu : P.underlying ty = some d) (hd : d.isRow = true) (hi : (P.info? ty).map (·.size) = some cs.length)
    (h : wpList P ops Q rest (a.put op.dst (.agg cs.toArray)) w) : wpList P ops Q (op :: rest) a w :=
  wpList_step fun K hK => by
    rw [if_pos hw]
    exact wp_load_mid ty x ho b o hx cs d hc hu hd hi (hK _ _ h)

theorem set_other (w : World) (p : Addr) (u : Value) (g : Nat) (h : g ≠ p.block) : (w.setCell p u).heap[g]? = w.heap[g]? := by
  simp only [World.setCell, Array.getElem?_modify]
  rw [if_neg (Ne.symm h)]
theorem cells_other (g : Nat) : ∀ (vs : List Value) (o : Nat) (w : World) (i : Nat), i ≠ g → (w.setCells g o vs).heap[i]? = w.heap[i]?
  | [], _, _, _, _ => rfl
  | v :: r, o, w, i, h => by
    show ((w.setCell ⟨g, o, none⟩ v).setCells g (o + 1) r).heap[i]? = _
    rw [cells_other g r (o + 1) _ i h, set_other w ⟨g, o, none⟩ v i h]
theorem below_cells {B g : Nat} {a : World} (hg : B ≤ g) : ∀ (vs : List Value) (o : Nat) (w : World), Below B a w → Below B a (w.setCells g o vs)
  | [], _, _, h => h
  | v :: r, o, _, h => below_cells hg r (o + 1) _ (Below.setCell h hg v)
theorem heap_one (w : World) (o : Obj) : (w.alloc o).heap.size = w.heap.size + 1 := by
  show (w.heap.push o).size = _
  rw [Array.size_push]
/-- block g holds just these cells -/
def LB (w : World) (g : Nat) (t : TypeId) (D : List Value) : Prop := w.heap[g]? = some (.cells D.toArray t)
theorem LB.lt {w : World} {g : Nat} {t : TypeId} {D : List Value} (h : LB w g t D) : g < w.heap.size := (Array.getElem?_eq_some_iff.1 h).1
theorem LB.kept {w w' : World} {g : Nat} {t : TypeId} {D : List Value} (h : LB w g t D) (hb : Below w.heap.size w w') : LB w' g t D := (hb.block g h.lt).trans h
theorem LB.cell {w : World} {g : Nat} {t : TypeId} {D : List Value} (h : LB w g t D) (j : Nat) (v : Value) (hv : D[j]? = some v) : w.cell? ⟨g, j, none⟩ = some v := by
  unfold LB at h
  simp [World.cell?, h, hv]
theorem LB.range {w : World} {g : Nat} {t : TypeId} {D : List Value} (h : LB w g t D) : w.rangeAt g 0 D := fun j v hv => by rw [Nat.zero_add]; exact h.cell j v hv
theorem LB.free {w : World} {g : Nat} {t : TypeId} {D : List Value} (h : LB w g t D) (j : Nat) : w.frozen? ⟨g, j, none⟩ = false := by
  unfold LB at h
  simp [World.frozen?, h]
theorem LB.there {w : World} {g : Nat} {t : TypeId} {D : List Value} (h : LB w g t D) : w.there g 0 D.length := fun j hj => by
  rw [Nat.zero_add]
  exact ⟨by rw [h.cell j D[j] (List.getElem?_eq_getElem hj)]; rfl, h.free j⟩
theorem LB.set {w : World} {g : Nat} {t : TypeId} {D : List Value} (h : LB w g t D) (j : Nat) (v : Value) : LB (w.setCell ⟨g, j, none⟩ v) g t (D.set j v) := by
  unfold LB at *
  simp [World.setCell, Array.getElem?_modify, h]
theorem LB.other {w : World} {g : Nat} {t : TypeId} {D : List Value} (h : LB w g t D) (p : Addr) (v : Value) (hp : g ≠ p.block) : LB (w.setCell p v) g t D := (set_other w p v g hp).trans h
theorem LB.others {w : World} {g : Nat} {t : TypeId} {D : List Value} (h : LB w g t D) (g' o : Nat) (vs : List Value) (hp : g ≠ g') : LB (w.setCells g' o vs) g t D := (cells_other g' vs o w g hp).trans h
theorem set_lst (D r : List Value) (o : Nat) (v : Value) (h : o + (r.length + 1) ≤ D.length) : (D.set o v).take (o + 1) ++ r ++ (D.set o v).drop (o + 1 + r.length) = D.take o ++ (v :: r) ++ D.drop (o + (r.length + 1)) := by
  have e1 : (D.set o v).take (o + 1) = D.take o ++ [v] := by
    rw [List.take_succ_eq_append_getElem (by rw [List.length_set]; omega), List.take_set_of_le (Nat.le_refl _), List.getElem_set_self]
  have e2 : (D.set o v).drop (o + 1 + r.length) = D.drop (o + (r.length + 1)) := by
    rw [List.drop_set_of_lt (by omega), show o + 1 + r.length = o + (r.length + 1) by omega]
  rw [e1, e2]
  simp
theorem LB.sets_at {g : Nat} {t : TypeId} : ∀ (E : List Value) (o : Nat) (w : World) (D : List Value), LB w g t D → o + E.length ≤ D.length → LB (w.setCells g o E) g t (D.take o ++ E ++ D.drop (o + E.length))
  | [], o, w, D, h, _ => by
    have e : D.take o ++ [] ++ D.drop (o + ([] : List Value).length) = D := by simp
    rw [e]
    exact h
  | v :: r, o, w, D, h, hl => by
    have hl' : o + (r.length + 1) ≤ D.length := by simpa using hl
    have ih := LB.sets_at r (o + 1) (w.setCell ⟨g, o, none⟩ v) (D.set o v) (h.set o v) (by rw [List.length_set]; omega)
    rw [set_lst D r o v hl'] at ih
    exact ih
theorem LB.sets {w : World} {g : Nat} {t : TypeId} {D : List Value} (h : LB w g t D) (E : List Value) (hl : E.length = D.length) : LB (w.setCells g 0 E) g t E := by
  have h2 := LB.sets_at E 0 w D h (by omega)
  rw [show D.drop (0 + E.length) = [] by rw [Nat.zero_add, hl, List.drop_length]] at h2
  simpa using h2
theorem lb_new (w : World) (D : List Value) (t : TypeId) : LB (w.alloc (.cells D.toArray t)) w.heap.size t D := Array.getElem?_push_size
/-- two new blocks -/
theorem lb_new2 (w : World) (D Z : List Value) (t t2 : TypeId) : LB ((w.alloc (.cells D.toArray t)).alloc (.cells Z.toArray t2)) w.heap.size t D ∧ LB ((w.alloc (.cells D.toArray t)).alloc (.cells Z.toArray t2)) (w.heap.size + 1) t2 Z ∧ Below w.heap.size w ((w.alloc (.cells D.toArray t)).alloc (.cells Z.toArray t2)) := by
  refine ⟨(lb_new w D t).kept (up0 _ _), ?_, up (up0 _ _) _⟩
  have h := lb_new (w.alloc (.cells D.toArray t)) Z t2
  rwa [heap_one] at h
theorem size_set1 (w : World) (p : Addr) (v : Value) : (w.setCell p v).heap.size = w.heap.size := by simp [World.setCell]
theorem there_of {w : World} {g : Nat} {t : TypeId} {Z : List Value} {n : Nat} (h : LB w g t Z) (e : n = Z.length) : w.there g 0 n := by rw [e]; exact h.there
theorem lb_rec (w : World) (g : Nat) (t t2 : TypeId) (C E : List Value) (L : LB w g t C) : LB (w.alloc (.cells E.toArray t2)) g t C ∧ LB (w.alloc (.cells E.toArray t2)) w.heap.size t2 E ∧ Below w.heap.size w (w.alloc (.cells E.toArray t2)) := ⟨L.kept (up0 _ _), lb_new _ _ _, up0 _ _⟩
end Go.Proofs.YtppabcihbpbfpaaGreatDoor

/-
  The moves of a region that draws, in short.
-/
namespace Go.Proofs.YtppabcihbpbfpaaGreatDoor
open Go Go.RowKit
open Wb

theorem zq1 {α : Type} {l : List α} {i : Nat} {a : α} : l.toArray.setIfInBounds i a = (l.set i a).toArray := List.setIfInBounds_toArray _ _ _
theorem zq2 {α : Type} {x : α} {l : List α} {b : α} : (x :: l).set 0 b = b :: l := rfl
theorem zq3 {α : Type} {x : α} {l : List α} {n : Nat} {b : α} : (x :: l).set (n + 1) b = x :: l.set n b := rfl
theorem zq4 {α : Type} {l : List α} {i : Nat} (h : i < l.toArray.size) : l.toArray[i] = l[i]'(by simpa using h) := List.getElem_toArray h
theorem zq5 {α : Type} {x : α} {l : List α} (h : 0 < (x :: l).length) : (x :: l)[0] = x := rfl
theorem zq6 {α : Type} {x : α} {l : List α} {i : Nat} (h : i + 1 < (x :: l).length) : (x :: l)[i + 1] = l[i]'(Nat.lt_of_succ_lt_succ h) := rfl
section
variable {P : Program} {md : Region.Mode} {ops : Array Oper} {Q : Exit → Act → World → Prop} {S : World → Prop} {fuel : Nat} {listed : Array Bool} {a : Act} {w : World} {oi : Oper} {v : Value}
theorem zql (i : Nat) (hi : ops[i]? = some oi) (hy : YieldsIf P ops S oi v a) (hS : S w) (h : wpAnyH P md ops Q S fuel (listed.setIfInBounds i true) (a.put oi.dst v) w) (hs : Region.noSelect ops = true := by kernel_rfl) (hf : Region.free md ops listed i = true := by kernel_rfl) (hr : (Region.ready md ops listed).contains i = true := by kernel_rfl)
    (hQ : ∀ c a w, Q (.panic c) (a.put oi.dst v) w → Q (.panic c) a w := by exact fun _ _ _ h => h) : wpAnyH P md ops Q S (fuel + 1) listed a w := wpAnyH_take hi hs hf hr hQ hy hS h
theorem zqk (i : Nat) (hi : ops[i]? = some oi) (hS : S w) (h : wpAnyH P md ops Q S fuel (listed.setIfInBounds i true) (a.put oi.dst v) w) (hw : Region.wanted oi (yielded ops a.tmps) = true := by rfl) (hy : ∀ w', S w' → (execOp a.eval oi).run P w' = .ok (.value v) w' := by intro w' hSw; (try dsimp only at hSw); go_simp; all_goals rfl) (hs : Region.noSelect ops = true := by kernel_rfl) (hf : Region.free md ops listed i = true := by kernel_rfl) (hr : (Region.ready md ops listed).contains i = true := by kernel_rfl)
    (hQ : ∀ c a w, Q (.panic c) (a.put oi.dst v) w → Q (.panic c) a w := by exact fun _ _ _ h => h) : wpAnyH P md ops Q S (fuel + 1) listed a w := wpAnyH_take hi hs hf hr hQ (Or.inl ⟨hw, hy⟩) hS h
theorem zqr (i : Nat) (hi : ops[i]? = some oi) (h : ∀ K' : Act → World → Prop, Shut (∀ a w, S w → (S w → wpAnyH P md ops Q S fuel (listed.setIfInBounds i true) a w) → K' a w) → if Region.wanted oi (yielded ops a.tmps) = true then Oper.wp P oi a w K' Q else K' (a.put oi.dst undef) w) (hr : Region.ready md ops listed = [i] := by kernel_rfl) : wpAnyH P md ops Q S (fuel + 1) listed a w := wpAnyH_ready hr (by simp) (AllReadyH.cons hi h AllReadyH.nil)
end
end Go.Proofs.YtppabcihbpbfpaaGreatDoor

/-
  What a type's facts are made of.
-/
namespace Go.Proofs.YtppabcihbpbfpaaGreatDoor
open Go

theorem info_parts3 {P : Program} {t : TypeId} {z : Value} {a b : Nat} (h : (P.info? t).map (fun i => (i.zero, i.size, i.bytes)) = some (some z, a, b)) : ∃ i, P.info? t = some i ∧ i.zero = some z ∧ i.size = a ∧ i.bytes = b := by
  cases hq : P.info? t with
  | none => rw [hq] at h; simp at h
  | some i =>
    rw [hq] at h
    simp at h
    exact ⟨i, rfl, h.1, h.2.1, h.2.2⟩
end Go.Proofs.YtppabcihbpbfpaaGreatDoor

/-
  Rows of one and the same element: written over and lengthened.
-/
namespace Go.Proofs.YtppabcihbpbfpaaGreatDoor
open Go Go.RowKit
namespace Mg

/-- n times the same cells -/
def pat (cs : List Value) (n : Nat) : List Value := (List.replicate n cs).flatten
theorem pat_len (cs : List Value) (n : Nat) : (pat cs n).length = n * cs.length := by simp [pat]
theorem pat_succ (cs : List Value) (n : Nat) : pat cs (n + 1) = cs ++ pat cs n := by simp [pat, List.replicate_succ]
theorem pat_add (cs : List Value) (n k : Nat) : pat cs n ++ pat cs k = pat cs (n + k) := by
  unfold pat
  rw [← List.flatten_append, List.replicate_append_replicate]
theorem pat_get (cs : List Value) : ∀ (n p : Nat), p < n * cs.length → (pat cs n)[p]? = cs[p % cs.length]?
  | 0, p, h => by omega
  | n + 1, p, h => by
    rw [pat_succ]
    by_cases h1 : p < cs.length
    · rw [List.getElem?_append_left h1, Nat.mod_eq_of_lt h1]
    · rw [List.getElem?_append_right (by omega), pat_get cs n (p - cs.length) (by rw [Nat.add_mul] at h; omega), ← Nat.mod_eq_sub_mod (by omega)]
theorem pat_one (cs : List Value) (h : ∀ u ∈ cs, u.oneCell' = true) (n : Nat) : ∀ u ∈ pat cs n, u.oneCell' = true := fun u hu => by
  unfold pat at hu
  rw [List.mem_flatten] at hu
  obtain ⟨l, hl, hu⟩ := hu
  rw [List.mem_replicate] at hl
  exact h u (hl.2 ▸ hu)
theorem row_block {B : Nat} {w w' : World} {t : TypeId} {s n : Nat} {v : Value} {xs : List Value} (h : w.ownsRow B t s v n xs) (hg : ∀ g, v.ownBlock = some g → w'.heap[g]? = w.heap[g]?) : w'.ownsRow B t s v n xs := by
  refine ⟨h.1, ?_⟩
  rcases h.2 with h1 | ⟨g, cap, cur, e, hb, hh, rest⟩
  · exact .inl h1
  · exact .inr ⟨g, cap, cur, e, hb, (hg g (by rw [e]; rfl)).trans hh, rest⟩
theorem row_kept {B : Nat} {w w' : World} {t : TypeId} {s n : Nat} {v : Value} {xs : List Value} (h : w.ownsRow B t s v n xs) (hb : Below w.heap.size w w') : w'.ownsRow B t s v n xs := row_block h fun g hg => hb.block g (World.ownsRow.lt h g hg).2
theorem row_type {B : Nat} {w : World} {t : TypeId} {s n : Nat} {v : Value} {xs : List Value} (h : w.ownsRow B t s v n xs) (g : Nat) (hg : v.ownBlock = some g) : ∃ cur, w.heap[g]? = some (.cells cur t) := by
  rcases h.2 with ⟨rfl, _⟩ | ⟨g1, cap, cur, rfl, _, hh, _⟩
  · cases hg
  · obtain rfl : g1 = g := by simpa [Value.ownBlock] using hg
    exact ⟨cur, hh⟩
/-- two rows of unlike kinds have unlike blocks -/
theorem kinds_apart {B B' : Nat} {w : World} {t t' : TypeId} {s s' n n' : Nat} {v v' : Value} {xs xs' : List Value} (h : w.ownsRow B t s v n xs) (h' : w.ownsRow B' t' s' v' n' xs') (ht : t ≠ t') (g : Nat) (hg : v.ownBlock = some g) : v'.ownBlock ≠ some g := fun hg' => by
  obtain ⟨c, hc⟩ := row_type h g hg
  obtain ⟨c', hc'⟩ := row_type h' g hg'
  rw [hc] at hc'
  simp at hc'
  exact ht hc'.2
/-- a row is left alone by what changes another block -/
theorem row_other {B : Nat} {w w' : World} {t : TypeId} {s n : Nat} {v : Value} {xs : List Value} {row : Option Nat} (h : w.ownsRow B t s v n xs) (k : w.grownBy w' row) (hne : ∀ g, v.ownBlock = some g → row ≠ some g) : w'.ownsRow B t s v n xs :=
  row_block h fun g hg => k.block g (World.ownsRow.lt h g hg).2 fun e => hne g hg e.symm
theorem row_shape {B : Nat} {w : World} {t : TypeId} {s n : Nat} {v : Value} {xs : List Value} (h : w.ownsRow B t s v n xs) : ∃ a, ∃ c : Nat, v = .slice a n c ∧ n ≤ c ∧ c ≤ maxLen := by
  rcases h.2 with ⟨rfl, rfl⟩ | ⟨g, cap, cur, rfl, _, _, h1, h2, _⟩
  · exact ⟨none, 0, rfl, Nat.le_refl _, Nat.zero_le _⟩
  · exact ⟨_, _, rfl, h1, h2⟩
/-- n times the same element in a row -/
def Mk (e : TypeId) (cs : List Value) (B : Nat) (w : World) (v : Value) (n : Nat) : Prop := w.ownsRow B e cs.length v n (pat cs n)
/-- the first k places written over -/
def fil (cs : List Value) (xs : List Value) (k : Nat) : List Value := pat cs k ++ xs.drop (k * cs.length)
theorem fil_zero (cs xs : List Value) : fil cs xs 0 = xs := by simp [fil, pat]
theorem fil_end (cs xs : List Value) (n : Nat) (h : xs.length = n * cs.length) : fil cs xs n = pat cs n := by
  unfold fil
  rw [← h, List.drop_length, List.append_nil]
theorem fil_len (cs xs : List Value) (n k : Nat) (h : xs.length = n * cs.length) (hk : k ≤ n) : (fil cs xs k).length = n * cs.length := by
  unfold fil
  rw [List.length_append, pat_len, List.length_drop, h]
  have := Nat.mul_le_mul_right cs.length hk
  omega
theorem owns_setCells {B : Nat} {e : TypeId} {s n cap g : Nat} : ∀ (vs : List Value) (o : Nat) (w : World) (xs : List Value), w.ownsRow B e s (.slice (some ⟨g, 0, none⟩) n cap) n xs → o + vs.length ≤ xs.length →
    (w.setCells g o vs).ownsRow B e s (.slice (some ⟨g, 0, none⟩) n cap) n (xs.take o ++ vs ++ xs.drop (o + vs.length)) ∧ w.grownBy (w.setCells g o vs) (some g)
  | [], o, w, xs, h, _ => by
    refine ⟨?_, World.grownBy.refl _ _⟩
    show w.ownsRow _ _ _ _ _ _
    rw [List.append_nil, List.length_nil, Nat.add_zero, List.take_append_drop]
    exact h
  | v :: r, o, w, xs, h, hl => by
    have s1 := World.ownsRow.stored h o v
    rw [List.length_cons] at hl
    obtain ⟨h2, g2⟩ := owns_setCells r (o + 1) _ _ s1.1 (by rw [List.length_set]; omega)
    refine ⟨?_, ⟨g2.os.trans s1.2.os, g2.tape.trans s1.2.tape, g2.output.trans s1.2.output, Nat.le_trans s1.2.size g2.size, fun q hq hn => (g2.block q (Nat.lt_of_lt_of_le hq s1.2.size) hn).trans (s1.2.block q hq hn)⟩⟩
    show ((w.setCell ⟨g, o, none⟩ v).setCells g (o + 1) r).ownsRow _ _ _ _ _ _
    have e1 : (xs.set o v).take (o + 1) = xs.take o ++ [v] := by
      rw [List.take_succ_eq_append_getElem (by rw [List.length_set]; omega), List.getElem_set_self, List.take_set_of_le (Nat.le_refl _)]
    have e2 : (xs.set o v).drop (o + 1 + r.length) = xs.drop (o + (r.length + 1)) := by
      rw [List.drop_set_of_lt (by omega), show o + 1 + r.length = o + (r.length + 1) by omega]
    rw [e1, e2] at h2
    rw [List.length_cons]
    simpa using h2
theorem fill_step {B : Nat} {w : World} {e : TypeId} {cs xs : List Value} {a : Option Addr} {n cap k : Nat} (hcs : 0 < cs.length) (hx : xs.length = n * cs.length) (h : w.ownsRow B e cs.length (.slice a n cap) n (fil cs xs k)) (hk : k < n) :
    ∃ g, a = some ⟨g, 0, none⟩ ∧ w.there g (k * cs.length) cs.length ∧ (w.setCells g (k * cs.length) cs).ownsRow B e cs.length (.slice a n cap) n (fil cs xs (k + 1)) ∧ w.grownBy (w.setCells g (k * cs.length) cs) (some g) ∧ B ≤ g := by
  have hl := fil_len cs xs n k hx (by omega)
  have hkn : k * cs.length + cs.length ≤ n * cs.length := by
    have := Nat.mul_le_mul_right cs.length (show k + 1 ≤ n by omega)
    rw [Nat.add_mul, Nat.one_mul] at this
    exact this
  rcases h.2 with ⟨_, h0⟩ | ⟨g, cap', cur, e', hBg, hg, hnc, hcm, hcs', htk⟩
  · omega
  · simp only [Value.slice.injEq, true_and] at e'
    obtain ⟨rfl, rfl⟩ := e'
    obtain ⟨h2, g2⟩ := owns_setCells cs (k * cs.length) w _ h (by omega)
    refine ⟨g, rfl, fun j hj => ?_, ?_, g2, hBg⟩
    · refine ⟨?_, World.ownsRow.frozenAt h (k * cs.length + j)⟩
      have hc := h.cellAt (k * cs.length + j) (by omega)
      rw [hc, List.getElem?_eq_getElem (by omega)]
      rfl
    · have e3 : (fil cs xs k).take (k * cs.length) ++ cs ++ (fil cs xs k).drop (k * cs.length + cs.length) = fil cs xs (k + 1) := by
        unfold fil
        rw [List.take_append_of_le_length (by rw [pat_len]; exact Nat.le_refl _), List.take_of_length_le (by rw [pat_len]; exact Nat.le_refl _), ← pat_add, List.drop_append, List.drop_of_length_le (by rw [pat_len]; omega), pat_len, List.nil_append, List.drop_drop, show k * cs.length + (k * cs.length + cs.length - k * cs.length) = (k + 1) * cs.length by rw [Nat.add_mul]; omega]
        simp [pat]
      rw [e3] at h2
      exact h2
/-- append of m more onto n: what it makes, and that every view of the same stays -/
theorem append_mk {P : Program} (w : World) (B : Nat) (e t ty : TypeId) (cs : List Value) (z : Value) (by_ : Nat) (hcs : 0 < cs.length) (hone : ∀ u ∈ cs, u.oneCell' = true) (hinfo : (P.info? e).map (fun i => (i.zero, i.size, i.bytes)) = some (some z, cs.length, by_)) (hz : z.cells.size = cs.length) (ht : P.underlying t = some (.slice e))
    (v : Value) (k m : Nat) (h : Mk e cs B w v k) (gx cx : Nat) (hx : ∀ (j : Nat) (u : Value), (pat cs m)[j]? = some u → w.cell? ⟨gx, j, none⟩ = some u) (hmx : k + m ≤ 100000000) (hmax : (k + m) * by_ ≤ 140737488355328) (hB : B ≤ w.heap.size) :
    ∃ v' w', (Builtin.append_ #[t, t] ty #[v, .slice (some ⟨gx, 0, none⟩) m cx]).run P w = .ok v' w' ∧ Mk e cs B w' v' (k + m) ∧ w.grownBy w' v.ownBlock ∧ (v'.ownBlock = v.ownBlock ∨ v'.ownBlock = some w.heap.size) ∧
      ∀ (u : Value) (k' : Nat), Mk e cs B w u k' → Mk e cs B w' u k' := by
  obtain ⟨i0, hi, hz0, hz1, hz2⟩ := info_parts3 hinfo
  have hnews : ∀ j u, (pat cs m)[j]? = some u → w.cell? ((⟨gx, 0, none⟩ : Addr).add j) = some u := fun j u hj => by
    rw [Addr.add_lit, Nat.zero_add]
    exact hx j u hj
  obtain ⟨v', w', hr, h2, h3, _, h5⟩ := run_append_own_at (P := P) w B t ty e i0 z cs.length by_ ht hi hz0 hz1 hz2 hz hcs v k (pat cs k) h ⟨gx, 0, none⟩ m cx (pat cs m) (pat_len cs m) hnews (pat_one cs hone m) (by unfold maxLen; omega) hmax hB
  rw [pat_add] at h2
  refine ⟨v', w', hr, h2, h3, h5, fun u k' hu => ?_⟩
  by_cases hub : u.ownBlock = v.ownBlock
  · rcases hu.2 with ⟨rfl, h0⟩ | ⟨g, cap, cur, rfl, hbg, hg, hnc, hcm, hcs1, htk⟩
    · exact ⟨hu.1, .inl ⟨rfl, h0⟩⟩
    · rcases h.2 with ⟨rfl, _⟩ | ⟨g', cap', cur', rfl, hbg', hg', hnc', hcm', hcs', htk'⟩
      · cases hub
      · obtain rfl : g = g' := by simpa [Value.ownBlock] using hub
        obtain rfl : cur = cur' := by
          have := hg.symm.trans hg'
          simpa using this
        have hcc : cap = cap' := by
          have h9 : cap * cs.length = cap' * cs.length := by rw [← hcs1, ← hcs']
          exact Nat.eq_of_mul_eq_mul_right hcs h9
        subst hcc
        by_cases hroom : k + m ≤ cap
        · have hfl : (k + m) * cs.length ≤ cap * cs.length := Nat.mul_le_mul_right _ hroom
          have hfl2 : (k + m) * cs.length = k * cs.length + m * cs.length := Nat.add_mul _ _ _
          have hfit : k * i0.size + (pat cs m).length ≤ cur.size := by rw [hz1, pat_len, hcs1]; omega
          have hr2 := run_append_room (P := P) w t ty e i0 ht hi g k cap cur hg ⟨gx, 0, none⟩ m cx (pat cs m) (by rw [hz1, pat_len]) hnews (pat_one cs hone m) hroom hfit
          rw [hr2] at hr
          injection hr with e1 e2
          subst e1 e2
          refine ⟨hu.1, .inr ⟨g, cap, _, rfl, hbg, setRow_heap w g cur _ e _ hg, hnc, hcm, ?_, ?_⟩⟩
          · simp only [List.size_toArray, List.length_append, List.length_take, List.length_drop, Array.length_toList, hz1, pat_len]
            omega
          · rw [← htk, hz1, pat_len]
            have hcp : ∀ p, p < k' * cs.length → cur.toList[p]? = cs[p % cs.length]? := fun p hp => by
              have h9 : (cur.toList.take (k' * cs.length))[p]? = (pat cs k')[p]? := by rw [htk]
              rw [List.getElem?_take_of_lt hp] at h9
              rw [h9, pat_get cs k' p hp]
            have hcl : cur.toList.length = cur.size := Array.length_toList
            refine List.ext_getElem? fun p => ?_
            by_cases hp : p < k' * cs.length
            · rw [List.getElem?_take_of_lt hp, List.getElem?_take_of_lt hp]
              by_cases h1 : p < k * cs.length
              · rw [List.append_assoc, List.getElem?_append_left (by rw [List.length_take, hcl]; omega), List.getElem?_take_of_lt h1]
              · have htl : (cur.toList.take (k * cs.length)).length = k * cs.length := by rw [List.length_take, hcl]; omega
                by_cases h2 : p < (k + m) * cs.length
                · rw [List.append_assoc, List.getElem?_append_right (by omega), htl, List.getElem?_append_left (by rw [pat_len]; omega), pat_get cs m (p - k * cs.length) (by omega), hcp p hp]
                  congr 1
                  have e9 : p = (p - k * cs.length) + cs.length * k := by rw [Nat.mul_comm cs.length k]; omega
                  conv => rhs; rw [e9]
                  rw [Nat.add_mul_mod_self_left]
                · rw [List.append_assoc, List.getElem?_append_right (by omega), htl, List.getElem?_append_right (by rw [pat_len]; omega), pat_len, List.getElem?_drop]
                  congr 1
                  omega
            · rw [List.getElem?_eq_none (by rw [List.length_take]; omega), List.getElem?_eq_none (by rw [List.length_take]; omega)]
        · have holds : ∀ j u, (pat cs k)[j]? = some u → w.cell? ((⟨g, 0, none⟩ : Addr).add j) = some u := World.ownsRow.cells h (g := g) rfl
          have hr2 := run_append_grow (P := P) w t ty e i0 _ ht hi hz0 ⟨g, 0, none⟩ k cap (pat cs k) (by rw [hz1, pat_len]) holds ⟨gx, 0, none⟩ m cx (pat cs m) (by rw [hz1, pat_len]) hnews (by omega) (by omega) (growslice_fits (by omega) (by rw [hz2]; exact hmax))
          rw [hr2] at hr
          injection hr with e1 e2
          subst e1 e2
          refine ⟨hu.1, .inr ⟨g, cap, cur, rfl, hbg, ?_, hnc, hcm, hcs1, htk⟩⟩
          rw [← hg]
          exact (Below.refl w.drew.heap.size w.drew).alloc (Nat.le_refl _) _ |>.block g (Array.getElem?_eq_some_iff.1 hg).1
  · exact row_other hu h3 fun g hg e => hub (hg.trans e.symm)
theorem wpList_append_mk {P : Program} (w : World) {ops : Array Oper} {rest : List Oper} {o : Oper} {a : Act} {Q : Exit → Act → World → Prop} (hgd : o.guard = none) (s x : Operand) (e t : TypeId)
    (ho : o.op = .call { callee := .builtin .append, args := #[s, x], argTypes := #[t, t] })
    (B : Nat) (cs : List Value) (z : Value) (by_ : Nat) (hcs : 0 < cs.length) (hone : ∀ u ∈ cs, u.oneCell' = true) (hinfo : (P.info? e).map (fun i => (i.zero, i.size, i.bytes)) = some (some z, cs.length, by_)) (hz : z.cells.size = cs.length) (ht : P.underlying t = some (.slice e))
    (v : Value) (k m : Nat) (hv : a.eval s = v) (h : Mk e cs B w v k) (gx cx : Nat) (hxe : a.eval x = .slice (some ⟨gx, 0, none⟩) m cx) (hx : ∀ (j : Nat) (u : Value), (pat cs m)[j]? = some u → w.cell? ⟨gx, j, none⟩ = some u) (hmx : k + m ≤ 100000000) (hmax : (k + m) * by_ ≤ 140737488355328) (hB : B ≤ w.heap.size)
    (hK : ∀ v' w', Mk e cs B w' v' (k + m) → w.grownBy w' v.ownBlock → (v'.ownBlock = v.ownBlock ∨ v'.ownBlock = some w.heap.size) → (∀ (u : Value) (k' : Nat), Mk e cs B w u k' → Mk e cs B w' u k') → wpList P ops Q rest (a.put o.dst v') w') : wpList P ops Q (o :: rest) a w := by
  obtain ⟨v', w', hr, h1, h2, h3, h4⟩ := append_mk (P := P) w B e t o.type cs z by_ hcs hone hinfo hz ht v k m h gx cx hx hmx hmax hB
  refine wpList_plain hgd fun _ hK' => ?_
  unfold Oper.wp
  simp [execOp, ho, resolve, invoke, builtin, hv, hxe, hr, Result.andThen]
  exact hK' _ _ (hK v' w' h1 h2 h3 h4)
end Mg
end Go.Proofs.YtppabcihbpbfpaaGreatDoor

/-
  Package disk: a map of names in memory; a disk in memory.
-/
namespace Go.Proofs.YtppabcihbpbfpaaGreatDoor
open Go Go.RowKit Go.ChangeShapes
open Wb

/-- every block stays but those of F -/
structure IFr (w w' : World) (F : Nat → Prop) : Prop where
  os : w'.os = w.os
  tape : w'.tape = w.tape
  output : w'.output = w.output
  size : w.heap.size ≤ w'.heap.size
  block : ∀ k, k < w.heap.size → ¬ F k → w'.heap[k]? = w.heap[k]?
theorem IFr.trans {w w1 w2 : World} {F F2 : Nat → Prop} (h : IFr w w1 F) (h2 : IFr w1 w2 F2) (hF : ∀ k, k < w.heap.size → F2 k → F k) : IFr w w2 F :=
  ⟨h2.os.trans h.os, h2.tape.trans h.tape, h2.output.trans h.output, Nat.le_trans h.size h2.size, fun k hk hn => (h2.block k (Nat.lt_of_lt_of_le hk h.size) fun e => hn (hF k hk e)).trans (h.block k hk hn)⟩
theorem IFr.of {w w' : World} {F : Nat → Prop} {b : Option Nat} (h : w.grownBy w' b) (hb : ∀ k, k < w.heap.size → b = some k → F k) : IFr w w' F :=
  ⟨h.os, h.tape, h.output, h.size, fun k hk hn => h.block k hk fun e => hn (hb k hk e.symm)⟩
theorem IFr.refl (w : World) (F : Nat → Prop) : IFr w w F := ⟨rfl, rfl, rfl, Nat.le_refl _, fun _ _ _ => rfl⟩
theorem IFr.below {w w' : World} {F : Nat → Prop} (h : IFr w w' F) (B : Nat) (hB : B ≤ w.heap.size) (hF : ∀ k, F k → B ≤ k) : Below B w w' :=
  ⟨h.os, h.tape, h.output, h.size, fun k hk => h.block k (Nat.lt_of_lt_of_le hk hB) fun e => by have := hF k e; omega⟩
theorem IFr.mono {w w' : World} {F F2 : Nat → Prop} (h : IFr w w' F) (hF : ∀ k, F k → F2 k) : IFr w w' F2 := ⟨h.os, h.tape, h.output, h.size, fun k hk hn => h.block k hk fun e => hn (hF k e)⟩
theorem IFr.kept {w w' : World} {F : Nat → Prop} (h : Below w.heap.size w w') : IFr w w' F := ⟨h.os, h.tape, h.output, h.size, fun k hk _ => h.block k hk⟩
theorem grown_none {w w' : World} (h : Below w.heap.size w w') (row : Option Nat) : w.grownBy w' row := ⟨h.os, h.tape, h.output, h.size, fun k hk _ => h.block k hk⟩

/-- a pointer to a file -/
def fp (f : Nat) : Value := .pointer (some ⟨f, 0, none⟩)
/-- what a pointer to a file reads as -/
def fpR : Value → Option (DataW Unit × List MemPlace)
  | .pointer none => some (.nil, [])
  | .pointer (some ⟨b, 0, none⟩) => some (.lit (.int .i64 (b : Int)), [])
  | _ => none
theorem fpR_fp (f : Nat) : fpR (fp f) = some (.lit (.int .i64 (f : Int)), []) := rfl
theorem fpR_inv {v : Value} {f : Nat} {ps : List MemPlace} (h : fpR v = some (.lit (.int .i64 (f : Int)), ps)) : v = fp f := by
  unfold fpR at h
  split at h
  · simp at h
  · rename_i b
    simp at h
    have e : b = f := by omega
    rw [e]
    rfl
  · cases h
theorem fpR_nil {v : Value} {ps : List MemPlace} (h : fpR v = some (.nil, ps)) : v = .pointer none := by
  unfold fpR at h
  split at h
  · rfl
  · simp at h
  · cases h
/-- what a name's pointer is -/
def fpo : Option Nat → Value
  | none => .pointer none
  | some f => fp f
theorem lawS : Maps.Keyed Tryz.prog 9 := Maps.string_keyed Tryz.underlying9
theorem keyS {s : ByteArray} (h : s.size ≤ maxLen) : keyOf Tryz.prog 9 (.string s) = some (.string s.data.toList) := WideMaps.keyOf_string_mk Tryz.underlying9 h
theorem zeroF (w : World) : (zeroValue 72).run Tryz.prog w = .ok (.pointer none) w := by kernel_rfl
theorem tight {H : Type} {P : Program} {k : TypeId} {R : Value → Option (DataW H × List MemPlace)} {w : World} {b n : Nat} {D : DataW H} (h : w.ownsMap P k R b n D) : w.ownsMap P k R b (Maps.size D) D := by
  obtain ⟨es, clock, hb, F, hs, rfl⟩ := h
  exact ⟨es, clock, hb, F, by rw [Maps.size_eq, length_read]; exact Nat.le_refl _, rfl⟩
/-- a map of names, or nil -/
def MpA (w : World) (m : Option Nat) (l : Dk.Nm) : Prop := Dk.rising l ∧ ((m = none ∧ l = []) ∨ ∃ b, m = some b ∧ w.ownsMap Tryz.prog 9 fpR b l.length (Dk.dm l))
section
variable {w w' : World} {m : Option Nat} {l : Dk.Nm}
theorem MpA.own (hr : Dk.rising l) {b n : Nat} (h : w.ownsMap Tryz.prog 9 fpR b n (Dk.dm l)) : MpA w (some b) l := ⟨hr, .inr ⟨b, rfl, by have h9 := tight h; rw [Dk.dm_size] at h9; exact h9⟩⟩
theorem MpA.blk (h : MpA w m l) (hb : ∀ b, m = some b → w'.heap[b]? = w.heap[b]?) : MpA w' m l := by
  refine ⟨h.1, ?_⟩
  rcases h.2 with h1 | ⟨b, e, es, clock, h2, h3⟩
  · exact .inl h1
  · exact .inr ⟨b, e, es, clock, (hb b e).trans h2, h3⟩
theorem MpA.lt (h : MpA w m l) (b : Nat) (e : m = some b) : b < w.heap.size := by
  rcases h.2 with ⟨h1, -⟩ | ⟨b', e', h2⟩
  · rw [h1] at e
    cases e
  · rw [e'] at e
    obtain rfl := Option.some.inj e
    exact h2.lt
theorem MpA.obj (h : MpA w m l) (b : Nat) (e : m = some b) : ∃ es clock, w.heap[b]? = some (.map es clock) := by
  rcases h.2 with ⟨h1, -⟩ | ⟨b', e', es, clock, h2, -⟩
  · rw [h1] at e
    cases e
  · rw [e'] at e
    obtain rfl := Option.some.inj e
    exact ⟨es, clock, h2⟩
theorem MpA.kept (h : MpA w m l) (hb : Below w.heap.size w w') : MpA w' m l := h.blk fun b e => hb.block b (h.lt b e)
/-- what stands at a name -/
theorem MpA.look (h : MpA w m l) (s : ByteArray) (hs : s.size ≤ maxLen) : (Instr.lookup 62 (.map m) (.string s) false).run Tryz.prog w = .ok (fpo (Dk.get l s.data.toList)) w := by
  rcases h.2 with ⟨rfl, rfl⟩ | ⟨b, rfl, h2⟩
  · exact Maps.look_nil (k := 9) (e := 72) false lawS Tryz.underlying62 (zeroF w) (keyS hs)
  · obtain ⟨v, ps, hrun, hR⟩ := h2.lookup lawS Tryz.underlying62 (zeroF w) (show fpR (.pointer none) = some (.nil, []) from rfl) (keyS hs)
    rw [hrun]
    rw [Dk.dm_at] at hR
    cases hg : Dk.get l s.data.toList with
    | none =>
      rw [hg] at hR
      rw [fpR_nil hR]
      rfl
    | some f =>
      rw [hg] at hR
      rw [fpR_inv hR]
      rfl
/-- a name is given -/
theorem MpA.put {b : Nat} (h : MpA w (some b) l) (s : ByteArray) (hs : s.size ≤ maxLen) (f : Nat) (hn : l.length < maxLen) : ∃ w', (Instr.mapUpdate 62 (.map (some b)) (.string s) (fp f)).run Tryz.prog w = .ok () w' ∧ MpA w' (some b) (Dk.put l s.data.toList f) ∧ w.grownBy w' (some b) := by
  rcases h.2 with ⟨e, -⟩ | ⟨b', e, h2⟩
  · cases e
  · obtain rfl := Option.some.inj e
    obtain ⟨w', hrun, h3, h4⟩ := h2.store lawS Tryz.underlying62 hn (keyS hs) (fpR_fp f)
    rw [Dk.dm_put] at h3
    exact ⟨w', hrun, MpA.own (Dk.rising_put h.1 _ _) h3, h4.grown⟩
/-- a name is taken away -/
theorem MpA.del (h : MpA w m l) (s : ByteArray) (hs : s.size ≤ maxLen) (ty : TypeId) : ∃ w', (Builtin.delete_ #[62, 9] ty #[.map m, .string s]).run Tryz.prog w = .ok (.tuple #[]) w' ∧ MpA w' m (Dk.del l s.data.toList) ∧ w.grownBy w' m := by
  rcases h.2 with ⟨rfl, rfl⟩ | ⟨b, rfl, h2⟩
  · exact ⟨w, Maps.drop_nil (k := 9) (e := 72) lawS Tryz.underlying62 (keyS hs) ty, ⟨List.Pairwise.nil, .inl ⟨rfl, rfl⟩⟩, ⟨rfl, rfl, rfl, Nat.le_refl _, fun _ _ _ => rfl⟩⟩
  · obtain ⟨w', hrun, h3, h4⟩ := h2.drop lawS Tryz.underlying62 (keyS hs) ty
    rw [Dk.dm_del] at h3
    exact ⟨w', hrun, MpA.own (Dk.rising_del h.1 _) h3, h4.grown⟩
end
namespace Dk
/-- a file: its bytes, how many are synced -/
structure Fl where
  data : List Nat
  syn : Nat
/-- a name change -/
structure Ch where
  frm : List UInt8
  tow : List UInt8
  f : Option Nat
/-- what stands on a disk -/
structure DS where
  quota : Int
  taken : Int
  nm : Nm
  la : Nm
  ch : List Ch
  armed : Bool
  left : Int
  down : Bool
  ids : List Nat
  fo : Nat → Fl
/-- the names behind a change -/
def Ch.app (c : Ch) (l : Nm) : Nm := if c.tow = [] then del l c.frm else put (del l c.frm) c.tow (c.f.getD 0)
end Dk
def enS (l : List UInt8) : Value := .string ⟨l.toArray⟩
def enC (c : Dk.Ch) : List Value := [enS c.frm, enS c.tow, fpo c.f]
/-- where a disk's parts lie -/
structure Mm where
  mn : Option Nat
  ml : Option Nat
  vc : Value
  dv : Nat → Value
def dkc (S : Dk.DS) (M : Mm) : List Value := [.int .i64 S.quota, .int .i64 S.taken, .map M.mn, .map M.ml, M.vc, .bool S.armed, .int .i64 S.left, .bool S.down]
/-- a disk in memory -/
structure DM (B : Nat) (w : World) (g : Nat) (S : Dk.DS) (M : Mm) : Prop where
  box : LB w g 65 (dkc S M)
  nm : MpA w M.mn S.nm
  la : MpA w M.ml S.la
  ch : w.ownsRow B 86 3 M.vc S.ch.length (S.ch.flatMap enC)
  fb : ∀ f ∈ S.ids, LB w f 75 [M.dv f, .int .i64 ((S.fo f).syn : Int)]
  fd : ∀ f ∈ S.ids, Own B w (M.dv f) (S.fo f).data
  ap : ∀ f ∈ S.ids, ∀ f' ∈ S.ids, f ≠ f' → ∀ q, (M.dv f).ownBlock = some q → (M.dv f').ownBlock ≠ some q
  ne : ∀ b, M.mn = some b → M.ml ≠ some b
  gB : B ≤ g
  mB : ∀ b, M.mn = some b ∨ M.ml = some b → B ≤ b
  fB : ∀ f ∈ S.ids, B ≤ f
/-- the blocks of a disk -/
def Ft (g : Nat) (S : Dk.DS) (M : Mm) (q : Nat) : Prop := q = g ∨ M.mn = some q ∨ M.ml = some q ∨ M.vc.ownBlock = some q ∨ ∃ f ∈ S.ids, q = f ∨ (M.dv f).ownBlock = some q
section
variable {B : Nat} {w w' : World} {g : Nat} {S : Dk.DS} {M : Mm}
theorem DM.ft (h : DM B w g S M) {q : Nat} (hq : Ft g S M q) : B ≤ q ∧ q < w.heap.size := by
  rcases hq with rfl | e | e | e | ⟨f, hf, rfl | e⟩
  · exact ⟨h.gB, h.box.lt⟩
  · exact ⟨h.mB q (.inl e), h.nm.lt q e⟩
  · exact ⟨h.mB q (.inr e), h.la.lt q e⟩
  · exact World.ownsRow.lt h.ch q e
  · exact ⟨h.fB q hf, (h.fb q hf).lt⟩
  · exact World.ownsRow.lt (h.fd f hf).1 q e
/-- none of its blocks changes -/
theorem DM.blk (h : DM B w g S M) (hb : ∀ q, Ft g S M q → w'.heap[q]? = w.heap[q]?) : DM B w' g S M :=
  ⟨(hb g (.inl rfl)).trans h.box, h.nm.blk fun b e => hb b (.inr (.inl e)), h.la.blk fun b e => hb b (.inr (.inr (.inl e))), Mg.row_block h.ch fun q e => hb q (.inr (.inr (.inr (.inl e)))), fun f hf => (hb f (.inr (.inr (.inr (.inr ⟨f, hf, .inl rfl⟩))))).trans (h.fb f hf), fun f hf => ⟨Mg.row_block (h.fd f hf).1 fun q e => hb q (.inr (.inr (.inr (.inr ⟨f, hf, .inr e⟩)))), (h.fd f hf).2⟩, h.ap, h.ne, h.gB, h.mB, h.fB⟩
theorem DM.kept (h : DM B w g S M) (hb : Below w.heap.size w w') : DM B w' g S M := h.blk fun q hq => hb.block q (h.ft hq).2
end
end Go.Proofs.YtppabcihbpbfpaaGreatDoor
