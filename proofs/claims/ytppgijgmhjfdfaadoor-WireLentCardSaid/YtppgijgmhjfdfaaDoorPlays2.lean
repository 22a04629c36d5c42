/-
  Rows of byte strings of anyone's; the law package's 'laid'.
-/
import Derived.Test.YtppgijgmhjfdfaaDoorPlays1
namespace Go.Proofs.YtppgijgmhjfdfaaDoor
open Go Go.RowKit
open Wb

/-- A byte string that is empty, or lies in a block of bytes. -/
def Bk (w : World) (v : Value) (l : List Nat) : Prop := Bs w v l ∧ ∀ b off n cap, v = .slice (some ⟨b, off, none⟩) n cap → l ≠ [] → ∃ cs z, w.heap[b]? = some (.cells cs 5 z)
theorem Bk.grown {B : Nat} {w w' : World} {v x : Value} {vs : List Value} {l : List Nat} (hr : Row B w v vs) (hx : Bk w x l) (hg : w.grownBy w' v.ownBlock) : Bk w' x l := by
  obtain ⟨hb, ht⟩ := hx
  obtain ⟨ao, cap, rfl, hl, hm, hn, hc⟩ := hb.shape
  by_cases e : l = []
  · subst e
    exact ⟨⟨⟨ao, cap, rfl, hl, hm, hn, fun h => absurd rfl h⟩, ok_nil⟩, fun _ _ _ _ _ h => absurd rfl h⟩
  · obtain ⟨b, off, rfl, hcell⟩ := hc e
    have hlt : b < w.heap.size := World.block_lt_of_cell? _ _ (hcell 0 (List.length_pos_iff.2 e))
    have hty := ht b off _ _ rfl e
    have hne : some b ≠ v.ownBlock := by
      intro e2
      rcases hr.2 with ⟨rfl, _⟩ | ⟨g', cap', cur', rfl, hB, hg', _⟩
      · simp [Value.ownBlock] at e2
      · simp [Value.ownBlock] at e2
        subst e2
        obtain ⟨cs, z, h1⟩ := hty
        rw [h1] at hg'
        simp at hg'
    have hblk := hg.block b hlt hne
    refine ⟨⟨⟨_, cap, rfl, hl, hm, hn, fun _ => ⟨b, off, rfl, fun j hj => ?_⟩⟩, hb.good⟩, fun b' off' n' cap' e3 _ => ?_⟩
    · rw [World.cell?_of_block (w := w) (a := ⟨b, off + j, none⟩) hblk]
      exact hcell j hj
    · simp only [Value.slice.injEq, Option.some.injEq, Addr.mk.injEq] at e3
      obtain ⟨⟨rfl, _⟩, _⟩ := e3
      obtain ⟨cs, z, h1⟩ := hty
      exact ⟨cs, z, hblk.trans h1⟩
theorem Bk.kept {w w' : World} {v : Value} {l : List Nat} (h : Bk w v l) (hb : Below w.heap.size w w') : Bk w' v l := by
  refine ⟨h.1.kept hb, fun b off n cap e hne => ?_⟩
  obtain ⟨cs, z, h1⟩ := h.2 b off n cap e hne
  exact ⟨cs, z, (hb.block b (Array.getElem?_eq_some_iff.1 h1).1).trans h1⟩
theorem bk_nil {w : World} {v : Value} (h : Bs w v []) : Bk w v [] := ⟨h, fun _ _ _ _ _ hne => absurd rfl hne⟩
theorem own_typed {B : Nat} {w : World} {v : Value} {l : List Nat} (h : Own B w v l) (b off n cap : Nat) (e : v = .slice (some ⟨b, off, none⟩) n cap) : ∃ cs z, w.heap[b]? = some (.cells cs 5 z) := by
  rcases h.row.2 with ⟨rfl, h1⟩ | ⟨g, cap', cur, rfl, hb, hg, _⟩
  · simp at e
  · simp only [Value.slice.injEq, Option.some.injEq, Addr.mk.injEq] at e
    obtain ⟨⟨rfl, _⟩, _⟩ := e
    exact ⟨_, _, hg⟩
theorem own_bk {B : Nat} {w : World} {v : Value} {l : List Nat} (h : Own B w v l) : Bk w v l := ⟨h.bs, fun b off n cap e _ => own_typed h b off n cap e⟩
theorem own_subk {B : Nat} {w : World} {b off cap : Nat} {l : List Nat} (h : Own B w (.slice (some ⟨b, off, none⟩) l.length cap) l) (lo hi : Nat) (h1 : lo < hi) (h2 : hi ≤ l.length) :
    Bk w (.slice (some ⟨b, off + lo, none⟩) (hi - lo) (cap - lo)) ((l.take hi).drop lo) := by
  refine ⟨h.bs.sub lo hi h1 h2, fun b' off' n cap' e _ => ?_⟩
  simp only [Value.slice.injEq, Option.some.injEq, Addr.mk.injEq] at e
  obtain ⟨⟨rfl, _⟩, _⟩ := e
  exact own_typed h _ _ _ _ rfl

/-- a row of the call's own that holds byte strings of anyone's -/
def RowB (B : Nat) (w : World) (v : Value) (ls : List (List Nat)) : Prop := ∃ vs : List Value, Row B w v vs ∧ vs.length = ls.length ∧ ∀ j (h : j < vs.length) (h2 : j < ls.length), Bk w vs[j] ls[j]
theorem RowB.nil (B : Nat) (w : World) : RowB B w (.slice none 0 0) [] := ⟨[], Row.nil _ _, rfl, fun _ h => absurd h (Nat.not_lt_zero _)⟩
theorem RowB.kept {B : Nat} {w w' : World} {v : Value} {ls : List (List Nat)} (h : RowB B w v ls) (hb : Below w.heap.size w w') : RowB B w' v ls := by
  obtain ⟨vs, h1, h2, h3⟩ := h
  exact ⟨vs, h1.kept hb, h2, fun j a b => (h3 j a b).kept hb⟩
theorem RowB.push {B : Nat} {w w' : World} {v v' u : Value} {vs : List Value} {ls : List (List Nat)} {l : List Nat} (hr : Row B w v vs) (hl : vs.length = ls.length) (he : ∀ j (h : j < vs.length) (h2 : j < ls.length), Bk w vs[j] ls[j])
    (hu : Bk w u l) (hr' : Row B w' v' (vs ++ [u])) (hg : w.grownBy w' v.ownBlock) : RowB B w' v' (ls ++ [l]) := by
  refine ⟨vs ++ [u], hr', by simp [hl], fun j a b => ?_⟩
  by_cases hj : j < vs.length
  · rw [List.getElem_append_left hj, List.getElem_append_left (by omega)]
    exact Bk.grown hr (he j hj (by omega)) hg
  · have ej : j = vs.length := by simp at a; omega
    subst ej
    rw [List.getElem_append_right (Nat.le_refl _), List.getElem_append_right (by omega)]
    simp only [hl, Nat.sub_self, List.getElem_cons_zero]
    exact Bk.grown hr hu hg
theorem RowB.ps {B : Nat} {w : World} {v : Value} {ls : List (List Nat)} (h : RowB B w v ls) : Ps w v ls := by
  obtain ⟨vs, h1, h2, h3⟩ := h
  rcases h1.shape with ⟨rfl, rfl⟩ | ⟨g, cap, rfl, hl, hm, hc⟩
  · have : ls = [] := List.eq_nil_of_length_eq_zero (by simpa using h2.symm)
    subst this
    exact ⟨none, 0, rfl, by simp [maxLen], fun e => absurd rfl e⟩
  · refine ⟨some ⟨g, 0, none⟩, cap, by rw [h2], by omega, fun _ => ⟨g, 0, rfl, fun j hj => ⟨vs[j]'(by omega), ?_, (h3 j (by omega) hj).1⟩⟩⟩
    rw [Nat.zero_add]
    exact hc j (by omega)

/-- the array in which all parts lie -/
def lay (ls : List (List Nat)) : List Nat := (ls.map (· ++ pad 75)).flatten
theorem lay_append (a b : List (List Nat)) : lay (a ++ b) = lay a ++ lay b := by simp only [lay, List.map_append, List.flatten_append]
theorem lay_cons (x : List Nat) (b : List (List Nat)) : lay (x :: b) = (x ++ pad 75) ++ lay b := by simp only [lay, List.map_cons, List.flatten_cons]
theorem lay_snoc (ls : List (List Nat)) (k : Nat) (h : k < ls.length) : lay (ls.take (k + 1)) = lay (ls.take k) ++ (ls[k] ++ pad 75) := by
  rw [List.take_succ_eq_append_getElem h, lay_append, lay_cons, show lay [] = [] from rfl, List.append_nil]
theorem lay_len (ls : List (List Nat)) : (lay ls).length = ls.flatten.length + 75 * ls.length := by
  induction ls with
  | nil => rfl
  | cons a t ih =>
    have e : lay (a :: t) = (a ++ pad 75) ++ lay t := by simp [lay]
    rw [e, List.length_append, List.length_append, ih, pad_len, List.flatten_cons, List.length_append, List.length_cons]
    omega
theorem lay_seg (ls : List (List Nat)) (k : Nat) (h : k < ls.length) : ((lay ls).take ((lay (ls.take k)).length + ls[k].length)).drop (lay (ls.take k)).length = ls[k] := by
  have e : lay ls = lay (ls.take k) ++ (ls[k] ++ (pad 75 ++ lay (ls.drop (k + 1)))) := by
    have h1 : ls = ls.take k ++ ls[k] :: ls.drop (k + 1) := by
      rw [← List.drop_eq_getElem_cons h, List.take_append_drop]
    have h2 : lay ls = lay (ls.take k ++ ls[k] :: ls.drop (k + 1)) := congrArg lay h1
    rw [h2, lay_append, lay_cons, List.append_assoc]
  rw [e]
  generalize lay (ls.take k) = m
  generalize ls[k] = x
  rw [List.take_append, List.drop_append]
  simp
theorem lay_le (ls : List (List Nat)) (k : Nat) (h : k < ls.length) : (lay (ls.take k)).length + ls[k].length + 75 ≤ (lay ls).length := by
  have h1 := congrArg List.length (lay_snoc ls k h)
  have h2 := lay_len (ls.take (k + 1))
  have h3 := lay_len ls
  have h4 := fl_le ls (k + 1)
  rw [List.length_append, List.length_append, pad_len] at h1
  rw [List.length_take] at h2
  omega

end Go.Proofs.YtppgijgmhjfdfaaDoor
