import Derived.Maps.AppendAt
import Derived.Test.YtabdfafffjgfiaaGreatDoorADJ
namespace Go.Proofs.YtabdfafffjgfiaaGreatDoor
open Go Go.RowKit
open Wb

def tlK (k : Nat) : List Nat := (List.range k).map fun i => 201 + i % 5
def roomL (l : List Nat) : List Nat := l ++ tlK 75
theorem tlK_len (k : Nat) : (tlK k).length = k := by simp [tlK]
theorem cut_bs {B : Nat} {w : World} {a : Option Addr} {n c : Nat} {l : List Nat} (h : Own B w (.slice a n c) (roomL l)) : Bs w (.slice a l.length c) l := by
 have hl : (roomL l).length = l.length + 75 := by unfold roomL; rw [List.length_append, tlK_len]
 have hok : ok l := fun x hx => h.good x (List.mem_append_left _ hx)
 obtain ⟨a', c', e, h1, h2, h3, h4⟩ := h.bs.shape
 simp only [Value.slice.injEq] at e
 obtain ⟨rfl, _, rfl⟩ := e
 refine ⟨⟨a, c, rfl, by omega, h2, h3, fun hne => ?_⟩, hok⟩
 obtain ⟨b, off, e, hc⟩ := h4 (by intro e; have := congrArg List.length e; rw [hl] at this; simp at this)
 refine ⟨b, off, e, fun j hj => ?_⟩
 rw [hc j (by omega)]
 congr 2
 unfold roomL
 rw [List.getElem_append_left hj]
structure Laid2 (B : Nat) (w : World) (vm vw : Value) (ms ds : List Value) (ls : List (List Nat)) : Prop where
 m : Row B w vm ms
 d : Row B w vw ds
 ap : ∀ g, vm.ownBlock = some g → vw.ownBlock ≠ some g
 ml : ms.length = ls.length
 dl : ds.length = ls.length
 each : ∀ j (h : j < ls.length), ∃ a n c, ds[j]? = some (.slice a n c) ∧ ms[j]? = some (.slice a ls[j].length c) ∧ Own B w (.slice a n c) (roomL ls[j])
theorem Laid2.kept {B : Nat} {w w' : World} {vm vw : Value} {ms ds : List Value} {ls : List (List Nat)} (h : Laid2 B w vm vw ms ds ls) (hb : Below w.heap.size w w') : Laid2 B w' vm vw ms ds ls := ⟨h.m.kept hb, h.d.kept hb, h.ap, h.ml, h.dl, fun j hj => by
 obtain ⟨a, n, c, h1, h2, h3⟩ := h.each j hj
 exact ⟨a, n, c, h1, h2, h3.kept hb⟩⟩
theorem row_ps {B : Nat} {w : World} {v : Value} {vs : List Value} {ls : List (List Nat)} (h1 : Row B w v vs) (h2 : vs.length = ls.length) (h3 : ∀ j (hj : j < ls.length), Bs w (vs[j]'(by rw [h2]; exact hj)) ls[j]) : Ps w v ls := by
 rcases h1.shape with ⟨rfl, rfl⟩ | ⟨g, cap, rfl, hl, hm, hc⟩
 ·have : ls = [] := List.eq_nil_of_length_eq_zero (by simpa using h2.symm)
  subst this
  exact ⟨none, 0, rfl, by simp [maxLen], fun e => absurd rfl e⟩
 ·refine ⟨some ⟨g, 0, none⟩, cap, by rw [h2], by omega, fun _ => ⟨g, 0, rfl, fun j hj => ⟨vs[j]'(by omega), ?_, h3 j hj⟩⟩⟩
  rw [Nat.zero_add]
  exact hc j (by omega)
def mark206 : List (List Nat) := List.replicate 20 [206]
def Laid3 (B : Nat) (w : World) (vm vw : Value) (ms ds es : List Value) (ls : List (List Nat)) : Prop := Row B w vm (ms ++ es) ∧ Row B w vw ds ∧ (∀ g, vm.ownBlock = some g → vw.ownBlock ≠ some g) ∧ ms.length = ls.length ∧ ds.length = ls.length ∧
 (∀ j (h : j < ls.length), ∃ a n c, ds[j]? = some (.slice a n c) ∧ ms[j]? = some (.slice a ls[j].length c) ∧ Own B w (.slice a n c) (roomL ls[j])) ∧ ∀ e ∈ es, Own B w e [206]
theorem Laid3.kept {B : Nat} {w w' : World} {vm vw : Value} {ms ds es : List Value} {ls : List (List Nat)} (h : Laid3 B w vm vw ms ds es ls) (hb : Below w.heap.size w w') : Laid3 B w' vm vw ms ds es ls := ⟨h.1.kept hb, h.2.1.kept hb, h.2.2.1, h.2.2.2.1, h.2.2.2.2.1, fun j hj => by
 obtain ⟨a, n, c, h1, h2, h3⟩ := h.2.2.2.2.2.1 j hj
 exact ⟨a, n, c, h1, h2, h3.kept hb⟩, fun e he => (h.2.2.2.2.2.2 e he).kept hb⟩
theorem Laid3.cut {B : Nat} {w : World} {vm vw : Value} {ms ds es : List Value} {ls : List (List Nat)} (h : Laid3 B w vm vw ms ds es ls) (he : es.length = 20) : Ps w vm (ls ++ mark206) := row_ps h.1 (by rw [List.length_append, List.length_append, h.2.2.2.1, he]; rfl) fun j hj => by
 by_cases hlt : j < ls.length
 ·obtain ⟨a, n, c, _, h2, h3⟩ := h.2.2.2.2.2.1 j hlt
  have e1 := (List.getElem?_eq_some_iff.1 h2).2
  rw [List.getElem_append_left (by rw [h.2.2.2.1]; exact hlt), List.getElem_append_left hlt, e1]
  exact cut_bs h3
 ·have hj2 : j - ls.length < es.length := by
   rw [he]
   have : j < ls.length + 20 := by
    have h9 := hj
    rw [List.length_append] at h9
    exact h9
   omega
  rw [List.getElem_append_right (by rw [h.2.2.2.1]; omega), List.getElem_append_right (by omega)]
  have h5 := (h.2.2.2.2.2.2 _ (List.getElem_mem (show j - ms.length < es.length by rw [h.2.2.2.1]; exact hj2))).bs
  have e6 : ∀ (i : Nat) (hi : i < mark206.length), mark206[i] = [206] := fun i hi => List.getElem_replicate _
  rw [e6]
  exact h5
end Go.Proofs.YtabdfafffjgfiaaGreatDoor
