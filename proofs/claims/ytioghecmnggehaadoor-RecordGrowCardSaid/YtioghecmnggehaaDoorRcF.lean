/-
  Package record: read.
-/
import Derived.Test.YtioghecmnggehaaDoorRcE
namespace Go.Proofs.YtioghecmnggehaaDoor
open Go Go.RowKit
open Wb

/-- the number of a tag is set -/
def Nums.put (x : Nums) (t : Nat) (z : Int) : Nums := if t = 1 then { x with k := z } else if t = 2 then { x with s := z } else if t = 3 then { x with p := z } else if t = 4 then { x with t := z } else if t = 5 then { x with a := z } else if t = 6 then { x with l := z } else if t = 7 then { x with c := z } else if t = 8 then { x with n := z } else { x with i := z }
structure Pts where
  x : Nums
  nm : List Nat
  l : List Nat
/-- read's answer: where it ends, its error, the parts -/
def rdp (b : List Nat) (p : Int) (t : Nat) (q : Pts) : Int × Nat × Pts :=
  if t = 7 then ((ri b p).2.1, (ri b p).2.2, { q with x := q.x.put 7 (ri b p).1 })
  else if t = 10 then ((rb b p 192).2.1, (rb b p 192).2.2, { q with nm := (rb b p 192).1 })
  else if t = 11 then ((rb b p 16384).2.1, (rb b p 16384).2.2, { q with l := (rb b p 16384).1 })
  else ((rn b p).2.1, (rn b p).2.2, { q with x := q.x.put t (rn b p).1 })
theorem PBox.put {w : World} {g : Nat} {x : Nums} {nm : ByteArray} {d : Value} (h : PBox w g x nm d) (t : Nat) (h1 : 1 ≤ t) (h9 : t ≤ 9) (z : Int) : PBox (w.setCell ⟨g, t, none⟩ (.int .i64 z)) g (x.put t z) nm d := by
  unfold PBox at *
  obtain rfl | rfl | rfl | rfl | rfl | rfl | rfl | rfl | rfl : t = 1 ∨ t = 2 ∨ t = 3 ∨ t = 4 ∨ t = 5 ∨ t = 6 ∨ t = 7 ∨ t = 8 ∨ t = 9 := by omega
  all_goals simp [World.setCell, Array.getElem?_modify, h, Nums.put]
theorem PBox.name {w : World} {g : Nat} {x : Nums} {nm : ByteArray} {d : Value} (h : PBox w g x nm d) (nm' : ByteArray) : PBox (w.setCell ⟨g, 10, none⟩ (.string nm')) g x nm' d := by
  unfold PBox at *
  simp [World.setCell, Array.getElem?_modify, h]
theorem PBox.data {w : World} {g : Nat} {x : Nums} {nm : ByteArray} {d : Value} (h : PBox w g x nm d) (d' : Value) : PBox (w.setCell ⟨g, 11, none⟩ d') g x nm d' := by
  unfold PBox at *
  simp [World.setCell, Array.getElem?_modify, h]
theorem PBox.free {w : World} {g : Nat} {x : Nums} {nm : ByteArray} {d : Value} (h : PBox w g x nm d) (j : Nat) : w.frozen? ⟨g, j, none⟩ = false := by
  unfold PBox at h
  simp [World.frozen?, h]
/-- parts in a block, their data in a row of its own behind it -/
def Pl (w : World) (g : Nat) (q : Pts) : Prop := ∃ ao cap, PBox w g q.x (bstr q.nm) (.slice ao q.l.length cap) ∧ Own (g + 1) w (.slice ao q.l.length cap) q.l
theorem Pl.drewP {w : World} {g : Nat} {q : Pts} (h : Pl w g q) : Pl w.drew g q := by
  obtain ⟨ao, cap, h1, h2⟩ := h
  exact ⟨ao, cap, h1, h2.kept (Below.drew (Below.refl _ _))⟩
end Go.Proofs.YtioghecmnggehaaDoor
