import Derived.Test.YtdnackjakfiffaaGreatDoorQR1
/-
  Package record: readTag, readNumber.
-/
namespace Go.Proofs.YtdnackjakfiffaaGreatDoor
open Go Go.RowKit
open Wb

theorem set_other (w : World) (p : Addr) (u : Value) (g : Nat) (h : g ≠ p.block) : (w.setCell p u).heap[g]? = w.heap[g]? := by
  simp only [World.setCell, Array.getElem?_modify]
  rw [if_neg (Ne.symm h)]
theorem Own.set {B : Nat} {w : World} {v : Value} {l : List Nat} (h : Own B w v l) (p : Addr) (u : Value) (hp : p.block < B) : Own B (w.setCell p u) v l := by
  refine ⟨⟨h.row.1, ?_⟩, h.good⟩
  rcases h.row.2 with h1 | ⟨g, cap, cur, rfl, h1, hg, rest⟩
  · exact .inl h1
  · exact .inr ⟨g, cap, cur, rfl, h1, (set_other w p u g (by omega)).trans hg, rest⟩

def rn (b : List Nat) (p : Int) : Int × Int × Nat := if (Wn.ru b p).2.2 ≠ 0 then (0, 0, (Wn.ru b p).2.2) else if 9223372036854775807 < (Wn.ru b p).1 then (0, 0, 34) else (((Wn.ru b p).1 : Int), (Wn.ru b p).2.1, 0)
def rt (b : List Nat) (p : Int) (last : Nat) : Nat × Int × Nat := if (Wn.ru b p).2.2 ≠ 0 then (0, 0, (Wn.ru b p).2.2) else if (Wn.ru b p).1 ≤ last ∨ 11 < (Wn.ru b p).1 then (0, 0, 37) else ((Wn.ru b p).1, (Wn.ru b p).2.1, 0)
end Go.Proofs.YtdnackjakfiffaaGreatDoor

/-
  Package record: read.
-/
namespace Go.Proofs.YtdnackjakfiffaaGreatDoor
open Go Go.RowKit
open Wb

/-- the number of a tag is set -/
def Nums.put (x : Nums) (t : Nat) (z : Int) : Nums := if t = 1 then { x with k := z } else if t = 2 then { x with s := z } else if t = 3 then { x with p := z } else if t = 4 then { x with t := z } else if t = 5 then { x with a := z } else if t = 6 then { x with l := z } else if t = 7 then { x with c := z } else if t = 8 then { x with n := z } else { x with i := z }
structure Pts where
  x : Nums
  nm : List Nat
  l : List Nat
/-- read's answer: where it ends, its error, the parts -/
def rdp (b : List Nat) (p : Int) (t : Nat) (q : Pts) : Int × Nat × Pts :=
  if t = 7 then ((ri b p).2.1, (ri b p).2.2, { q with x := q.x.put 7 (ri b p).1 })
  else if t = 10 then ((rb b p 192).2.1, (rb b p 192).2.2, { q with nm := (rb b p 192).1 })
  else if t = 11 then ((rb b p 16384).2.1, (rb b p 16384).2.2, { q with l := (rb b p 16384).1 })
  else ((rn b p).2.1, (rn b p).2.2, { q with x := q.x.put t (rn b p).1 })
theorem PBox.put {w : World} {g : Nat} {x : Nums} {nm : ByteArray} {d : Value} (h : PBox w g x nm d) (t : Nat) (h1 : 1 ≤ t) (h9 : t ≤ 9) (z : Int) : PBox (w.setCell ⟨g, t, none⟩ (.int .i64 z)) g (x.put t z) nm d := by
  unfold PBox at *
  obtain rfl | rfl | rfl | rfl | rfl | rfl | rfl | rfl | rfl : t = 1 ∨ t = 2 ∨ t = 3 ∨ t = 4 ∨ t = 5 ∨ t = 6 ∨ t = 7 ∨ t = 8 ∨ t = 9 := by omega
  all_goals simp [World.setCell, Array.getElem?_modify, h, Nums.put]
theorem PBox.name {w : World} {g : Nat} {x : Nums} {nm : ByteArray} {d : Value} (h : PBox w g x nm d) (nm' : ByteArray) : PBox (w.setCell ⟨g, 10, none⟩ (.string nm')) g x nm' d := by
  unfold PBox at *
  simp [World.setCell, Array.getElem?_modify, h]
theorem PBox.data {w : World} {g : Nat} {x : Nums} {nm : ByteArray} {d : Value} (h : PBox w g x nm d) (d' : Value) : PBox (w.setCell ⟨g, 11, none⟩ d') g x nm d' := by
  unfold PBox at *
  simp [World.setCell, Array.getElem?_modify, h]
theorem PBox.free {w : World} {g : Nat} {x : Nums} {nm : ByteArray} {d : Value} (h : PBox w g x nm d) (j : Nat) : w.frozen? ⟨g, j, none⟩ = false := by
  unfold PBox at h
  simp [World.frozen?, h]
/-- parts in a block, their data in a row of its own behind it -/
def Pl (w : World) (g : Nat) (q : Pts) : Prop := ∃ ao cap, PBox w g q.x (bstr q.nm) (.slice ao q.l.length cap) ∧ Own (g + 1) w (.slice ao q.l.length cap) q.l
theorem Pl.drewP {w : World} {g : Nat} {q : Pts} (h : Pl w g q) : Pl w.drew g q := by
  obtain ⟨ao, cap, h1, h2⟩ := h
  exact ⟨ao, cap, h1, h2.kept (Below.drew (Below.refl _ _))⟩
end Go.Proofs.YtdnackjakfiffaaGreatDoor

/-
  Package record: read.
-/
namespace Go.Proofs.YtdnackjakfiffaaGreatDoor
open Go Go.RowKit
open Wb

end Go.Proofs.YtdnackjakfiffaaGreatDoor

/-
  Package record: read, all tags.
-/
namespace Go.Proofs.YtdnackjakfiffaaGreatDoor
open Go Go.RowKit
open Wb

end Go.Proofs.YtdnackjakfiffaaGreatDoor

/-
  Package record: joined, readParts.
-/
namespace Go.Proofs.YtdnackjakfiffaaGreatDoor
open Go Go.RowKit
open Wb

def Nums.ofV (x : Nums) (v : Int) : Nums := { x with v := v }
def zeroNums : Nums := ⟨0, 0, 0, 0, 0, 0, 0, 0, 0, 0⟩
def zeroPts : Pts := ⟨zeroNums, [], []⟩
theorem bstr_nil : bstr [] = ⟨#[]⟩ := rfl
/-- readParts' answer from a place on; n: how many fields may still come -/
def rpF (b : List Nat) : Nat → Int → Nat → Pts → Nat × Pts
  | 0, _, _, q => (0, q)
  | n + 1, at', last, q =>
    if at' < (b.length : Int) then
      (if (rt b at' last).2.2 ≠ 0 then ((rt b at' last).2.2, zeroPts)
       else if (rdp b (rt b at' last).2.1 (rt b at' last).1 q).2.1 ≠ 0 then ((rdp b (rt b at' last).2.1 (rt b at' last).1 q).2.1, zeroPts)
       else if zeroT (rdp b (rt b at' last).2.1 (rt b at' last).1 q).2.2.x (bstr (rdp b (rt b at' last).2.1 (rt b at' last).1 q).2.2.nm) (rdp b (rt b at' last).2.1 (rt b at' last).1 q).2.2.l.length (rt b at' last).1 then (38, zeroPts)
       else rpF b n (rdp b (rt b at' last).2.1 (rt b at' last).1 q).1 (rt b at' last).1 (rdp b (rt b at' last).2.1 (rt b at' last).1 q).2.2)
    else (0, q)
theorem rt_ok (b : List Nat) (p : Int) (last : Nat) (h : (rt b p last).2.2 = 0) : last < (rt b p last).1 ∧ (rt b p last).1 ≤ 11 := by
  unfold rt at h ⊢
  split
  · rename_i h1; rw [if_pos h1] at h; exact absurd h h1
  · rename_i h1
    rw [if_neg h1] at h
    split
    · rename_i h2; rw [if_pos h2] at h; simp at h
    · rename_i h2; simp only; omega
/-- what is read is short -/
def Pts.fits (q : Pts) : Prop := q.nm.length ≤ 192 ∧ q.l.length ≤ 16384
theorem rb_short (b : List Nat) (p m : Int) (hm : 0 ≤ m) : ((rb b p m).1.length : Int) ≤ m := by
  unfold rb
  rw [if_neg (by omega)]
  by_cases h1 : (Wn.ru b p).2.2 ≠ 0
  · rw [if_pos h1]; simpa using hm
  · rw [if_neg h1]
    by_cases h2 : m < ((Wn.ru b p).1 : Int)
    · rw [if_pos h2]; simpa using hm
    · rw [if_neg h2]
      split
      · simpa using hm
      · simp only [List.length_drop, List.length_take]
        omega
theorem rdp_fits (b : List Nat) (p : Int) (t : Nat) (q : Pts) (h : q.fits) : (rdp b p t q).2.2.fits := by
  unfold rdp
  split
  · exact h
  · split
    · have := rb_short b p 192 (by decide)
      exact ⟨by show (rb b p 192).1.length ≤ 192; omega, h.2⟩
    · split
      · have := rb_short b p 16384 (by decide)
        exact ⟨h.1, by show (rb b p 16384).1.length ≤ 16384; omega⟩
      · exact h
theorem PBox.there {w : World} {g : Nat} {x : Nums} {nm : ByteArray} {d : Value} (h : PBox w g x nm d) : w.there g 0 12 := by
  intro j hj
  rw [Nat.zero_add]
  obtain ⟨c0, c1, c2, c3, c4, c5, c6, c7, c8, c9, c10, c11⟩ := h.cells
  match j, hj with
  | 0, _ => exact ⟨by rw [c0]; rfl, h.free 0⟩
  | 1, _ => exact ⟨by rw [c1]; rfl, h.free 1⟩
  | 2, _ => exact ⟨by rw [c2]; rfl, h.free 2⟩
  | 3, _ => exact ⟨by rw [c3]; rfl, h.free 3⟩
  | 4, _ => exact ⟨by rw [c4]; rfl, h.free 4⟩
  | 5, _ => exact ⟨by rw [c5]; rfl, h.free 5⟩
  | 6, _ => exact ⟨by rw [c6]; rfl, h.free 6⟩
  | 7, _ => exact ⟨by rw [c7]; rfl, h.free 7⟩
  | 8, _ => exact ⟨by rw [c8]; rfl, h.free 8⟩
  | 9, _ => exact ⟨by rw [c9]; rfl, h.free 9⟩
  | 10, _ => exact ⟨by rw [c10]; rfl, h.free 10⟩
  | 11, _ => exact ⟨by rw [c11]; rfl, h.free 11⟩
/-- a struct's cell and a slot as results -/
theorem results_cell_slot {P : Program} {fn : Func} {p s : Tmp} {ty : TypeId} (h : fn.results = #[.cell p ty, .tmp s]) (tmps : Array Value) (w : World) (g : Nat) (cs : List Value) (d : TypeDesc)
    (hp : tmps.getD p undef = .pointer (some ⟨g, 0, none⟩)) (hc : w.rangeAt g 0 cs) (hu : P.underlying ty = some d) (hd : d.isRow = true) (hi : (P.info? ty).map (·.size) = some cs.length) :
    (results fn tmps).run P w = .ok (.tuple #[.agg cs.toArray, tmps.getD s undef]) w := by
  have hp' : tmps[p]?.getD undef = .pointer (some ⟨g, 0, none⟩) := by simpa using hp
  simp [results, h, hp', asAddr, run_loadVar_mid w g 0 ty cs d hc hu hd hi]
end Go.Proofs.YtdnackjakfiffaaGreatDoor

/-
  Package record: readParts.
-/
namespace Go.Proofs.YtdnackjakfiffaaGreatDoor
open Go Go.RowKit
open Wb

theorem cells_other (g : Nat) : ∀ (vs : List Value) (o : Nat) (w : World) (i : Nat), i ≠ g → (w.setCells g o vs).heap[i]? = w.heap[i]?
  | [], _, _, _, _ => rfl
  | v :: r, o, w, i, h => by
    show ((w.setCell ⟨g, o, none⟩ v).setCells g (o + 1) r).heap[i]? = _
    rw [cells_other g r (o + 1) _ i h, set_other w ⟨g, o, none⟩ v i h]
theorem below_cells {B g : Nat} {a : World} (hg : B ≤ g) : ∀ (vs : List Value) (o : Nat) (w : World), Below B a w → Below B a (w.setCells g o vs)
  | [], _, _, h => h
  | v :: r, o, _, h => below_cells hg r (o + 1) _ (Below.setCell h hg v)
theorem Own.cells {B : Nat} {w : World} {v : Value} {l : List Nat} (h : Own B w v l) (g o : Nat) (vs : List Value) (hp : g < B) : Own B (w.setCells g o vs) v l := by
  refine ⟨⟨h.row.1, ?_⟩, h.good⟩
  rcases h.row.2 with h1 | ⟨g', cap, cur, rfl, h1, hg, rest⟩
  · exact .inl h1
  · exact .inr ⟨g', cap, cur, rfl, h1, (cells_other g vs o w g' (by omega)).trans hg, rest⟩

theorem infoParts : (Tryz.prog.info? 97).map (·.size) = some 12 := by kernel_rfl
end Go.Proofs.YtdnackjakfiffaaGreatDoor

/-
  Package record: Decode.
-/
namespace Go.Proofs.YtdnackjakfiffaaGreatDoor
open Go Go.RowKit
open Wb

theorem rpF_fits (b : List Nat) : ∀ (n : Nat) (p : Int) (last : Nat) (q : Pts), q.fits → (rpF b n p last q).2.fits
  | 0, _, _, _, h => h
  | n + 1, p, last, q, h => by
    have hz : zeroPts.fits := ⟨by decide, by decide⟩
    unfold rpF
    split
    · split
      · exact hz
      · split
        · exact hz
        · split
          · exact hz
          · exact rpF_fits b n _ _ _ (rdp_fits b _ _ q h)
    · exact h
def Pts.ofV (q : Pts) (v : Int) : Pts := { q with x := q.x.ofV v }
/-- Decode's answer -/
def dcd (v : Int) (b : List Nat) : Int × Pts :=
  if ¬ (1 ≤ v ∧ v ≤ 3) then (3, zeroPts)
  else if (rpF b 12 0 0 zeroPts).1 ≠ 0 then (((rpF b 12 0 0 zeroPts).1 : Int), zeroPts)
  else if chk ((rpF b 12 0 0 zeroPts).2.x.ofV v) (bstr (rpF b 12 0 0 zeroPts).2.nm) (rpF b 12 0 0 zeroPts).2.l ≠ 0 then (chk ((rpF b 12 0 0 zeroPts).2.x.ofV v) (bstr (rpF b 12 0 0 zeroPts).2.nm) (rpF b 12 0 0 zeroPts).2.l, zeroPts)
  else (0, (rpF b 12 0 0 zeroPts).2.ofV v)
theorem infoRec : (Tryz.prog.info? 32).map (·.size) = some 12 := by kernel_rfl
theorem Box.free' {w : World} {g : Nat} {x : Nums} {nm : ByteArray} {d : Value} (h : Box w g x nm d) (j : Nat) : w.frozen? ⟨g, j, none⟩ = false := by
  unfold Box at h
  simp [World.frozen?, h]
theorem Box.there {w : World} {g : Nat} {x : Nums} {nm : ByteArray} {d : Value} (h : Box w g x nm d) : w.there g 0 12 := by
  intro j hj
  rw [Nat.zero_add]
  obtain ⟨c0, c1, c2, c3, c4, c5, c6, c7, c8, c9, c10, c11⟩ := h.cells
  match j, hj with
  | 0, _ => exact ⟨by rw [c0]; rfl, h.free' 0⟩
  | 1, _ => exact ⟨by rw [c1]; rfl, h.free' 1⟩
  | 2, _ => exact ⟨by rw [c2]; rfl, h.free' 2⟩
  | 3, _ => exact ⟨by rw [c3]; rfl, h.free' 3⟩
  | 4, _ => exact ⟨by rw [c4]; rfl, h.free' 4⟩
  | 5, _ => exact ⟨by rw [c5]; rfl, h.free' 5⟩
  | 6, _ => exact ⟨by rw [c6]; rfl, h.free' 6⟩
  | 7, _ => exact ⟨by rw [c7]; rfl, h.free' 7⟩
  | 8, _ => exact ⟨by rw [c8]; rfl, h.free' 8⟩
  | 9, _ => exact ⟨by rw [c9]; rfl, h.free' 9⟩
  | 10, _ => exact ⟨by rw [c10]; rfl, h.free' 10⟩
  | 11, _ => exact ⟨by rw [c11]; rfl, h.free' 11⟩
end Go.Proofs.YtdnackjakfiffaaGreatDoor
