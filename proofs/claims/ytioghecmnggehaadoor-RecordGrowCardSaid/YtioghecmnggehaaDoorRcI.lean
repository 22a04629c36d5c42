/-
  Package record: joined, readParts.
-/
import Derived.Test.YtioghecmnggehaaDoorRcH
namespace Go.Proofs.YtioghecmnggehaaDoor
open Go Go.RowKit
open Wb

def Nums.ofV (x : Nums) (v : Int) : Nums := { x with v := v }
set_option maxRecDepth 100000 in
theorem joined_any (x : Nums) (nm : ByteArray) (ao : Option Addr) (n cap : Nat) (v : Int) (w : World) :
    Calls Tryd.prog 21 #[pv x nm (.slice ao n cap), .int .i64 v] w fun e w' => e = .returned (rv (x.ofV v) nm (.slice ao n cap)) ∧ Below w.heap.size w w' := by
  unfold pv rv
  go_enter Tryd.func21, Tryd.ntmps21
  go_wp2
  go_returns
  exact ⟨rfl, by go_grown⟩
def zeroNums : Nums := ⟨0, 0, 0, 0, 0, 0, 0, 0, 0, 0⟩
def zeroPts : Pts := ⟨zeroNums, [], []⟩
theorem bstr_nil : bstr [] = ⟨#[]⟩ := rfl
/-- readParts' answer from a place on; n: how many fields may still come -/
def rpF (b : List Nat) : Nat → Int → Nat → Pts → Nat × Pts
  | 0, _, _, q => (0, q)
  | n + 1, at', last, q =>
    if at' < (b.length : Int) then
      (if (rt b at' last).2.2 ≠ 0 then ((rt b at' last).2.2, zeroPts)
       else if (rdp b (rt b at' last).2.1 (rt b at' last).1 q).2.1 ≠ 0 then ((rdp b (rt b at' last).2.1 (rt b at' last).1 q).2.1, zeroPts)
       else if zeroT (rdp b (rt b at' last).2.1 (rt b at' last).1 q).2.2.x (bstr (rdp b (rt b at' last).2.1 (rt b at' last).1 q).2.2.nm) (rdp b (rt b at' last).2.1 (rt b at' last).1 q).2.2.l.length (rt b at' last).1 then (38, zeroPts)
       else rpF b n (rdp b (rt b at' last).2.1 (rt b at' last).1 q).1 (rt b at' last).1 (rdp b (rt b at' last).2.1 (rt b at' last).1 q).2.2)
    else (0, q)
theorem rt_ok (b : List Nat) (p : Int) (last : Nat) (h : (rt b p last).2.2 = 0) : last < (rt b p last).1 ∧ (rt b p last).1 ≤ 11 := by
  unfold rt at h ⊢
  split
  · rename_i h1; rw [if_pos h1] at h; exact absurd h h1
  · rename_i h1
    rw [if_neg h1] at h
    split
    · rename_i h2; rw [if_pos h2] at h; simp at h
    · rename_i h2; simp only; omega
/-- what is read is short -/
def Pts.fits (q : Pts) : Prop := q.nm.length ≤ 192 ∧ q.l.length ≤ 16384
theorem rb_short (b : List Nat) (p m : Int) (hm : 0 ≤ m) : ((rb b p m).1.length : Int) ≤ m := by
  unfold rb
  rw [if_neg (by omega)]
  by_cases h1 : (Wn.ru b p).2.2 ≠ 0
  · rw [if_pos h1]; simpa using hm
  · rw [if_neg h1]
    by_cases h2 : m < ((Wn.ru b p).1 : Int)
    · rw [if_pos h2]; simpa using hm
    · rw [if_neg h2]
      split
      · simpa using hm
      · simp only [List.length_drop, List.length_take]
        omega
theorem rdp_fits (b : List Nat) (p : Int) (t : Nat) (q : Pts) (h : q.fits) : (rdp b p t q).2.2.fits := by
  unfold rdp
  split
  · exact h
  · split
    · have := rb_short b p 192 (by decide)
      exact ⟨by show (rb b p 192).1.length ≤ 192; omega, h.2⟩
    · split
      · have := rb_short b p 16384 (by decide)
        exact ⟨h.1, by show (rb b p 16384).1.length ≤ 16384; omega⟩
      · exact h
theorem PBox.there {w : World} {g : Nat} {x : Nums} {nm : ByteArray} {d : Value} (h : PBox w g x nm d) : w.there g 0 12 := by
  intro j hj
  rw [Nat.zero_add]
  obtain ⟨c0, c1, c2, c3, c4, c5, c6, c7, c8, c9, c10, c11⟩ := h.cells
  match j, hj with
  | 0, _ => exact ⟨by rw [c0]; rfl, h.free 0⟩
  | 1, _ => exact ⟨by rw [c1]; rfl, h.free 1⟩
  | 2, _ => exact ⟨by rw [c2]; rfl, h.free 2⟩
  | 3, _ => exact ⟨by rw [c3]; rfl, h.free 3⟩
  | 4, _ => exact ⟨by rw [c4]; rfl, h.free 4⟩
  | 5, _ => exact ⟨by rw [c5]; rfl, h.free 5⟩
  | 6, _ => exact ⟨by rw [c6]; rfl, h.free 6⟩
  | 7, _ => exact ⟨by rw [c7]; rfl, h.free 7⟩
  | 8, _ => exact ⟨by rw [c8]; rfl, h.free 8⟩
  | 9, _ => exact ⟨by rw [c9]; rfl, h.free 9⟩
  | 10, _ => exact ⟨by rw [c10]; rfl, h.free 10⟩
  | 11, _ => exact ⟨by rw [c11]; rfl, h.free 11⟩
/-- a struct's cell and a slot as results -/
theorem results_cell_slot {P : Program} {fn : Func} {p s : Tmp} {ty : TypeId} (h : fn.results = #[.cell p ty, .tmp s]) (tmps : Array Value) (w : World) (g : Nat) (cs : List Value) (d : TypeDesc)
    (hp : tmps.getD p undef = .pointer (some ⟨g, 0, none⟩)) (hc : w.rangeAt g 0 cs) (hu : P.underlying ty = some d) (hd : d.isRow = true) (hi : (P.info? ty).map (·.size) = some cs.length) :
    (results fn tmps).run P w = .ok (.tuple #[.agg cs.toArray, tmps.getD s undef]) w := by
  have hp' : tmps[p]?.getD undef = .pointer (some ⟨g, 0, none⟩) := by simpa using hp
  simp [results, h, hp', asAddr, run_loadVar_mid w g 0 ty cs d hc hu hd hi]
end Go.Proofs.YtioghecmnggehaaDoor
