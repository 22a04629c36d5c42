import Derived.Laws.EntriesVeiled
import Derived.Test.YtenhaogheilmoaaDoorQK2
import Derived.Test.YtenhaogheilmoaaDoorQL1
import Derived.Test.YtenhaogheilmoaaDoorQR3
import Derived.Test.YtenhaogheilmoaaDoorQR5
/-
  Package lift: what the four ways do.
-/
namespace Go.Proofs.YtenhaogheilmoaaDoor
open Go Go.RowKit
open Wb

end Go.Proofs.YtenhaogheilmoaaDoor

/-
  Package lift: twoToOne.
-/
namespace Go.Proofs.YtenhaogheilmoaaDoor
open Go Go.RowKit
open Wb

/-- the bytes of a text in a new row -/
theorem bs_row (w : World) (s : ByteArray) (G : Nat) (h1 : s.size ≤ G) (h2 : G ≤ maxLen) (g : Nat) (hg : g = w.heap.size) (fr : Nat × Nat) : Bs (w.alloc (.cells (bytesRow s G) 5 fr)) (.slice (some ⟨g, 0, none⟩) s.size G) (nbs s) := by
  subst hg
  refine ⟨⟨some ⟨w.heap.size, 0, none⟩, G, by rw [nbs_len], by rw [nbs_len]; exact h1, h2, (fun e => nomatch e), fun _ => ⟨w.heap.size, 0, rfl, fun j hj => ?_⟩⟩, nbs_ok s⟩
  rw [Nat.zero_add]
  have hj' : j < s.data.size := by rw [nbs_len] at hj; exact hj
  have e : (w.alloc (.cells (bytesRow s G) 5 fr)).cell? ⟨w.heap.size, j, none⟩ = (bytesRow s G)[j]? := by
    have h : (w.alloc (.cells (bytesRow s G) 5 fr)).heap[w.heap.size]? = some (.cells (bytesRow s G) 5 fr) := Array.getElem?_push_size
    unfold World.cell?
    simp only [h]
    rfl
  rw [e, bytesRow_at s _ j hj']
  simp [nbs]
end Go.Proofs.YtenhaogheilmoaaDoor

/-
  Package lift: carry.
-/
namespace Go.Proofs.YtenhaogheilmoaaDoor
open Go Go.RowKit
open Wb

/-- a record by its values -/
structure Rec where
  x : Nums
  nm : ByteArray
  l : List Nat
/-- what the ways do -/
def cOne (r : Rec) : Rec := if r.x.k = 1 then ⟨{ r.x with v := 2, n := r.x.p, p := 0 }, bstr r.l, []⟩ else if r.x.k = 2 ∨ r.x.k = 5 then ⟨{ r.x with v := 2, t := 1 }, r.nm, r.l⟩ else if r.x.k = 4 then ⟨{ r.x with v := 2, l := 1 }, r.nm, r.l⟩ else ⟨{ r.x with v := 2 }, r.nm, r.l⟩
def cTwo (r : Rec) : Rec := ⟨{ r.x with v := 3 }, r.nm, r.l⟩
def cThree (r : Rec) : Rec := ⟨{ r.x with v := 2, i := 0, c := 0 }, r.nm, r.l⟩
def cBack (r : Rec) : Rec := if r.x.k = 1 then ⟨⟨1, r.x.k, r.x.s, r.x.n, 0, 0, 0, 0, 0, 0⟩, ⟨#[]⟩, nbs r.nm⟩ else ⟨⟨1, r.x.k, r.x.s, r.x.p, 0, 0, 0, 0, 0, 0⟩, ⟨#[]⟩, r.l⟩
def deedP (j : Nat) (r : Rec) : Rec := if j = 0 then cOne r else if j = 1 then cTwo r else if j = 2 then cThree r else cBack r
def Rec.small (r : Rec) : Prop := r.nm.size ≤ 20000 ∧ r.l.length ≤ 20000
theorem deedP_small (j : Nat) (r : Rec) (h : r.small) : (deedP j r).small := by
  have e0 : (⟨#[]⟩ : ByteArray).size = 0 := rfl
  obtain ⟨h1, h2⟩ := h
  unfold deedP
  split
  · unfold cOne
    split
    · exact ⟨by rw [bstr_size]; exact h2, by simp⟩
    · split
      · exact ⟨h1, h2⟩
      · split <;> exact ⟨h1, h2⟩
  · split
    · exact ⟨h1, h2⟩
    · split
      · exact ⟨h1, h2⟩
      · unfold cBack
        split
        · exact ⟨by rw [e0]; omega, by rw [nbs_len]; exact h1⟩
        · exact ⟨by rw [e0]; omega, h2⟩
/-- data that does not lie in block g -/
def Off (g : Nat) (d : Value) (l : List Nat) : Prop := l ≠ [] → ∀ b off n cap, d = .slice (some ⟨b, off, none⟩) n cap → b ≠ g
theorem bs_off {w : World} {d : Value} {l : List Nat} (h : Bs w d l) (g o : Nat) (vs : List Value) (ho : Off g d l) : Bs (w.setCells g o vs) d l := by
  obtain ⟨⟨ao, cap, h1, h2, h3, h4, h5⟩, hok⟩ := h
  refine ⟨⟨ao, cap, h1, h2, h3, h4, fun hne => ?_⟩, hok⟩
  obtain ⟨b, off, hb, hc⟩ := h5 hne
  refine ⟨b, off, hb, fun j hj => ?_⟩
  have hbg : b ≠ g := ho hne b off l.length cap (by rw [h1, hb])
  have e := cells_other g vs o w b hbg
  have hcj := hc j hj
  unfold World.cell? at hcj ⊢
  simp only at hcj ⊢
  rw [e]
  exact hcj
theorem off_of {w : World} {d : Value} {l : List Nat} (h : Bs w d l) (g : Nat) (hg : w.heap.size ≤ g) : Off g d l := fun hne b off n cap e => by
  obtain ⟨ao', cap', e', _, _, _, hc⟩ := h.shape
  obtain ⟨b', off', e2, hcell⟩ := hc hne
  rw [e', e2] at e
  simp at e
  have := World.block_lt_of_cell? _ _ (hcell 0 (List.length_pos_iff.2 hne))
  simp at this
  omega
/-- what carry answers -/
def carL (ks : List Nat) (r : Rec) : Rec := ks.foldl (fun r k => deedP k r) r
def carP (t : Int) (r : Rec) : Rec := carL (Lft.go r.x.v t 4).2 r
theorem go_lt (f t : Int) : ∀ k, ∀ j ∈ (Lft.go f t k).2, j < k
  | 0, j, h => by simp [Lft.go] at h
  | k + 1, j, h => by
    have ih := go_lt f t k
    unfold Lft.go at h
    split at h
    · simp at h
      rcases h with h | rfl
      · have := ih j h; omega
      · omega
    · have := ih j h; omega
theorem box_cells {w : World} {g : Nat} {x : Nums} {nm : ByteArray} {d : Value} (h : Box w g x nm d) (y : Nums) (nm2 : ByteArray) (d2 : Value) : Box (w.setCells g 0 [.int .i64 y.v, .int .i64 y.k, .int .i64 y.s, .int .i64 y.p, .int .i64 y.t, .int .i64 y.a, .int .i64 y.l, .int .i64 y.c, .int .i64 y.n, .int .i64 y.i, .string nm2, d2]) g y nm2 d2 := by
  unfold Box at *
  simp [World.setCells, World.setCell, Array.getElem?_modify, h]
theorem box_cells_other {w : World} {g g' : Nat} {x : Nums} {nm : ByteArray} {d : Value} (h : Box w g x nm d) (o : Nat) (vs : List Value) (hne : g ≠ g') : Box (w.setCells g' o vs) g x nm d := (cells_other g' vs o w g hne).trans h
end Go.Proofs.YtenhaogheilmoaaDoor

/-
  Package lift: check, Up.
-/
namespace Go.Proofs.YtenhaogheilmoaaDoor
open Go Go.RowKit
open Wb

def chkR (r : Rec) : Int := chk r.x r.nm r.l
def zRec : Rec := ⟨zeroNums, ⟨#[]⟩, []⟩
/-- what check answers -/
def lckE (to : Int) (r : Rec) : Int := if chkR r ≠ 0 then chkR r else if 1 ≤ to ∧ to ≤ 3 then 0 else 3
/-- what Up answers -/
def upP (to : Int) (r : Rec) : Int × Rec := if lckE to r ≠ 0 then (lckE to r, zRec) else if to < r.x.v then (41, zRec) else (0, carP to r)
def eqR (a b : Rec) : Bool := recEq a.x b.x a.nm b.nm a.l b.l
/-- what Down answers -/
def downP (to : Int) (r : Rec) : Int × Rec := if lckE to r ≠ 0 then (lckE to r, zRec) else if r.x.v < to then (41, zRec) else if eqR (carP r.x.v (carP to r)) r then (0, carP to r) else (40, zRec)
theorem small_of (r : Rec) (hf : r.x.fit) (hc : chkR r = 0) : r.small := by
  obtain ⟨hx, hv, hk, _, hN⟩ := chk_nice r.x r.nm r.l hc hf
  obtain ⟨hn, hl⟩ := chk_fits r.x r.nm r.l hN
  exact ⟨by omega, by omega⟩
theorem carL_small : ∀ (ks : List Nat) (r : Rec), r.small → (carL ks r).small
  | [], _, h => h
  | k :: ks, r, h => carL_small ks (deedP k r) (deedP_small k r h)
theorem chk_of_lck {to : Int} {r : Rec} (h : lckE to r = 0) : chkR r = 0 := by
  unfold lckE at h
  by_cases hc : chkR r = 0
  · exact hc
  · rw [if_pos hc] at h
    exact absurd h hc
end Go.Proofs.YtenhaogheilmoaaDoor
