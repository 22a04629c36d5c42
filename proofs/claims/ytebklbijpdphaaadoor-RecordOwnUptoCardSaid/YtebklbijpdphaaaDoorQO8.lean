import Derived.Test.YtebklbijpdphaaaDoorQO7
/-
  LiftEmpty, LiftOwn: stand.
-/
namespace Go.Proofs.YtebklbijpdphaaaDoor
open Go Go.RowKit
open Wb

/-- a row of values, to be read -/
def RowV (w : World) (v : Value) (xs : List Value) : Prop := ∃ ao, ∃ cap : Nat, v = .slice ao xs.length cap ∧ ∀ (k : Nat) (x : Value), xs[k]? = some x → ∃ g, ao = some ⟨g, 0, none⟩ ∧ w.cell? ⟨g, k, none⟩ = some x
theorem rowV_of {B : Nat} {w : World} {v : Value} {xs : List Value} (h : w.ownsRow B 25 1 v xs.length xs) : RowV w v xs := by
  rcases h.2 with ⟨rfl, h1⟩ | ⟨g, cap, cur, rfl, hb, hg, h1, h2, h3, h4⟩
  · exact ⟨none, 0, by rw [h1], fun k x hx => by have := (List.getElem?_eq_some_iff.1 hx).1; omega⟩
  · refine ⟨some ⟨g, 0, none⟩, cap, rfl, fun k x hx => ⟨g, rfl, ?_⟩⟩
    have hk : k < xs.length := (List.getElem?_eq_some_iff.1 hx).1
    rw [World.ownsRow.cellAt h k (by omega)]
    exact hx
theorem flat3_len : ∀ fs : List (Value × Value × Value), (fs.flatMap vw).length = 3 * fs.length
  | [] => rfl
  | x :: fs => by
    rw [List.flatMap_cons, List.length_append, flat3_len fs, List.length_cons]
    show 3 + 3 * fs.length = 3 * (fs.length + 1)
    omega
theorem flat3_get : ∀ (fs : List (Value × Value × Value)) (i : Nat) (x : Value × Value × Value) (r : Nat), fs[i]? = some x → r < 3 → (fs.flatMap vw)[3 * i + r]? = (vw x)[r]?
  | y :: fs, 0, x, r, hx, hr => by
    obtain rfl : y = x := by simpa using hx
    rw [List.flatMap_cons, List.getElem?_append_left (by show 3 * 0 + r < 3; omega)]
    simp
  | y :: fs, i + 1, x, r, hx, hr => by
    rw [List.flatMap_cons, List.getElem?_append_right (by show 3 ≤ _; omega), show 3 * (i + 1) + r - (vw y).length = 3 * i + r by show 3 * (i + 1) + r - 3 = _; omega]
    exact flat3_get fs i x r (by simpa using hx) hr
/-- the marks stand, to be read -/
structure Stn (w : World) (vl vm : Value) (ds : List Value) (n : Nat → Nat) (fs : List (Value × Value × Value)) : Prop where
  rl : RowV w vl ds
  rm : RowV w vm (fs.flatMap vw)
  len : fs.length = ds.length
  base : ∀ (i : Nat) (d : Value), ds[i]? = some d → Bs w d (mks (n i) (mkA i) 0 (mkT i))
  v1 : ∀ (i : Nat) (x : Value × Value × Value), fs[i]? = some x → Bs w x.1 (mks (n i) (mkA i) 1 (mkT i)) ∧ Bs w x.2.1 (mks (n i) (mkA i) 2 (mkT i)) ∧ Bs w x.2.2 (mks (n i) (mkA i) 70 (mkT i))
theorem mk_cell {w : World} {ao : Option Addr} {q cap n a k t : Nat} (h : Bs w (.slice ao q cap) (mks n a k t)) (hk : 0 < n + k) : q = n + k ∧ q ≤ cap ∧ cap ≤ 9223372036854775807 ∧ ∃ b off, ao = some ⟨b, off, none⟩ ∧ ∀ j, j < n + k → w.cell? ⟨b, off + j, none⟩ = some (.int .u8 (((if j < n then a else t) : Nat) : Int)) := by
  obtain ⟨ao', cap', e, hl, hm, _, hc⟩ := h.shape
  simp only [Value.slice.injEq] at e
  obtain ⟨rfl, rfl, rfl⟩ := e
  rw [mks_len] at hl ⊢
  unfold maxLen at hm
  refine ⟨rfl, hl, by omega, ?_⟩
  obtain ⟨b, off, e2, hcell⟩ := hc (fun e => by have := congrArg List.length e; rw [mks_len] at this; simp at this; omega)
  refine ⟨b, off, e2, fun j hj => ?_⟩
  have h1 := hcell j (by rw [mks_len]; exact hj)
  have h2 := mks_get n a k t j hj
  rw [List.getElem?_eq_getElem (by rw [mks_len]; exact hj)] at h2
  rw [h1, Option.some.inj h2]
end Go.Proofs.YtebklbijpdphaaaDoor
