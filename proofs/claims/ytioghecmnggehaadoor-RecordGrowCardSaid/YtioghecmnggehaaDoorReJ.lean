/-
  A record among the arguments, with the bounds of its numbers.
-/
import Derived.Test.YtioghecmnggehaaDoorRcT
import Derived.Test.YtioghecmnggehaaDoorReI
namespace Go.Proofs.YtioghecmnggehaaDoor
open Go Go.RowKit Go.ChangeShapes Go.WideShapes Go.ChangeAt
open Wb

theorem cellsTBS : Tryd.prog.cellsOf 22 = 1 := by kernel_rfl
theorem cellsTI : Tryd.prog.cellsOf 3 = 1 := by kernel_rfl
theorem cellsTSTR : Tryd.prog.cellsOf 9 = 1 := by kernel_rfl
theorem cellsREC : Tryd.prog.cellsOf 24 = 12 := by kernel_rfl
theorem i64_bounds {n : Int} (h : (Lit.int .i64 n).wf = true) : -9223372036854775808 ≤ n ∧ n ≤ 9223372036854775807 := by
  have e : IntKind.i64.min = -9223372036854775808 := by decide
  simp [Lit.wf] at h
  omega
/-- a record -/
theorem open_recb {H : Type} {enc : TypeId × Value → H} {W : World} {base : Nat} {v : Value} {d : DataW H} {p : List MemPlace} (hv : Value.okWide Tryd.prog W .any base 24 v)
    (h : DataW.Trod enc Tryd.prog W 0 (fun _ => true) true 24 v d p) (hw : ∀ n ∈ d.weights Tryd.prog 24, n ≤ reachBytes) : ∃ x nm dv l, v = rv x nm dv ∧ Bs W dv l ∧ nm.size ≤ 140737488355000 ∧ ∀ t, 1 ≤ t → t ≤ 9 → -9223372036854775808 ≤ x.tag t ∧ x.tag t ≤ 9223372036854775807 := by
  obtain ⟨cs, rfl, hcs⟩ := okWide_struct Tryd.underlying24 hv
  rw [cellsREC] at hcs
  obtain ⟨fuel, hf⟩ := h
  obtain ⟨xs, k', _, hxy, _, hxl, hfs⟩ := DataW.trod_struct Tryd.underlying24 hf
  have hlen : cs.toList.length = 12 := by simpa using hcs
  have hcells : Value.cells (.agg cs) = cs := rfl
  rw [hcells] at hfs
  obtain ⟨vs⟩ := cs
  simp only at hfs hlen
  match xs, hxl, vs, hlen with
  | [y0, y1, y2, y3, y4, y5, y6, y7, y8, y9, y10, y11], _, [v0, v1, v2, v3, v4, v5, v6, v7, v8, v9, v10, v11], _ =>
    have g0 := hfs 0 _ rfl
    have g1 := hfs 1 _ rfl
    have g2 := hfs 2 _ rfl
    have g3 := hfs 3 _ rfl
    have g4 := hfs 4 _ rfl
    have g5 := hfs 5 _ rfl
    have g6 := hfs 6 _ rfl
    have g7 := hfs 7 _ rfl
    have g8 := hfs 8 _ rfl
    have g9 := hfs 9 _ rfl
    have g10 := hfs 10 _ rfl
    have g11 := hfs 11 _ rfl
    simp [cellsTI, cellsTSTR, cellsTBS] at g0 g1 g2 g3 g4 g5 g6 g7 g8 g9 g10 g11
    simp only [Prod.mk.injEq] at hxy
    have hw11 : ∀ n ∈ y11.1.weights Tryd.prog 22, n ≤ reachBytes := fun n hn => hw n (by
      rw [hxy.1]
      simp [DataW.weights, Tryd.underlying24, DataW.weightsEach, hn])
    obtain ⟨z0, e0, _, b0⟩ := DataW.trod_int Tryd.underlying3 g0
    obtain ⟨z1, e1, _, b1⟩ := DataW.trod_int Tryd.underlying3 g1
    obtain ⟨z2, e2, _, b2⟩ := DataW.trod_int Tryd.underlying3 g2
    obtain ⟨z3, e3, _, b3⟩ := DataW.trod_int Tryd.underlying3 g3
    obtain ⟨z4, e4, _, b4⟩ := DataW.trod_int Tryd.underlying3 g4
    obtain ⟨z5, e5, _, b5⟩ := DataW.trod_int Tryd.underlying3 g5
    obtain ⟨z6, e6, _, b6⟩ := DataW.trod_int Tryd.underlying3 g6
    obtain ⟨z7, e7, _, b7⟩ := DataW.trod_int Tryd.underlying3 g7
    obtain ⟨z8, e8, _, b8⟩ := DataW.trod_int Tryd.underlying3 g8
    obtain ⟨z9, e9, _, b9⟩ := DataW.trod_int Tryd.underlying3 g9
    obtain ⟨z10, e10, q10, _⟩ := DataW.trod_string Tryd.underlying9 g10
    obtain ⟨l, hb, _⟩ := open_bsf g11 hw11
    have hw10 : z10.size ≤ 140737488355000 := by
      have h1 := hw z10.size (by
        rw [hxy.1]
        simp [DataW.weights, Tryd.underlying24, DataW.weightsEach, q10])
      have h2 := reachIs
      omega
    simp only [List.cons.injEq, and_true] at e0 e1 e2 e3 e4 e5 e6 e7 e8 e9 e10
    subst e0 e1 e2 e3 e4 e5 e6 e7 e8 e9 e10
    refine ⟨⟨z0, z1, z2, z3, z4, z5, z6, z7, z8, z9⟩, z10, v11, l, rfl, hb, hw10, fun t h1 h9 => ?_⟩
    obtain rfl | rfl | rfl | rfl | rfl | rfl | rfl | rfl | rfl : t = 1 ∨ t = 2 ∨ t = 3 ∨ t = 4 ∨ t = 5 ∨ t = 6 ∨ t = 7 ∨ t = 8 ∨ t = 9 := by omega
    · exact i64_bounds b1
    · exact i64_bounds b2
    · exact i64_bounds b3
    · exact i64_bounds b4
    · exact i64_bounds b5
    · exact i64_bounds b6
    · exact i64_bounds b7
    · exact i64_bounds b8
    · exact i64_bounds b9
end Go.Proofs.YtioghecmnggehaaDoor
