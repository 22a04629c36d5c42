/-
  ManifestChecks: a manifest among the arguments, a nil list without room.
-/
import Derived.Test.YtfccimacloagiaaDoorMq9
import Derived.Test.YtfccimacloagiaaDoorMpo
namespace Go.Proofs.YtfccimacloagiaaDoor
open Go Go.RowKit Go.ChangeShapes Go.WideShapes Go.ChangeAt
open Wb

theorem open_nz {H : Type} {enc : TypeId × Value → H} {W : World} {fuel : Nat} {v : Value} {d : DataW H} {p : List MemPlace} (hf : DataW.trod enc Tryd.prog W 0 (fun _ => true) true fuel 22 [v] = some (d, p)) : NoneZ v := by
  rcases Deep.open_slice Tryd.underlying22 hf with ⟨hcs, _⟩ | ⟨a, len, cap, m, n, D, Pl, hcs, _⟩
  · simp at hcs
    subst hcs
    intro ao n cap e _
    simp only [Value.slice.injEq] at e
    exact e.2.2.symm
  · simp at hcs
    subst hcs
    exact nz_some _ _ _
set_option maxRecDepth 100000 in
theorem open_man2 {H : Type} {enc : TypeId × Value → H} {W : World} {base : Nat} {v : Value} {d : DataW H} {p : List MemPlace} (hv : Value.okWide Tryd.prog W .any base 24 v)
    (h : DataW.Trod enc Tryd.prog W 0 (fun _ => true) true 24 v d p) : ∃ m sv, v = mfv m sv ∧ SgsAt W sv m.l ∧ NoneZ sv ∧ m.t ≤ 9223372036854775807 := by
  obtain ⟨cs, rfl, hcs⟩ := okWide_struct Tryd.underlying24 hv
  rw [cellsMANm] at hcs
  obtain ⟨fuel, hf⟩ := h
  obtain ⟨xs, k', _, hxy, _, hxl, hfs⟩ := DataW.trod_struct Tryd.underlying24 hf
  have hlen : cs.toList.length = 5 := by simpa using hcs
  have hcells : Value.cells (.agg cs) = cs := rfl
  rw [hcells] at hfs
  obtain ⟨vs⟩ := cs
  simp only at hfs hlen
  match xs, hxl, vs, hlen with
  | [y0, y1, y2, y3, y4], _, [v0, v1, v2, v3, v4], _ =>
    have g0 := hfs 0 _ rfl
    have g1 := hfs 1 _ rfl
    have g2 := hfs 2 _ rfl
    have g3 := hfs 3 _ rfl
    have g4 := hfs 4 _ rfl
    simp [cellsTIm, cellsSEGSm] at g0 g1 g2 g3 g4
    obtain ⟨z0, e0, _, _⟩ := DataW.trod_int Tryd.underlying3 g0
    obtain ⟨z1, e1, _, _⟩ := DataW.trod_int Tryd.underlying3 g1
    obtain ⟨z2, e2, _, _⟩ := DataW.trod_int Tryd.underlying3 g2
    obtain ⟨z3, e3, _, b3⟩ := DataW.trod_int Tryd.underlying3 g3
    obtain ⟨l, hl⟩ := open_segs g4
    have hnz := open_nz g4
    simp only [List.cons.injEq, and_true] at e0 e1 e2 e3
    subst e0 e1 e2 e3
    exact ⟨⟨z0, z1, z2, z3, l⟩, v4, rfl, hl, hnz, (i64_boundsm b3).2⟩
theorem manifestChecks_any (m : Mf) (v : Value) (w : World) (hT : Tab w) (h : SgsAt w v m.l ∧ NoneZ v ∧ m.t ≤ 9223372036854775807) :
    Calls Tryd.prog 4 #[mfv m v] w fun e w' => e = .returned (.bool true) ∧ Below w.heap.size w w' := mchecks_any m v w hT h.1 h.2.1 h.2.2
end Go.Proofs.YtfccimacloagiaaDoor
