/-
  A manifest among the arguments.
-/
import Derived.Test.YtfccimacloagiaaDoorMpc
import Derived.Deep.Slices
import Derived.ProofKit
import Derived.OpenShut
import Derived.SizedLaws
import Derived.Deep.DeepHandedRow
namespace Go.Proofs.YtfccimacloagiaaDoor
open Go Go.RowKit Go.ChangeShapes Go.WideShapes Go.ChangeAt
open Wb

theorem cellsTIm : Tryd.prog.cellsOf 3 = 1 := by kernel_rfl
theorem cellsSEGm : Tryd.prog.cellsOf 46 = 3 := by kernel_rfl
theorem cellsSEGSm : Tryd.prog.cellsOf 22 = 1 := by kernel_rfl
theorem cellsMANm : Tryd.prog.cellsOf 24 = 5 := by kernel_rfl
theorem i64_boundsm {n : Int} (h : (Lit.int .i64 n).wf = true) : -9223372036854775808 ≤ n ∧ n ≤ 9223372036854775807 := by
  have e : IntKind.i64.min = -9223372036854775808 := by decide
  simp [Lit.wf] at h
  omega
set_option maxRecDepth 100000 in
theorem open_seg {H : Type} {enc : TypeId × Value → H} {W : World} {fuel : Nat} {vs : List Value} {D : DataW H} {p : List MemPlace} (hf : DataW.trod enc Tryd.prog W 0 (fun _ => true) true fuel 46 vs = some (D, p)) (hlen : vs.length = 3) :
    ∃ s : Sg, vs = sgc s := by
  obtain ⟨xs, k', _, hxy, _, hxl, hfs⟩ := DataW.trod_struct Tryd.underlying46 hf
  match xs, hxl, vs, hlen with
  | [y0, y1, y2], _, [v0, v1, v2], _ =>
    have g0 := hfs 0 _ rfl
    have g1 := hfs 1 _ rfl
    have g2 := hfs 2 _ rfl
    simp [cellsTIm] at g0 g1 g2
    obtain ⟨z0, e0, _, _⟩ := DataW.trod_int Tryd.underlying3 g0
    obtain ⟨z1, e1, _, _⟩ := DataW.trod_int Tryd.underlying3 g1
    obtain ⟨z2, e2, _, _⟩ := DataW.trod_int Tryd.underlying3 g2
    simp only [List.cons.injEq, and_true] at e0 e1 e2
    subst e0 e1 e2
    exact ⟨⟨z0, z1, z2⟩, rfl⟩
theorem listedm {α : Type} {P : Nat → α → Prop} : ∀ n, (∀ k, k < n → ∃ a, P k a) → ∃ l : List α, l.length = n ∧ ∀ k a, l[k]? = some a → P k a
  | 0, _ => ⟨[], rfl, fun k a h => by simp at h⟩
  | n + 1, h => by
    obtain ⟨l, hl, hp⟩ := listedm n (fun k hk => h k (by omega))
    obtain ⟨a, ha⟩ := h n (by omega)
    refine ⟨l ++ [a], by simp [hl], fun k b hb => ?_⟩
    by_cases hk : k < n
    · rw [List.getElem?_append_left (by omega)] at hb
      exact hp k b hb
    · rw [List.getElem?_append_right (by omega)] at hb
      obtain rfl : k = n := by
        have := (List.getElem?_eq_some_iff.1 hb).1
        simp at this
        omega
      rw [hl] at hb
      simp at hb
      exact hb ▸ ha
set_option maxRecDepth 100000 in
theorem open_segs {H : Type} {enc : TypeId × Value → H} {W : World} {fuel : Nat} {v : Value} {d : DataW H} {p : List MemPlace} (hf : DataW.trod enc Tryd.prog W 0 (fun _ => true) true fuel 22 [v] = some (d, p)) : ∃ l, SgsAt W v l := by
  rcases Deep.open_slice Tryd.underlying22 hf with ⟨hcs, _⟩ | ⟨a, len, cap, m, n, D, Pl, hcs, _, hl, hm, hmm, hx, hel⟩
  · simp at hcs
    subst hcs
    exact ⟨[], none, 0, rfl, Nat.le_refl _, Nat.zero_le _, fun k s hk => by simp at hk⟩
  · simp at hcs
    subst hcs
    have each : ∀ k, k < len → ∃ s : Sg, ∃ b off, a = ⟨b, off, none⟩ ∧ W.rangeAt b (off + k * 3) (sgc s) := fun k hk => by
      have hkm : k < m := by rw [hmm]; simp; omega
      have hspot : a.spot = none := by
        obtain ⟨cs0, h10, _⟩ := hel 0 (by omega)
        rw [cellsSEGm] at h10
        obtain ⟨_, hl0, hc0⟩ := World.cells?_some h10
        have r0 := hc0 0 (by omega)
        rw [List.getElem?_eq_getElem (show 0 < cs0.length by omega)] at r0
        simpa [Addr.add] using World.cell?_spot r0
      obtain ⟨cs', h1, h2⟩ := hel k hkm
      rw [cellsSEGm] at h1
      obtain ⟨_, hlen, hcell⟩ := World.cells?_some h1
      obtain ⟨s, e⟩ := open_seg h2 hlen
      obtain ⟨b, off, spot⟩ := a
      obtain rfl : spot = none := hspot
      refine ⟨s, b, off, rfl, fun j u hu => ?_⟩
      rw [← e] at hu
      have hj : j < 3 := by have := (List.getElem?_eq_some_iff.1 hu).1; omega
      have := hcell j hj
      rw [Deep.add_add, Go.WideShapes.add_plain, ← Nat.add_assoc, hu] at this
      exact this
    obtain ⟨l, hll, hls⟩ := listedm len each
    refine ⟨l, some a, cap, by rw [hll], by omega, hm, fun k s hk => ?_⟩
    obtain ⟨b, off, e, h1⟩ := hls k s hk
    exact ⟨b, off, by rw [e], h1⟩
set_option maxRecDepth 100000 in
theorem open_man {H : Type} {enc : TypeId × Value → H} {W : World} {base : Nat} {v : Value} {d : DataW H} {p : List MemPlace} (hv : Value.okWide Tryd.prog W .any base 24 v)
    (h : DataW.Trod enc Tryd.prog W 0 (fun _ => true) true 24 v d p) : ∃ m sv, v = mfv m sv ∧ SgsAt W sv m.l ∧ m.t ≤ 9223372036854775807 := by
  obtain ⟨cs, rfl, hcs⟩ := okWide_struct Tryd.underlying24 hv
  rw [cellsMANm] at hcs
  obtain ⟨fuel, hf⟩ := h
  obtain ⟨xs, k', _, hxy, _, hxl, hfs⟩ := DataW.trod_struct Tryd.underlying24 hf
  have hlen : cs.toList.length = 5 := by simpa using hcs
  have hcells : Value.cells (.agg cs) = cs := rfl
  rw [hcells] at hfs
  obtain ⟨vs⟩ := cs
  simp only at hfs hlen
  match xs, hxl, vs, hlen with
  | [y0, y1, y2, y3, y4], _, [v0, v1, v2, v3, v4], _ =>
    have g0 := hfs 0 _ rfl
    have g1 := hfs 1 _ rfl
    have g2 := hfs 2 _ rfl
    have g3 := hfs 3 _ rfl
    have g4 := hfs 4 _ rfl
    simp [cellsTIm, cellsSEGSm] at g0 g1 g2 g3 g4
    obtain ⟨z0, e0, _, _⟩ := DataW.trod_int Tryd.underlying3 g0
    obtain ⟨z1, e1, _, _⟩ := DataW.trod_int Tryd.underlying3 g1
    obtain ⟨z2, e2, _, _⟩ := DataW.trod_int Tryd.underlying3 g2
    obtain ⟨z3, e3, _, b3⟩ := DataW.trod_int Tryd.underlying3 g3
    obtain ⟨l, hl⟩ := open_segs g4
    simp only [List.cons.injEq, and_true] at e0 e1 e2 e3
    subst e0 e1 e2 e3
    exact ⟨⟨z0, z1, z2, z3, l⟩, v4, rfl, hl, (i64_boundsm b3).2⟩
end Go.Proofs.YtfccimacloagiaaDoor
