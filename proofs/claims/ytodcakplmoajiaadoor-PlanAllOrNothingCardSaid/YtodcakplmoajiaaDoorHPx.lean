/-
  PlanAllOrNothing: the answers among the arguments.
-/
import Derived.Test.YtodcakplmoajiaaDoorHPw
namespace Go.Proofs.YtodcakplmoajiaaDoor
open Go Go.RowKit Go.ChangeShapes Go.WideShapes Go.ChangeAt
open Wb

theorem cellsTANS : Tryd.prog.cellsOf 39 = 3 := by kernel_rfl
theorem bytesTANS : Tryd.prog.bytesOf 39 = 40 := by kernel_rfl
set_option maxRecDepth 100000 in
theorem open_ans {H : Type} {enc : TypeId × Value → H} {W : World} {fuel : Nat} {cs : List Value} {d : DataW H} {p : List MemPlace} (hf : DataW.trod enc Tryd.prog W 0 (fun _ => true) true fuel 39 cs = some (d, p)) (hlen : cs.length = 3) (hw : ∀ n ∈ d.weights Tryd.prog 39, n ≤ reachBytes) :
    ∃ a : An, cs = anl a.o a.c a.d ∧ Bs W a.d a.l ∧ -9223372036854775808 ≤ a.c ∧ a.c ≤ 9223372036854775807 := by
  obtain ⟨xs, k', _, hxy, _, hxl, hfs⟩ := DataW.trod_struct Tryd.underlying39 hf
  match xs, hxl, cs, hlen with
  | [y0, y1, y2], _, [v0, v1, v2], _ =>
    have g0 := hfs 0 _ rfl
    have g1 := hfs 1 _ rfl
    have g2 := hfs 2 _ rfl
    simp [cellsTI, cellsTBS] at g0 g1 g2
    simp only [Prod.mk.injEq] at hxy
    have hw2 : ∀ n ∈ y2.1.weights Tryd.prog 25, n ≤ reachBytes := fun n hn => hw n (by
      rw [hxy.1]
      simp [DataW.weights, Tryd.underlying39, DataW.weightsEach, hn])
    obtain ⟨z0, e0, _, _⟩ := DataW.trod_int Tryd.underlying3 g0
    obtain ⟨z1, e1, _, b1⟩ := DataW.trod_int Tryd.underlying3 g1
    obtain ⟨l, hb, _⟩ := open_bsf g2 hw2
    simp only [List.cons.injEq, and_true] at e0 e1
    have h9 := i64_bounds b1
    exact ⟨⟨z0, z1, v2, l⟩, by simp only [e0, e1, anl], hb, h9.1, h9.2⟩
set_option maxRecDepth 100000 in
theorem open_answers {H : Type} {enc : TypeId × Value → H} {W : World} {base : Nat} {v : Value} {d : DataW H} {p : List MemPlace} (hv : Value.okWide Tryd.prog W .any base 41 v)
    (h : DataW.Trod enc Tryd.prog W 0 (fun _ => true) true 41 v d p) (hw : ∀ n ∈ d.weights Tryd.prog 41, n ≤ reachBytes) : ∃ an, AnsAt W v an := by
  obtain ⟨a0, len0, cap0, rfl⟩ := okWide_slice Tryd.underlying41 hv
  obtain ⟨fuel, hf⟩ := h
  rcases Deep.open_slice Tryd.underlying41 hf with ⟨hcs, _⟩ | ⟨a, len, cap, m, n, D, Pl, hcs, _, hl, hm, hmm, hx, hel⟩
  · simp [Value.cells] at hcs
    obtain ⟨rfl, rfl, rfl⟩ := hcs
    exact ⟨[], none, 0, rfl, by simp, by simp, fun k r hk => by simp at hk⟩
  · simp [Value.cells] at hcs
    obtain ⟨rfl, rfl, rfl⟩ := hcs
    simp only [Prod.mk.injEq] at hx
    have hrow : len0 * 40 ≤ 140737488355000 := by
      have h1 := hw (((List.range len0).map D).length * Tryd.prog.bytesOf 39 + ((List.range (m - len0)).map fun j => D (len0 + j)).length * Tryd.prog.bytesOf 39) (by rw [hx.1]; simp [DataW.weights, Tryd.underlying41, Nat.add_mul])
      have h2 := reachIs
      rw [bytesTANS] at h1
      simp only [List.length_map, List.length_range] at h1
      omega
    have each : ∀ k, k < len0 → ∃ r : An, ∃ b off, a = ⟨b, off, none⟩ ∧ W.rangeAt b (off + k * 3) (anl r.o r.c r.d) ∧ Bs W r.d r.l ∧ -9223372036854775808 ≤ r.c ∧ r.c ≤ 9223372036854775807 := fun k hk => by
      have hkm : k < m := by rw [hmm]; simp; omega
      have hspot : a.spot = none := by
        obtain ⟨cs0, h10, _⟩ := hel 0 (by omega)
        rw [cellsTANS] at h10
        obtain ⟨_, hl0, hc0⟩ := World.cells?_some h10
        have r0 := hc0 0 (by omega)
        rw [List.getElem?_eq_getElem (show 0 < cs0.length by omega)] at r0
        simpa [Addr.add] using World.cell?_spot r0
      obtain ⟨cs', h1, h2⟩ := hel k hkm
      have hwk : ∀ n ∈ (D k).weights Tryd.prog 39, n ≤ reachBytes := fun n hn => hw n (by
        rw [hx.1]
        simp only [DataW.weights, Tryd.underlying41, List.mem_cons, List.mem_append]
        exact .inr (.inl (weightsAll_mem (List.mem_map.2 ⟨k, List.mem_range.2 hk, rfl⟩) hn)))
      rw [cellsTANS] at h1
      obtain ⟨_, hlen, hcell⟩ := World.cells?_some h1
      obtain ⟨r, e, hb, hc1, hc2⟩ := open_ans h2 hlen hwk
      obtain ⟨b, off, spot⟩ := a
      obtain rfl : spot = none := hspot
      refine ⟨r, b, off, rfl, fun j u hu => ?_, hb, hc1, hc2⟩
      rw [← e] at hu
      have hj : j < 3 := by have := (List.getElem?_eq_some_iff.1 hu).1; omega
      have := hcell j hj
      rw [Deep.add_add, Go.WideShapes.add_plain, ← Nat.add_assoc, hu] at this
      exact this
    obtain ⟨rs, hrl, hrs⟩ := listedP len0 each
    refine ⟨rs, some a, cap0, by rw [hrl], by omega, by omega, fun k r hr => ?_⟩
    obtain ⟨b, off, e, h1, h2, h3, h4⟩ := hrs k r hr
    exact ⟨⟨b, off, by rw [e], h1⟩, h2, h3, h4⟩
end Go.Proofs.YtodcakplmoajiaaDoor
