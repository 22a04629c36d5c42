import Derived.Test.YtceokpklcfmadaaQI9
import Derived.Test.YtceokpklcfmadaaQIB
/-
  Package index: a list of pairs among the arguments.
-/
namespace Go.Proofs.Ytceokpklcfmadaa
open Go.ChangeShapes Go.WideShapes Go.ChangeAt Go.RowKit
open Wb

theorem cellsTI5 : Try.prog.cellsOf 3 = 1 := by kernel_rfl
theorem cellsTP5 : Try.prog.cellsOf 54 = 2 := by kernel_rfl
set_option maxRecDepth 100000 in
theorem open_two5 {H : Type} {enc : TypeId × Value → H} {W : World} {fuel : Nat} {cs : List Value} {d : DataW H} {p : List MemPlace} (hf : DataW.trod enc Try.prog W 0 (fun _ => true) true fuel 54 cs = some (d, p)) (hlen : cs.length = 2) :
    ∃ x y, cs = [.int .i64 x, .int .i64 y] ∧ (Lit.int .i64 x).wf = true ∧ (Lit.int .i64 y).wf = true := by
  obtain ⟨xs, k', _, hxy, _, hxl, hfs⟩ := DataW.trod_struct Try.underlying54 hf
  match xs, hxl, cs, hlen with
  | [y0, y1], _, [v0, v1], _ =>
    have g0 := hfs 0 _ rfl
    have g1 := hfs 1 _ rfl
    simp [cellsTI5] at g0 g1
    obtain ⟨z0, e0, _, b0⟩ := DataW.trod_int Try.underlying3 g0
    obtain ⟨z1, e1, _, b1⟩ := DataW.trod_int Try.underlying3 g1
    simp only [List.cons.injEq, and_true] at e0 e1
    exact ⟨z0, z1, by simp only [e0, e1], b0, b1⟩
set_option maxRecDepth 100000 in
theorem open_prs5 {H : Type} {enc : TypeId × Value → H} {W : World} {base : Nat} {v : Value} {d : DataW H} {p : List MemPlace} (hv : Value.okWide Try.prog W .any base 55 v)
    (h : DataW.Trod enc Try.prog W 0 (fun _ => true) true 55 v d p) : ∃ ps, Pr W v ps ∧ ∀ x ∈ ps, (Lit.int .i64 x.1).wf = true ∧ (Lit.int .i64 x.2).wf = true := by
  obtain ⟨a0, len0, cap0, rfl⟩ := okWide_slice Try.underlying55 hv
  obtain ⟨fuel, hf⟩ := h
  rcases Deep.open_slice Try.underlying55 hf with ⟨hcs, _⟩ | ⟨a, len, cap, m, n, D, Pl, hcs, _, hl, hm, hmm, hx, hel⟩
  · simp [Value.cells] at hcs
    obtain ⟨rfl, rfl, rfl⟩ := hcs
    exact ⟨[], ⟨none, 0, rfl, by simp, by simp [maxLen], fun e => absurd rfl e⟩, fun x hx => by cases hx⟩
  · simp [Value.cells] at hcs
    obtain ⟨rfl, rfl, rfl⟩ := hcs
    have each : ∀ k, k < len0 → ∃ q : Int × Int, ∃ b off, a = ⟨b, off, none⟩ ∧ W.cell? ⟨b, off + k * 2, none⟩ = some (.int .i64 q.1) ∧ W.cell? ⟨b, off + k * 2 + 1, none⟩ = some (.int .i64 q.2) ∧ (Lit.int .i64 q.1).wf = true ∧ (Lit.int .i64 q.2).wf = true := fun k hk => by
      have hkm : k < m := by rw [hmm]; simp; omega
      obtain ⟨cs', h1, h2⟩ := hel k hkm
      rw [cellsTP5] at h1
      obtain ⟨_, hlen, hcell⟩ := World.cells?_some h1
      obtain ⟨x, y, rfl, bx, by1⟩ := open_two5 h2 hlen
      have r0 := hcell 0 (by omega)
      have r1 := hcell 1 (by omega)
      rw [Deep.add_add] at r0 r1
      have hspot : a.spot = none := by
        obtain ⟨cs0, h10, _⟩ := hel 0 (by omega)
        rw [cellsTP5] at h10
        obtain ⟨_, hl0, hc0⟩ := World.cells?_some h10
        have r9 := hc0 0 (by omega)
        rw [List.getElem?_eq_getElem (show 0 < cs0.length by omega)] at r9
        simpa [Addr.add] using World.cell?_spot r9
      obtain ⟨b, off, spot⟩ := a
      obtain rfl : spot = none := hspot
      rw [Go.WideShapes.add_plain] at r0 r1
      exact ⟨(x, y), b, off, rfl, by simpa using r0, by simpa [Nat.add_assoc] using r1, bx, by1⟩
    obtain ⟨q, hq⟩ := Deep.choose_lt each
    have hql : ((List.range len0).map q).length = len0 := by simp
    refine ⟨(List.range len0).map q, ⟨some a, cap0, by rw [hql], by rw [hql]; exact hl, hm, fun hne => ?_⟩, fun x hx => ?_⟩
    · have hpos : 0 < len0 := by
        rw [← hql]
        exact List.length_pos_iff.2 hne
      obtain ⟨b, off, rfl, -⟩ := hq 0 hpos
      refine ⟨b, off, rfl, fun j hj => ?_⟩
      rw [hql] at hj
      obtain ⟨b2, off2, e, c0, c1, -⟩ := hq j hj
      simp only [Addr.mk.injEq, and_true] at e
      obtain ⟨rfl, rfl⟩ := e
      simp only [List.getElem_map, List.getElem_range]
      exact ⟨c0, c1⟩
    · obtain ⟨j, hj, rfl⟩ := List.mem_map.1 hx
      obtain ⟨_, _, _, _, _, b0, b1⟩ := hq j (List.mem_range.1 hj)
      exact ⟨b0, b1⟩
end Go.Proofs.Ytceokpklcfmadaa
